"""Elderdraw: places drawn by ever elder signs, just as often as a walk rests there."""
