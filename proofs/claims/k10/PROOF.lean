import PyProof.Rows.All
import Wide.All
import OpenK.AllK
import Wide.FinOn
import HandS.ForMost
import HandS.ForExc
import HandS.Wide
import HandS.WideBits
import HandS.Gcd
import HandS.IsInst
import HandS.FStr
import HandS.OwnEq
import HandS.ExcIs
import HandS.ExcInit
import HandS.ExcValue
import HandS.Defaults
import HandS.RaiseMore
import HandS.Flow
import HandS.Style
import HandS.Zip
import HandS.StrMore
import HandS.CallSlots
import HandS.SlotsOwn
import HandS.Evl
import HandS.TryOnly
import HandS.EndBits
import HandS.Deep
import HandS.Strs
import HandS.TryMany
import HandS.ExcField
import HandS.Hot
import HandS.HotCalls
import HandS.ExcInitHot
import KE.GoesNew
import KE.KExcIs
import KE.GoesMore
import KE.SortData
import PySem.Challenge.RW_elderdraw_k10_closed_sets
set_option Elab.async false
set_option linter.all false
set_option maxRecDepth 100000
set_option maxHeartbeats 4000000
namespace My
open PySem PySem.Spec PyProof.Rows L2
/-! ### numbers: operators for ints of any size that the model takes -/
section
variable {X : Cx}
def CMulA (i j : Int) : Prop := IntMulOk i j
def CDivA (_ j : Int) : Prop := j ≠ 0 ∧ j.natAbs.log2 < 9000
def rMulA : R2 := rI CMulA fun i j => .int (i * j)
def rDivA : R2 := rI CDivA fun i j => .int (i.fdiv j)
theorem op_mulA : OpR X (binaryOp .Mult) rMulA := opI fun _ _ _ _ _ _ _ hc q => mul_int q hc
theorem op_fdivA : OpR X (binaryOp .FloorDiv) rDivA := opI fun i j _ _ _ _ _ hc q => floordiv_int hc.1 q (.inl (PyProof.noPylong_of_log2 hc.2))
def rModA : R2 := rI (fun _ j => j ≠ 0) fun i j => .int (i.fmod j)
def rPowA : R2 := rI CPow fun i j => .int (i ^ j.toNat)
theorem op_modA : OpR X (binaryOp .Mod) rModA := op_modN
theorem op_powA : OpR X (binaryOp .Pow) rPowA := op_pow
def rInt : List V → Hp → VK → Prop := fun xs H Q => (∃ i, xs = [.int i] ∧ Q (.int i) H) ∨ ∃ k, xs = [.bl k] ∧ Q (.int (if k then 1 else 0)) H
theorem cr_int : CallR X (.type "int") rInt := call_int1
def rAbs : List V → Hp → VK → Prop := fun xs H Q => ∃ i, xs = [.int i] ∧ Q (.int (if i < 0 then -i else i)) H
theorem cr_abs : CallR X (.builtin "abs") rAbs := call_abs
theorem mul_r {i j : Int} (h : -(2 ^ 63) < j) (h' : j < 2 ^ 63) : CMulA i j := (show CMul i j from .inr ⟨by omega, by omega⟩).ok
theorem mul_l {i j : Int} (h : -(2 ^ 63) < i) (h' : i < 2 ^ 63) : CMulA i j := (show CMul i j from .inl ⟨by omega, by omega⟩).ok
theorem mul_b {i j : Int} {a b : Nat} (ha : i.natAbs < 2 ^ a) (hb : j.natAbs < 2 ^ b) (h : a + b ≤ 134217728) : CMulA i j := (mulx_ok ha hb h).ok
theorem div_b {i j : Int} {b : Nat} (h : j ≠ 0) (hb : j.natAbs < 2 ^ b) (h9 : b ≤ 9000) (h0 : 0 < b) : CDivA i j := ⟨h, Nat.lt_of_lt_of_le (PySem.Flt.log2_lt_of h0 hb) h9⟩
theorem div_s {i j : Int} (h : 0 < j) (h' : j < 2 ^ 63) : CDivA i j := div_b (b := 64) (by omega) (by omega) (by decide) (by decide)
theorem fdiv_pos {i j : Int} (h : 0 < j) : i.fdiv j = i / j := Int.fdiv_eq_ediv_of_nonneg i (by omega)
theorem fmod_pos {i j : Int} (h : 0 < j) : i.fmod j = i % j := Int.fmod_eq_emod_of_nonneg i (by omega)
end
section
variable {X : Cx}
def rLen (K : PySem.W.Frag) : List V → Hp → VK → Prop := fun xs H Q => ∃ p ys, xs = [.ref p] ∧ (SqL K H p ys ∨ SqT K H p ys) ∧ Q (.int ys.length) H
theorem cr_len : CallR X (.builtin "len") (rLen X.K) := call_len_seq
def rListOf (K : PySem.W.Frag) : List V → Hp → VK → Prop := fun xs H Q => ∃ p ys, xs = [.ref p] ∧ (SqL K H p ys ∨ SqT K H p ys) ∧ ∀ l, H l = none → Q (.ref l) (upd H l (.lst ys))
theorem cr_listOf : CallR X (.type "list") (rListOf X.K) := call_list_of
end
/-! ### a def that stands behind the top, and its promise -/
structure Df (P : Program) (w : World) (K : PySem.W.Frag) (mg : Str → Option Value) (base : Heap) (CX : CXT) (k : Nat) (x : Str) (ps : List Str) (sp : Sp) : Prop where
  ex : ∃ (f : Addr) (fd : FuncData), mg x = some (.ref f) ∧ PySem.W.keepIn K (.ref f) = true ∧ FnOk P w K mg base CX k f fd ps sp ∧ Binds K fd ps []
/-- a class C with an __init__: sp its promise, dvs its defaults -/
structure Md (P : Program) (w : World) (K : PySem.W.Frag) (mg : Str → Option Value) (base : Heap) (CX : CXT) (k : Nat) (C : Addr) (ps : List Str) (dvs : List V) (sp : Sp) : Prop where
  ex : ∃ (f : Addr) (fd : FuncData) (ds : List Value), Mk K C f ∧ FnOk P w K mg base CX k f fd ps sp ∧ Binds K fd ps ds ∧ Binds K fd ps [] ∧ Vals dvs ds
section
variable {X : Cx} {CX : CXT} {k : Nat} {x : Str} {ps : List Str} {sp : Sp} {E : XK} {p pos : Pos} {e : Expr} {es : List Expr} {t : TA} {C : Addr} {dvs : List V}
theorem pe_df (D : Df X.prog X.w X.K X.mg X.base CX k x ps sp) (hr : Room k X.A) (hx : Passes CX X E) (ha : PA X (e :: es) t) (hg : Gl X x := by rfl) (hdb : (x == ("__debug__" : Str)) = false := by decide)
    (he : starEach (e :: es) X.env = (false, eval e X.env) :: starEach es X.env := by rfl) (hpl : (backTo pos (starEach es X.env)).any (·.1) = false := by rfl) :
    PE X (.Call (.Name x p) (e :: es) [] pos) (tCall sp [] E t) := by
  obtain ⟨f, fd, h1, h2, h3, h4⟩ := D.ex
  exact pe_call h3 hr hg h1 h2 h4 .nil hx ha hdb he hpl
theorem pe_df0 (D : Df X.prog X.w X.K X.mg X.base CX k x ps sp) (hr : Room k X.A) (hx : Passes CX X E) (hg : Gl X x := by rfl) (hdb : (x == ("__debug__" : Str)) = false := by decide) :
    PE X (.Call (.Name x p) [] [] pos) (tCall sp [] E tNil) := by
  obtain ⟨f, fd, h1, h2, h3, h4⟩ := D.ex
  exact pe_call0 h3 hr hg h1 h2 h4 .nil hx hdb
theorem pe_dfS {ES : L2.St → XK} (D : Df X.prog X.w X.K X.mg X.base CX k x ps sp) (hr : Room k X.A) (hx : ∀ σ, PassesAt CX X σ (ES σ)) (ha : PA X (e :: es) t) (hg : Gl X x := by rfl) (hdb : (x == ("__debug__" : Str)) = false := by decide)
    (he : starEach (e :: es) X.env = (false, eval e X.env) :: starEach es X.env := by rfl) (hpl : (backTo pos (starEach es X.env)).any (·.1) = false := by rfl) :
    PE X (.Call (.Name x p) (e :: es) [] pos) (tCallS sp ES t) := by
  obtain ⟨f, fd, h1, h2, h3, h4⟩ := D.ex
  exact pe_callS h3 hr hg h1 h2 h4 hx ha hdb he hpl
theorem pe_mkd (D : Md X.prog X.w X.K X.mg X.base CX k C ps dvs sp) (hr : Room (k + 1) X.A) (hm : X.mg x = some (.ref C)) (hx : Passes CX X E) (ha : PA X (e :: es) t) (hg : Gl X x := by rfl) (hdb : (x == ("__debug__" : Str)) = false := by decide)
    (he : starEach (e :: es) X.env = (false, eval e X.env) :: starEach es X.env := by rfl) (hpl : (backTo pos (starEach es X.env)).any (·.1) = false := by rfl) :
    PE X (.Call (.Name x p) (e :: es) [] pos) (tMake C sp [] E t) := by
  obtain ⟨f, fd, ds, h1, h2, h3, h4, h5⟩ := D.ex
  exact pe_make h1 h2 hr hg hm h4 .nil hx ha hdb he hpl
/-- with its defaults -/
theorem pe_mkd1 (D : Md X.prog X.w X.K X.mg X.base CX k C ps dvs sp) (hr : Room (k + 1) X.A) (hm : X.mg x = some (.ref C)) (hx : Passes CX X E) (ha : PA X (e :: es) t) (hg : Gl X x := by rfl) (hdb : (x == ("__debug__" : Str)) = false := by decide)
    (he : starEach (e :: es) X.env = (false, eval e X.env) :: starEach es X.env := by rfl) (hpl : (backTo pos (starEach es X.env)).any (·.1) = false := by rfl) :
    PE X (.Call (.Name x p) (e :: es) [] pos) (tMake C sp dvs E t) := by
  obtain ⟨f, fd, ds, h1, h2, h3, h4, h5⟩ := D.ex
  exact pe_make h1 h2 hr hg hm h3 h5 hx ha hdb he hpl
end
/-- all parameters of a def with defaults are given -/
theorem binds_all {K : PySem.W.Frag} {x qual : Str} {params : Arguments} {body : List Stmt} {scope : Scope} {dvs : List V} {kws : List (Str × V)} {f : Addr} {fd : FuncData} {ps : List Str} (F : FunD K x qual params body scope dvs kws f fd)
    (h : ∀ (dV kV doc pm : Value) (an : Option Addr) (cdv ct : Value) (us : List Value), us.length = ps.length → bindArgs (PySem.W.fnOf x qual params body scope dV kV doc pm an cdv ct) ⟨us, []⟩ = pure (ps.zip us)) : Binds K fd ps [] := by
  obtain ⟨oc, od, dV, kV, doc, pm, an, cdv, ct, osl, rfl, _⟩ := F.ex
  exact .all fun us hl => h dV kV doc pm an cdv ct us hl
/-! ### readings, step by step -/
section
variable {D : Ends} {σ : L2.St} {H : Hp} {Q : VK} {QB : Bool → Hp → Prop} {QL : List V → Hp → Prop} {t u : TS} {te ta tb : TE} {c c1 c2 : TT} {g : TG} {tr : TA} {i j : Nat} {v x y : V} {r : R2} {K : PySem.W.Frag}
theorem rd_seq (h : t { D with nx := u D } σ H) : tSeq t u D σ H := h
theorem rd_next (h : D.nx σ H) : tNext D σ H := h
theorem rd_asg (h : te σ H fun x H1 => g x σ H1 D.nx) : tAsg te g D σ H := h
theorem rd_drop (h : te σ H fun _ H1 => D.nx σ H1) : tDrop te D σ H := h
theorem rd_ret (h : te σ H D.rt) : tRet te D σ H := h
theorem rd_retN (h : D.rt .non H) : tRetN D σ H := h
theorem rd_ifS (h : c σ H fun b H1 => if b = true then t D σ H1 else u D σ H1) : tIfS c t u D σ H := h
/-- an if whose ways meet: M holds behind it -/
theorem rd_if2 (M : L2.St → Hp → Prop) (rest : ∀ σ' H', M σ' H' → D.nx σ' H') (h : (∀ σ' H', M σ' H' → D.nx σ' H') → c σ H fun b H1 => if b = true then t D σ H1 else u D σ H1) : tIfS c t u D σ H := h rest
theorem rd_par (h : ta σ H fun x H1 => tb σ H1 fun y H2 => D.nx ((σ.set i (some x)).set j (some y)) H2) : tPar i j (tCons ta (tCons tb tNil)) D σ H := by
  refine (show ta σ H (fun x H1 => tb σ H1 fun y H2 => ∃ v w, [x, y] = [v, w] ∧ D.nx ((σ.set i (some v)).set j (some w)) H2) from ?_)
  have e : (fun (x : V) (H1 : Hp) => tb σ H1 fun y H2 => ∃ v w, [x, y] = [v, w] ∧ D.nx ((σ.set i (some v)).set j (some w)) H2) = (fun x H1 => tb σ H1 fun y H2 => D.nx ((σ.set i (some x)).set j (some y)) H2) := by
    funext x H1
    congr 1
    funext y H2
    apply propext
    constructor
    · rintro ⟨v, w, q, z⟩
      cases q
      exact z
    · intro z
      exact ⟨x, y, rfl, z⟩
  rw [e]
  exact h
theorem rd_name {Qs : L2.St → Hp → Prop} (h : Qs (σ.set i (some v)) H) : gName i v σ H Qs := h
theorem rd_var (e : σ[i]? = some (some v)) (h : Q v H) : tVar i σ H Q := ⟨v, e, h⟩
theorem rd_c (h : Q v H) : tC v σ H Q := h
theorem rd_op (h : ta σ H fun x H1 => tb σ H1 fun y H2 => r x y H2 Q) : tOp r ta tb σ H Q := h
theorem rd_un {r : V → Hp → VK → Prop} (h : ta σ H fun x H1 => r x H1 Q) : tUn r ta σ H Q := h
theorem rd_U {f : Int → V} {n : Int} (h : Q (f n) H) : rU f (.int n) H Q := ⟨n, rfl, h⟩
theorem rd_I0 {f : Int → Int → V} {a b : Int} (h : Q (f a b) H) : rI0 f (.int a) (.int b) H Q := ⟨a, b, rfl, rfl, h⟩
theorem rd_I {C : Int → Int → Prop} {f : Int → Int → V} {a b : Int} (hc : C a b) (h : Q (f a b) H) : rI C f (.int a) (.int b) H Q := ⟨a, b, rfl, rfl, hc, h⟩
def kB (Q : Bool → Hp → Prop) : VK := fun x H1 => ∃ k, x = .bl k ∧ Q k H1
theorem rd_kB {b : Bool} (h : QB b H) : kB QB (.bl b) H := ⟨b, rfl, h⟩
theorem rd_test (h : te σ H (kB QB)) : tTest te σ H QB := h
theorem rd_B (h : te σ H (kB QB)) : tB te σ H QB := h
theorem rd_and (h : c1 σ H fun b H1 => if b = true then c2 σ H1 QB else QB false H1) : tAnd c1 c2 σ H QB := h
theorem rd_or (h : c1 σ H fun b H1 => if b = true then QB true H1 else c2 σ H1 QB) : tOr c1 c2 σ H QB := h
theorem rd_not (h : c σ H fun b H1 => QB (!b) H1) : tNot c σ H QB := h
theorem rd_andV (h : ta σ H (kB fun b H1 => if b = true then tb σ H1 Q else Q (.bl false) H1)) : tAndV ta tb σ H Q := h
theorem rd_orV (h : ta σ H (kB fun b H1 => if b = true then Q (.bl true) H1 else tb σ H1 Q)) : tOrV ta tb σ H Q := h
theorem rd_notV (h : ta σ H (kB fun b H1 => Q (.bl (!b)) H1)) : tNotV ta σ H Q := h
theorem rd_if (h : c σ H fun b H1 => if b = true then ta σ H1 Q else tb σ H1 Q) : tIf c ta tb σ H Q := h
theorem rd_eq (hs : scal x y = true) (h : Q (.bl (decide (x = y))) H) : rEq x y H Q := ⟨hs, h⟩
theorem rd_ne (hs : scal x y = true) (h : Q (.bl (!decide (x = y))) H) : rNe x y H Q := ⟨hs, h⟩
theorem rd_eqI {a b : Int} (h : Q (.bl (decide (a = b))) H) : rEq (.int a) (.int b) H Q := by
  refine ⟨rfl, ?_⟩
  have e : decide (V.int a = V.int b) = decide (a = b) := by by_cases q : a = b <;> simp [q]
  rw [e]
  exact h
theorem rd_neI {a b : Int} (h : Q (.bl (!decide (a = b))) H) : rNe (.int a) (.int b) H Q := by
  refine ⟨rfl, ?_⟩
  have e : decide (V.int a = V.int b) = decide (a = b) := by by_cases q : a = b <;> simp [q]
  rw [e]
  exact h
theorem rd_cons (h : ta σ H fun x H1 => tr σ H1 fun xs H2 => QL (x :: xs) H2) : tCons ta tr σ H QL := h
theorem rd_nil (h : QL [] H) : tNil σ H QL := h
theorem rd_call {sp : Sp} {dvs : List V} {E : XK} (h : tr σ H fun vs H1 => sp (vs ++ dvs) H1 Q E) : tCall sp dvs E tr σ H Q := h
theorem rd_callS {sp : Sp} {ES : L2.St → XK} (h : tr σ H fun vs H1 => sp vs H1 Q (ES σ)) : tCallS sp ES tr σ H Q := h
def kMake (C : Addr) (sp : Sp) (dvs : List V) (E : XK) (Q : VK) : List V → Hp → Prop := fun vs H1 => ∀ x dx, H1 x = none → H1 dx = none → dx ≠ x → sp (.ref x :: (vs ++ dvs)) (upd (upd H1 dx (.own x)) x (.ins C dx [])) (fun v H2 => v = .non ∧ Q (.ref x) H2) E
theorem rd_make {sp : Sp} {dvs : List V} {E : XK} {C : Addr} (h : tr σ H (kMake C sp dvs E Q)) : tMake C sp dvs E tr σ H Q := h
theorem rd_CB {r : List V → Hp → VK → Prop} (h : tr σ H fun vs H1 => r vs H1 Q) : tCB r tr σ H Q := h
def kTup (Q : VK) : List V → Hp → Prop := fun xs H1 => xs.length ≤ sizeLine ∧ ∀ p, H1 p = none → Q (.ref p) (upd H1 p (.tup xs))
def kLst (Q : VK) : List V → Hp → Prop := fun xs H1 => xs.length ≤ sizeLine ∧ ∀ p, H1 p = none → Q (.ref p) (upd H1 p (.lst xs))
theorem rd_tup (h : tr σ H (kTup Q)) : tTup tr σ H Q := h
theorem rd_lst (h : tr σ H (kLst Q)) : tLst tr σ H Q := h
theorem rd_kTup {xs : List V} (hl : Nat.ble xs.length 1000 = true) (h : ∀ p, H p = none → Q (.ref p) (upd H p (.tup xs))) : kTup Q xs H := ⟨Nat.le_trans (Nat.le_of_ble_eq_true hl) (by decide), h⟩
theorem rd_kLst {xs : List V} (hl : Nat.ble xs.length 1000 = true) (h : ∀ p, H p = none → Q (.ref p) (upd H p (.lst xs))) : kLst Q xs H := ⟨Nat.le_trans (Nat.le_of_ble_eq_true hl) (by decide), h⟩
theorem rd_ixL {p : Addr} {xs : List V} {n : Int} (hl : SqL K H p xs) (ha : atI xs n = some v) (h : Q v H) : rIxL K (.ref p) (.int n) H Q := ⟨p, xs, n, v, rfl, rfl, hl, ha, h⟩
theorem rd_ixT {p : Addr} {xs : List V} {n : Int} (hl : SqT K H p xs) (ha : atI xs n = some v) (h : Q v H) : rIxT K (.ref p) (.int n) H Q := ⟨p, xs, n, v, rfl, rfl, hl, ha, h⟩
theorem rd_mul {a b : Int} (hc : CMulA a b) (h : Q (.int (a * b)) H) : rMulA (.int a) (.int b) H Q := ⟨a, b, rfl, rfl, hc, h⟩
theorem rd_div {a b : Int} (hc : CDivA a b) (h : Q (.int (a.fdiv b)) H) : rDivA (.int a) (.int b) H Q := ⟨a, b, rfl, rfl, hc, h⟩
theorem rd_divP {a b : Int} (h0 : 0 < b) (hc : CDivA a b) (h : Q (.int (a / b)) H) : rDivA (.int a) (.int b) H Q := ⟨a, b, rfl, rfl, hc, (show Q (.int (a.fdiv b)) H by rw [fdiv_pos h0]; exact h)⟩
theorem rd_mod {a b : Int} (hc : b ≠ 0) (h : Q (.int (a.fmod b)) H) : rModA (.int a) (.int b) H Q := ⟨a, b, rfl, rfl, hc, h⟩
theorem rd_modP {a b : Int} (h0 : 0 < b) (h : Q (.int (a % b)) H) : rModA (.int a) (.int b) H Q := ⟨a, b, rfl, rfl, (by omega : b ≠ 0), (show Q (.int (a.fmod b)) H by rw [fmod_pos h0]; exact h)⟩
theorem rd_pow {a b : Int} (h0 : 0 ≤ b) (h1 : b ≤ 1000000) (h2 : a.natAbs < 2 ^ 64) (h : Q (.int (a ^ b.toNat)) H) : rPowA (.int a) (.int b) H Q := ⟨a, b, rfl, rfl, ⟨h0, h1, h2⟩, h⟩
theorem rd_int {a : Int} (h : Q (.int a) H) : rInt [.int a] H Q := .inl ⟨a, rfl, h⟩
theorem rd_intB {b : Bool} (h : Q (.int (if b then 1 else 0)) H) : rInt [.bl b] H Q := .inr ⟨b, rfl, h⟩
theorem rd_abs {a : Int} (h : Q (.int (if a < 0 then -a else a)) H) : rAbs [.int a] H Q := ⟨a, rfl, h⟩
theorem ite_d {p : Prop} [Decidable p] {A B : Prop} (h1 : p → A) (h2 : ¬ p → B) : if decide p = true then A else B := by
  by_cases h : p
  · rw [if_pos (decide_eq_true h)]; exact h1 h
  · rw [if_neg (by simp [h])]; exact h2 h
theorem ite_nd {p : Prop} [Decidable p] {A B : Prop} (h1 : ¬ p → A) (h2 : p → B) : if (!decide p) = true then A else B := by
  by_cases h : p
  · rw [if_neg (by simp [h])]; exact h2 h
  · rw [if_pos (by simp [h])]; exact h1 h
theorem ite_b {b : Bool} {A B : Prop} (h1 : b = true → A) (h2 : b = false → B) : if b = true then A else B := by
  cases b with
  | true => exact iteT (h1 rfl)
  | false => exact iteF (h2 rfl)
theorem rd_len {p : Addr} {ys : List V} (h : SqL K H p ys) (q : Q (.int ys.length) H) : rLen K [.ref p] H Q := ⟨p, ys, rfl, .inl h, q⟩
theorem rd_lenT {p : Addr} {ys : List V} (h : SqT K H p ys) (q : Q (.int ys.length) H) : rLen K [.ref p] H Q := ⟨p, ys, rfl, .inr h, q⟩
theorem rd_listOf {p : Addr} {ys : List V} (h : SqL K H p ys) (k : ∀ l, H l = none → Q (.ref l) (upd H l (.lst ys))) : rListOf K [.ref p] H Q := ⟨p, ys, rfl, .inl h, k⟩
theorem rd_sum {p : Addr} {ns : List Int} (h : SqL K H p (ns.map V.int)) (hz : ns.length ≤ 100000) (k : Q (.int ns.sum) H) : rSum K [.ref p] H Q := by
  refine ⟨p, ns, rfl, ?_⟩
  first | exact ⟨.inl h, k⟩ | exact ⟨h, k⟩ | exact ⟨h, Nat.le_trans hz (by decide), k⟩ | exact ⟨.inl h, Nat.le_trans hz (by decide), k⟩
def kFld (K : PySem.W.Frag) (f : Str) (Q : VK) : VK := fun x H1 => ∃ a C dx fs v, x = .ref a ∧ H1 a = some (.ins C dx fs) ∧ Cls K C ∧ NoAttr K C f ∧ fs.lookup f = some v ∧ Q v H1
theorem rd_fld {f : Str} (h : ta σ H (kFld K f Q)) : tFld K ta f σ H Q := h
theorem rd_kFld {f : Str} {a C dx : Addr} {fs : List (Str × V)} (ho : H a = some (.ins C dx fs)) (c : Cls K C) (n : NoAttr K C f) (l : fs.lookup f = some v) (q : Q v H) : kFld K f Q (.ref a) H := ⟨a, C, dx, fs, v, rfl, ho, c, n, l, q⟩
def kSet (K : PySem.W.Frag) (f : Str) (y : V) (N : Hp → Prop) : VK := fun x H2 => ∃ a C dx fs, x = .ref a ∧ H2 a = some (.ins C dx fs) ∧ Cls K C ∧ NoAttr K C f ∧ fs.length < 1000 ∧ N (upd H2 a (.ins C dx (putF f y fs)))
theorem rd_sfld {f : Str} {tv : TE} (h : tv σ H fun y H1 => ta σ H1 (kSet K f y (D.nx σ))) : sFld K ta tv f D σ H := h
theorem rd_kSet {f : Str} {N : Hp → Prop} {a C dx : Addr} {fs : List (Str × V)} (ho : H a = some (.ins C dx fs)) (c : Cls K C) (n : NoAttr K C f) (l : Nat.blt fs.length 1000 = true) (q : N (upd H a (.ins C dx (putF f y fs)))) : kSet K f y N (.ref a) H := ⟨a, C, dx, fs, rfl, ho, c, n, (by have z : fs.length + 1 ≤ 1000 := Nat.le_of_ble_eq_true l; exact z), q⟩
theorem rd_isi {z c : V} {tt uu : Value} {b : Bool} (k : ClsV c uu) (ty : TyX K H z tt) (e : PySem.W.kitOne K tt uu = some b) (q : Q (.bl b) H) : rIsi K [z, c] H Q := ⟨z, c, tt, uu, b, rfl, k, ty, e, q⟩
theorem rd_gcd {a b : Int} (q : Q (.int ((Nat.gcd a.natAbs b.natAbs : Nat) : Int)) H) : rGcd [.int a, .int b] H Q := ⟨a, b, rfl, q⟩
theorem rd_powC {a b n : Int} (h0 : 0 ≤ b) (h1 : b ≤ 1000000) (h2 : a.natAbs < 2 ^ 64) (e : a ^ b.toNat = n) (h : Q (.int n) H) : rPowA (.int a) (.int b) H Q := ⟨a, b, rfl, rfl, ⟨h0, h1, h2⟩, by subst e; exact h⟩
theorem rd_gtup {ts : TGs} {n : Nat} {Qs : L2.St → Hp → Prop} {p : Addr} {xs : List V} (hs : SqT K H p xs) (hn : xs.length = n) (h : ts xs σ H Qs) : gTup K n ts (.ref p) σ H Qs := ⟨p, xs, rfl, hs, hn, h⟩
theorem rd_gcons {ts : TGs} {xs : List V} {Qs : L2.St → Hp → Prop} (h : g x σ H fun σ' H' => ts xs σ' H' Qs) : gCons g ts (x :: xs) σ H Qs := ⟨x, xs, rfl, h⟩
theorem rd_gnil {Qs : L2.St → Hp → Prop} (h : Qs σ H) : gNil [] σ H Qs := ⟨rfl, h⟩
theorem kit_same {t : Value} (h : (t == t) = true := by rfl) : PySem.W.kitOne K t t = some true := if_pos h
theorem rd_cat {l b : Addr} {xs zs : List V} (h1 : H l = some (.lst xs)) (h2 : H b = some (.lst zs)) (hz : xs.length + zs.length ≤ 100000) (k : ∀ p, H p = none → Q (.ref p) (upd H p (.lst (xs ++ zs)))) : rCat (.ref l) (.ref b) H Q :=
  ⟨l, b, xs, zs, rfl, rfl, h1, h2, Nat.le_trans hz (by decide), k⟩
theorem rd_sl {r : V → Option Int → Option Int → Hp → VK → Prop} {tl th : TO} (h : te σ H fun x H1 => tl σ H1 fun l H2 => th σ H2 fun u H3 => r x l u H3 Q) : tSl r te tl th σ H Q := h
theorem rd_noPart {QO : Option Int → Hp → Prop} (h : QO none H) : tNoPart σ H QO := h
def kPart (QO : Option Int → Hp → Prop) : VK := fun x H1 => ∃ i, x = .int i ∧ QO (some i) H1
theorem rd_part {QO : Option Int → Hp → Prop} (h : te σ H (kPart QO)) : tPart te σ H QO := h
theorem rd_kPart {QO : Option Int → Hp → Prop} {n : Int} (h : QO (some n) H) : kPart QO (.int n) H := ⟨n, rfl, h⟩
theorem rd_slL {a : Addr} {xs : List V} {lo hi : Option Int} (hs : SqL K H a xs) (k : ∀ p, H p = none → Q (.ref p) (upd H p (.lst (cutV xs lo hi)))) : rSlL K (.ref a) lo hi H Q := ⟨a, xs, rfl, hs, k⟩
def kFor (K : PySem.W.Frag) (g : TG) (tb : TS) (D : Ends) (σ : L2.St) : VK := fun x H1 => ∃ a, x = .ref a ∧ (∃ xs, SqL K H1 a xs) ∧ ∃ W : Nat → Nat → L2.St → Hp → Prop, (∃ m, W 0 m σ H1) ∧ ∀ i m σ H, W i m σ H →
  ((Itl K a).stop i H ∧ D.nx σ H) ∨ ((Itl K a).go i H ∧ ∃ N : L2.St → Hp → Prop, (∀ σ' H', N σ' H' → ∃ m', m' < m ∧ W (i + 1) m' σ' H') ∧ ∀ x H', (Itl K a).yld i H x H' → g x σ H' fun σ2 H2 => tb { D with nx := N, ct := N, bk := D.nx } σ2 H2)
theorem rd_for {tb : TS} (h : te σ H (kFor K g tb D σ)) : tFor (iList K te) g tb D σ H := h
theorem rd_kFor {tb : TS} {a : Addr} {xs : List V} (Pv : Nat → L2.St → Hp → Prop) (hq : SqL K H a xs) (h0 : Pv 0 σ H) (hl : ∀ i σ H, i ≤ xs.length → Pv i σ H → SqL K H a xs)
    (hs : ∀ i x σ H, xs[i]? = some x → Pv i σ H → g x σ H fun σ2 H2 => tb { D with nx := Pv (i + 1), ct := Pv (i + 1), bk := D.nx } σ2 H2) (hd : ∀ σ H, Pv xs.length σ H → D.nx σ H) : kFor K g tb D σ (.ref a) H := ⟨a, rfl, ⟨xs, hq⟩, for_list Pv h0 hl hs hd⟩
/-- a list made item by item, without a test; J i acc D H: i items are done, acc stands at D -/
def kLc (K : PySem.W.Frag) (g : TG) (te : TE) (vs : List Nat) (σ : L2.St) (Q : VK) : VK := fun x H1 => ∃ a, x = .ref a ∧ (∃ xs, SqL K H1 a xs) ∧ ∀ D, H1 D = none → ∃ W : Nat → Nat → Hp → Prop, (∃ m, W 0 m (upd H1 D (.lst []))) ∧ ∀ i m H, W i m H →
  ((Itl K a).stop i H ∧ Q (.ref D) H) ∨ ((Itl K a).go i H ∧ ∃ Nx : Hp → Prop, (∀ H', Nx H' → ∃ m', m' < m ∧ W (i + 1) m' H') ∧ ∀ x H', (Itl K a).yld i H x H' → g x (wipe σ vs) H' fun σ2 H2 => wipe σ2 vs = wipe σ vs ∧ tYes σ2 H2 fun b H3 =>
    if b = true then te σ2 H3 fun y H4 => ∃ acc, H4 D = some (.lst acc) ∧ acc.length < sizeLine ∧ Nx (upd H4 D (.lst (acc ++ [y]))) else Nx H3)
theorem rd_lc {vs : List Nat} (h : ta σ H (kLc K g te vs σ Q)) : tLc (iList K ta) g tYes te vs σ H Q := h
def kLcEnd (J : Nat → List V → Addr → Hp → Prop) (D : Addr) (i : Nat) : VK := fun y H4 => ∃ acc, H4 D = some (.lst acc) ∧ acc.length < sizeLine ∧ ∃ acc2, acc2.length = i + 1 ∧ upd H4 D (.lst (acc ++ [y])) D = some (.lst acc2) ∧ J (i + 1) acc2 D (upd H4 D (.lst (acc ++ [y])))
theorem rd_lcEnd {J : Nat → List V → Addr → Hp → Prop} {D : Addr} {i : Nat} {acc : List V} {y : V} (h1 : H D = some (.lst acc)) (h2 : acc.length = i) (hz : i < 200000) (h3 : J (i + 1) (acc ++ [y]) D (upd H D (.lst (acc ++ [y])))) : kLcEnd J D i y H :=
  ⟨acc, h1, by rw [h2]; exact Nat.lt_trans hz (by decide), acc ++ [y], by rw [List.length_append, h2]; rfl, upd_same, h3⟩
theorem rd_kLc {vs : List Nat} {a : Addr} {xs : List V} (J : Nat → List V → Addr → Hp → Prop) (hq : SqL K H a xs) (h0 : ∀ D, H D = none → J 0 [] D (upd H D (.lst []))) (hl : ∀ i acc D H', J i acc D H' → SqL K H' a xs)
    (hs : ∀ i x acc D H', H D = none → i < xs.length → xs[i]? = some x → H' D = some (.lst acc) → acc.length = i → J i acc D H' → g x (wipe σ vs) H' fun σ2 H2 => wipe σ2 vs = wipe σ vs ∧ te σ2 H2 (kLcEnd J D i))
    (mono : ∀ x H' (Q1 Q2 : L2.St → Hp → Prop), (∀ s h, Q1 s h → Q2 s h) → g x (wipe σ vs) H' Q1 → g x (wipe σ vs) H' Q2)
    (hd : ∀ acc D H', H D = none → acc.length = xs.length → H' D = some (.lst acc) → J xs.length acc D H' → Q (.ref D) H') : kLc K g te vs σ Q (.ref a) H := by
  refine ⟨a, rfl, ⟨xs, hq⟩, fun D hD => ?_⟩
  refine lc_list (fun i H' => ∃ acc, acc.length = i ∧ H' D = some (.lst acc) ∧ J i acc D H') ⟨[], rfl, upd_same, h0 D hD⟩ (fun i H' _ ⟨acc, _, _, j⟩ => hl i acc D H' j) ?_ fun H' ⟨acc, e, h, j⟩ => hd acc D H' hD e h j
  rintro i x H' hx ⟨acc, e, h, j⟩
  refine mono x H' _ _ (fun s h' z => ?_) (hs i x acc D H' hD (List.getElem?_eq_some_iff.mp hx).1 hx h e j)
  refine ⟨z.1, ?_⟩
  unfold tYes
  dsimp only
  rw [if_pos rfl]
  exact z.2
theorem g_mono (i : Nat) (vs : List Nat) : ∀ x H' (Q1 Q2 : L2.St → Hp → Prop), (∀ s h, Q1 s h → Q2 s h) → gName i x (wipe σ vs) H' Q1 → gName i x (wipe σ vs) H' Q2 := fun _ _ _ _ f q => f _ _ q
def rRevL (K : PySem.W.Frag) (Q : VK) : VK := fun x H1 => ∃ a xs, x = .ref a ∧ SqL K H1 a xs ∧ ∀ p, H1 p = none → Q (.ref p) (upd H1 p (.lst xs.reverse))
theorem rd_rev (h : te σ H (rRevL K Q)) : tRevL K te σ H Q := h
theorem rd_kRev {a : Addr} {xs : List V} (hq : SqL K H a xs) (k : ∀ p, H p = none → Q (.ref p) (upd H p (.lst xs.reverse))) : rRevL K Q (.ref a) H := ⟨a, xs, rfl, hq, k⟩
def kRng1 (g : TG) (tb : TS) (D : Ends) (σ : L2.St) : List V → Hp → Prop := fun vs H1 => ∃ j : Int, vs = [.int j] ∧ -(2 ^ 62) ≤ j ∧ j < 2 ^ 62 ∧ ∃ W : Nat → Nat → L2.St → Hp → Prop, (∃ m, W 0 m σ H1) ∧ ∀ i m σ H, W i m σ H →
  ((Itr 0 j.toNat).stop i H ∧ D.nx σ H) ∨ ((Itr 0 j.toNat).go i H ∧ ∃ N : L2.St → Hp → Prop, (∀ σ' H', N σ' H' → ∃ m', m' < m ∧ W (i + 1) m' σ' H') ∧ ∀ x H', (Itr 0 j.toNat).yld i H x H' → g x σ H' fun σ2 H2 => tb { D with nx := N, ct := N, bk := D.nx } σ2 H2)
theorem rd_forR {tb : TS} (h : tr σ H (kRng1 g tb D σ)) : tFor (iRng1 tr) g tb D σ H := h
theorem rd_kRng1 {tb : TS} {j : Int} (h1 : -(2 ^ 62) ≤ j) (h2 : j < 2 ^ 62) (Pv : Nat → L2.St → Hp → Prop) (h0 : Pv 0 σ H)
    (hs : ∀ i σ H, i < j.toNat → Pv i σ H → g (.int (0 + i)) σ H fun σ2 H2 => tb { D with nx := Pv (i + 1), ct := Pv (i + 1), bk := D.nx } σ2 H2) (hd : ∀ σ H, Pv j.toNat σ H → D.nx σ H) : kRng1 g tb D σ [.int j] H := ⟨j, rfl, h1, h2, for_range (lo := 0) (n := j.toNat) Pv h0 hs hd⟩
def kRng2 (g : TG) (tb : TS) (D : Ends) (σ : L2.St) : List V → Hp → Prop := fun vs H1 => ∃ i j : Int, vs = [.int i, .int j] ∧ (-(2 ^ 62) ≤ i ∧ i < 2 ^ 62 ∧ -(2 ^ 62) ≤ j ∧ j < 2 ^ 62) ∧ ∃ W : Nat → Nat → L2.St → Hp → Prop, (∃ m, W 0 m σ H1) ∧ ∀ k m σ H, W k m σ H →
  ((Itr i (j - i).toNat).stop k H ∧ D.nx σ H) ∨ ((Itr i (j - i).toNat).go k H ∧ ∃ N : L2.St → Hp → Prop, (∀ σ' H', N σ' H' → ∃ m', m' < m ∧ W (k + 1) m' σ' H') ∧ ∀ x H', (Itr i (j - i).toNat).yld k H x H' → g x σ H' fun σ2 H2 => tb { D with nx := N, ct := N, bk := D.nx } σ2 H2)
theorem rd_forR2 {tb : TS} (h : tr σ H (kRng2 g tb D σ)) : tFor (iRng2 tr) g tb D σ H := h
theorem rd_kRng2 {tb : TS} {a b : Int} (h1 : -(2 ^ 62) ≤ a ∧ a < 2 ^ 62 ∧ -(2 ^ 62) ≤ b ∧ b < 2 ^ 62) (Pv : Nat → L2.St → Hp → Prop) (h0 : Pv 0 σ H)
    (hs : ∀ i σ H, i < (b - a).toNat → Pv i σ H → g (.int (a + i)) σ H fun σ2 H2 => tb { D with nx := Pv (i + 1), ct := Pv (i + 1), bk := D.nx } σ2 H2) (hd : ∀ σ H, Pv (b - a).toNat σ H → D.nx σ H) : kRng2 g tb D σ [.int a, .int b] H := ⟨a, b, rfl, h1, for_range (lo := a) (n := (b - a).toNat) Pv h0 hs hd⟩
theorem rd_glst {ts : TGs} {n : Nat} {Qs : L2.St → Hp → Prop} {p : Addr} {xs : List V} (hs : SqL K H p xs) (hn : xs.length = n) (h : ts xs σ H Qs) : gLst K n ts (.ref p) σ H Qs := ⟨p, xs, rfl, hs, hn, h⟩
theorem rd_rep {l : Addr} {xs : List V} {k : Int} (h : H l = some (.lst xs)) (h1 : 0 ≤ k) (h2 : k ≤ 100000) (h3 : xs.length * k.toNat ≤ 1000000) (q : ∀ p, H p = none → Q (.ref p) (upd H p (.lst (List.replicate k.toNat xs).flatten))) : rRep (.ref l) (.int k) H Q :=
  ⟨l, k, xs, rfl, rfl, h, by omega, by omega, Nat.le_trans h3 (by decide), q⟩
def kApp (l : Addr) (Q : VK) : VK := fun y H2 => ∃ xs, H2 l = some (.lst xs) ∧ xs.length < sizeLine ∧ Q .non (upd H2 l (.lst (xs ++ [y])))
theorem rd_app {i : Nat} {l : Addr} {xs : List V} (e : σ[i]? = some (some (.ref l))) (hl : H l = some (.lst xs)) (h : te σ H (kApp l Q)) : tBM K "list" rAppend (tVar i) (tCons te tNil) σ H Q := by
  refine ⟨.ref l, e, .inl ⟨rfl, _, SqL.of hl⟩, ?_⟩
  have q : (fun (x : V) (H1 : Hp) => rAppend (.ref l) [x] H1 Q) = kApp l Q := by
    funext y H2
    apply propext
    constructor
    · rintro ⟨l', xs, y', e1, e2, a, b, c⟩
      cases e1
      cases e2
      exact ⟨xs, a, b, c⟩
    · rintro ⟨xs, a, b, c⟩
      exact ⟨l, xs, y, rfl, rfl, a, b, c⟩
  show te σ H (fun (x : V) (H1 : Hp) => rAppend (.ref l) [x] H1 Q)
  rw [q]
  exact h
theorem rd_kApp {l : Addr} {xs : List V} {y : V} (h : H l = some (.lst xs)) (hz : xs.length < 100000) (k : Q .non (upd H l (.lst (xs ++ [y])))) : kApp l Q y H := ⟨xs, h, Nat.lt_trans hz (by decide), k⟩
theorem rd_int1 {a : Int} (h : Q (.int a) H) : (∃ i, [V.int a] = [.int i] ∧ Q (.int i) H) ∨ ∃ k, [V.int a] = [.bl k] ∧ Q (.int (if k then 1 else 0)) H := .inl ⟨a, rfl, h⟩
theorem rd_int1b {b : Bool} (h : Q (.int (if b then 1 else 0)) H) : (∃ i, [V.bl b] = [.int i] ∧ Q (.int i) H) ∨ ∃ k, [V.bl b] = [.bl k] ∧ Q (.int (if k then 1 else 0)) H := .inr ⟨b, rfl, h⟩
theorem rd_sub {to ti : TE} {ts : TSet} {Qs : L2.St → Hp → Prop} (h : to σ H fun o H1 => ti σ H1 fun i H2 => ts o i v H2 fun H3 => Qs σ H3) : gSub to ti ts v σ H Qs := h
theorem rd_setL {p : Addr} {xs : List V} {n : Int} {j : Nat} {QH : Hp → Prop} (hl : H p = some (.lst xs)) (hj : ixN xs.length n = some j) (h : QH (upd H p (.lst (xs.set j v)))) : rSetL (.ref p) (.int n) v H QH := ⟨p, xs, n, j, rfl, rfl, hl, hj, h⟩
end
/-- a step of a reading -/
local macro_rules | `(tactic| walk_at "rd") => `(tactic| with_reducible (first
  | refine rd_seq ?_ | refine rd_var rfl ?_ | refine rd_op ?_ | refine rd_c ?_ | refine rd_asg ?_ | refine rd_name ?_ | refine rd_I0 ?_ | refine rd_ifS ?_ | refine rd_test ?_ | refine rd_kB ?_
  | refine rd_ret ?_ | refine rd_cons ?_ | refine rd_nil ?_ | refine rd_call ?_ | refine rd_make ?_ | refine rd_CB ?_ | refine rd_par ?_ | refine rd_lst ?_ | refine rd_tup ?_ | refine rd_un ?_ | refine rd_U ?_
  | refine rd_eqI ?_ | refine rd_neI ?_ | refine rd_and ?_ | refine rd_or ?_ | refine rd_not ?_ | refine rd_B ?_ | refine rd_andV ?_ | refine rd_orV ?_ | refine rd_notV ?_ | refine rd_if ?_ | refine rd_drop ?_ | refine rd_next ?_ | refine rd_retN ?_ | refine rd_sub ?_))
end My
set_option Elab.async false
set_option linter.all false
namespace My
open PySem PySem.Spec PyProof.Rows L2
/-! ### defs whose promise wants that no repr is under way (guards) -/
theorem deeper_guards (A : Around) (env : Env) : (A.deeper env).guards = A.guards := rfl
structure FnG (P : Program) (w : World) (K : PySem.W.Frag) (mg : Str → Option Value) (base : Heap) (CX : CXT) (k : Nat) (f : Addr) (fd : FuncData) (ps : List Str) (sp : Sp) : Prop where
  many : ∀ vs H Q E, sp vs H Q E → vs.length = ps.length
  goes : ∀ A : Around, A.guards = some [] → Room k A → ∀ (outer : List Env) (s : Shared) (H : Hp), Env0 P w K mg base A outer s H → ∀ (given : Args) (us : List Value) (vs : List V), BindsTo s fd given (ps.zip us) → Vals vs us → ∀ (Q : VK) (E : XK), sp vs H Q E →
    codeAny (model P w) A (.call (.ref f) given) (CR CX outer P w H s Q E) s
section
variable {P : Program} {w : World} {K : PySem.W.Frag} {mg : Str → Option Value} {base : Heap} {CX : CXT} {k : Nat} {f : Addr} {fd : FuncData} {ps : List Str} {sp : Sp}
theorem FnG.of (F : FnOk P w K mg base CX k f fd ps sp) : FnG P w K mg base CX k f fd ps sp :=
  ⟨F.len, fun A _ hr outer s H e0 given us vs hb hv Q E h => F.run A outer s H given us vs Q E hr e0 hb hv h⟩
/-- the rule for a def, its body as a term, with the guards told -/
theorem okG_any {x qual : Str} {st : Stmt} {N : List Str} (F : Fun K x qual st f fd) (S : FnScope N ps (defScope st)) (many : ∀ vs H Q E, sp vs H Q E → vs.length = ps.length)
    (hb : ∀ (cdv : Value) (A : Around) (outer : List Env) (s : Shared) (H : Hp) (vs : List V) (Q : VK) (E : XK), A.guards = some [] → Room k (A.deeper (envOfC qual (defScope st) s.heap.objs.size f cdv)) → sp vs H Q E →
      ∃ t, PSs (cxOf CX P w K mg base N qual (defScope st) f cdv A outer s H E) (defBody st) t ∧ t { nx := fun _ H' => Q .non H', rt := Q } (start N vs) H) : FnG P w K mg base CX (k + 1) f fd ps sp := by
  obtain ⟨oc, od, kV, doc, pm, an, cdv, ct, osl, rfl, lk, hcd⟩ := F.ex
  constructor
  · exact many
  intro A hgu hr outer s H e0 given us vs hbd r Q E hsp
  have inK : K.In s.heap := e0.mod.kin.keeps (fun b o q => (e0.bs b o q).1)
  have noL : s.heap.NoLimit := e0.mod.nolimit.keeps (fun b o q => (e0.bs b o q).1)
  have kinds : ∀ y ∈ ps.zip us, (defScope st).names.lookup y.1 = some .local ∨ ((defScope st).names.lookup y.1 = some .cell ∧ ((cellsFrom (s.heap.objs.size + 1) (defScope st).names []).lookup y.1).isSome = true) := by
    rintro ⟨n, v⟩ hy
    cases S.par n (List.of_mem_zip hy).1 with
    | inl q => exact Or.inl q
    | inr q => exact Or.inr ⟨q, PySem.W.cellsFrom_some _ _ _ (Or.inl q)⟩
  apply codeAny_call_function hr.depth (inK _ _ lk) rfl S.co S.gen rfl (PySem.W.codeRec_of inK hcd) (hbd _ _ _ _ _)
  apply wpAny_newFunctionEnv_cells S.kind kinds
  intro env he s1 z
  subst he
  refine And.intro (noL.keeps z.toInCall.keep) (codeAny_func ?_)
  obtain ⟨t, ht, hq⟩ := hb cdv A outer s H vs Q E hgu (hr.deeper _) hsp
  have I0 := inv_start (CX := CX) (E := E) S hr.hd e0 (many _ _ _ _ hsp) r z
  refine wpAny_mono (ht.run [] s1 (start N vs) H _ I0 hq) ?_ (fun _ _ q => q)
  intro fl s' hs
  cases fl with
  | brk => exact hs.elim fun _ a => a.elim fun _ b => (b.2 : False).elim
  | cont => exact hs.elim fun _ a => a.elim fun _ b => (b.2 : False).elim
  | next =>
    obtain ⟨σ', H', J, q⟩ := hs
    exact (⟨V.non, H', J.os, J.bare, J.base, J.hok, rfl, q⟩ : CE outer P w H s Q Value.none s')
  | ret u =>
    obtain ⟨v, σ', H', J, rv, q⟩ := hs
    exact (⟨v, H', J.os, J.bare, J.base, J.hok, rv, q⟩ : CE outer P w H s Q u s')
/-- .. that lets nothing out -/
theorem okG {x qual : Str} {st : Stmt} {N : List Str} (F : Fun K x qual st f fd) (S : FnScope N ps (defScope st)) (many : ∀ vs H Q E, sp vs H Q E → vs.length = ps.length)
    (hb : ∀ (cdv : Value) (A : Around) (outer : List Env) (s : Shared) (H : Hp) (vs : List V) (Q : VK) (E : XK), A.guards = some [] → Room k (A.deeper (envOfC qual (defScope st) s.heap.objs.size f cdv)) → sp vs H Q E →
      ∃ t, PSs (cxOf CX P w K mg base N qual (defScope st) f cdv A outer s H E).nox (defBody st) t ∧ t { nx := fun _ H' => Q .non H', rt := Q } (start N vs) H) : FnG P w K mg base CX (k + 1) f fd ps sp :=
  okG_any F S many fun cdv A outer s H vs Q E hg hr h => by
    obtain ⟨t, a, b⟩ := hb cdv A outer s H vs Q E hg hr h
    exact ⟨t, a.nox, b⟩
end
structure Dg (P : Program) (w : World) (K : PySem.W.Frag) (mg : Str → Option Value) (base : Heap) (CX : CXT) (k : Nat) (x : Str) (ps : List Str) (sp : Sp) : Prop where
  ex : ∃ (f : Addr) (fd : FuncData), mg x = some (.ref f) ∧ PySem.W.keepIn K (.ref f) = true ∧ FnG P w K mg base CX k f fd ps sp ∧ Binds K fd ps []
section
variable {X : Cx} {CX : CXT} {k : Nat} {x : Str} {f : Addr} {fd : FuncData} {ps : List Str} {sp : Sp} {E : XK} {p pos : Pos} {e : Expr} {es : List Expr} {t : TA}
theorem run_G {pins : List (Addr × Obj)} {σ : L2.St} {H : Hp} {s : Shared} {Q : VK} {us : List Value} {vs : List V} (F : FnG X.prog X.w X.K X.mg X.base CX k f fd ps sp) (hr : Room k X.A) (hg : X.A.guards = some []) (hb : Binds X.K fd ps []) (hx : Passes CX X E)
    (I : Inv X pins σ H s) (r : Vals vs us) (h : sp vs H Q E) : wpAny (model X.prog X.w) X.A (call (.ref f) us) (EP X pins σ Q) X.xe s := by
  have n : us.length = ps.length := r.length.symm.trans (F.many _ _ _ _ h)
  have bd := hb s us I.kIn (by rw [List.append_nil]; exact n)
  rw [List.append_nil] at bd
  refine wpAny_call (codeAny_mono (F.goes X.A hg hr X.stack s H I.env0 _ us vs bd r Q E h) ?_)
  intro r s' hq
  match r, hq with
  | .error e, hq => exact hx pins σ H s e s' I hq
  | .ok (.ret u), hq => exact I.after hq
  | .ok .next, hq => exact (hq : False).elim
  | .ok .brk, hq => exact (hq : False).elim
  | .ok .cont, hq => exact (hq : False).elim
theorem pe_dg (D : Dg X.prog X.w X.K X.mg X.base CX k x ps sp) (hr : Room k X.A) (hgu : X.A.guards = some []) (hx : Passes CX X E) (ha : PA X (e :: es) t) (hg : Gl X x := by rfl) (hdb : (x == ("__debug__" : Str)) = false := by decide)
    (he : starEach (e :: es) X.env = (false, eval e X.env) :: starEach es X.env := by rfl) (hpl : (backTo pos (starEach es X.env)).any (·.1) = false := by rfl) :
    PE X (.Call (.Name x p) (e :: es) [] pos) (tCall sp [] E t) := by
  obtain ⟨f, fd, hm, hk, F, hb⟩ := D.ex
  constructor
  intro pins s σ H Q I h
  apply wpAny_Call_Name_kw (ld_glob I hg hm _ hdb)
  apply PySem.W.callWith_K (h₀ := X.base) I.ok.mod.kin hk _ he hpl
  apply thn (ha.run pos pins s σ H _ I h)
  rintro us s1 ⟨vs, H1, I1, r, q⟩
  rw [List.append_nil] at q
  exact ⟨I1.kIn, run_G F hr hgu hb hx I1 r q⟩
/-- repr of data -/
def rRepr (K : PySem.W.Frag) : List V → Hp → VK → Prop := fun vs H Q => ∃ (a : Addr) (d : PyData), vs = [.ref a] ∧ Dp K H (.ref a) d ∧ d.showable = true ∧ d.hasDict = false ∧ d.depth ≤ 30 ∧ d.shown.length ≤ sizeLine ∧ Q (.str d.shown) H
theorem cr_repr (hu : X.A.units + 64 < cLine) (hg : X.A.guards = some []) : CallR X (.builtin "repr") (rRepr X.K) := by
  intro pins s σ H vs us Q I r h
  obtain ⟨a, d, rfl, hd, h1, h2, h3, h4, q⟩ := h
  obtain ⟨u, rfl, ru⟩ := vals1 r
  cases (show u = Value.ref a from ru)
  obtain ⟨as, rd⟩ := Dp.reads I d _ _ hd rfl
  exact repr_of_reads' rd h1 (fun z => by rw [h2] at z; cases z) hg (by omega) (fun _ _ z => z) (fun h' u tk hk => ⟨.str d.shown, H, I.kept hk, ⟨_, rfl⟩, q⟩) h4
end
/-! ### the law's own call -/
/-- the law's promise, told of a list of its ints, of at most 2 ^ 20 bits each -/
theorem script_run {P : Program} {w : World} {K : PySem.W.Frag} {mg mb : Str → Option Value} {k : Nat} {fa a : Addr} {fd : FuncData} {x : Str} {sp : Sp} {s₁ : Shared} {vs : List Value} {ns : List Int} (KX : K.In s₁.heap) (hns : s₁.heap.Ns mainGlobals mg)
    (hb : s₁.heap.Ns builtinsNs mb) (hbb : ∀ x : Str, x ≠ "__name__" → mb x = bootBuiltins x) (hlim : s₁.heap.NoLimit) (hg : s₁.gens = #[]) (ha : s₁.heap.get? a = some { cls := .type "list", data := .seq vs.toArray }) (hi : IntsAre vs ns) (hl : ns.length ≤ sizeLine)
    (hr : Room k callerA) (F : ∀ base : Heap, K.In base → base.Ns mainGlobals mg → FnG P w K mg base CX0 k fa fd [x] sp) (hbind : ∀ (s : Shared) (u : Value), BindsTo s fd ⟨[u], []⟩ [(x, u)])
    (hsp : ∀ H : Hp, Only H → SqL K H a (ns.map V.int) → sp [.ref a] H (fun v _ => v = .bl true) E0) :
    codeAny (model P w) callerA (.call (.ref fa) ⟨[.ref a], []⟩) (fun r s' => r = .ok (.ret (.bool true)) ∧ OldK s₁.heap s'.heap ∧ s'.os = s₁.os ∧ AllBare s'.gens) s₁ := by
  have main : ∀ H : Hp, (∀ b, H b ≠ none → b = a) → (H a ≠ none → K.lookup a = none) → Only H → HOk P w H s₁.heap → SqL K H a (ns.map V.int) →
      codeAny (model P w) callerA (.call (.ref fa) ⟨[.ref a], []⟩) (fun r s' => r = .ok (.ret (.bool true)) ∧ OldK s₁.heap s'.heap ∧ s'.os = s₁.os ∧ AllBare s'.gens) s₁ := by
    intro H alone apart hO hok hS
    have hidden : ∀ b o, s₁.heap.get? b = some o → (∀ u, H b = some u → False) → (hidT s₁.heap H).get? b = some o := fun b o q n => hidT_get q (by
      cases z : H b with
      | none => rfl
      | some u => exact (n u z).elim)
    have dicts : ∀ {b : Addr} {m : Str → Option Value}, s₁.heap.Ns b m → (hidT s₁.heap H).Ns b m := by
      rintro b m ⟨o, es, ep, q, d, r⟩
      refine ⟨o, es, ep, hidden b o q fun u z => ?_, d, r⟩
      have ab : b = a := alone b (by rw [z]; exact fun y => nomatch y)
      rw [ab, ha] at q
      cases q
      exact nomatch d
    have hK : K.In (hidT s₁.heap H) := fun b o q => hidden b o (KX b o q) fun u z => by
      have ab : b = a := alone b (by rw [z]; exact fun y => nomatch y)
      rw [ab] at z q
      rw [apart (by rw [z]; exact fun y => nomatch y)] at q
      cases q
    obtain ⟨mc, l1, l2⟩ := hlim
    have M : Mod K mg (hidT s₁.heap H) := { kin := hK, glob := dicts hns, blt := ⟨mb, dicts hb, hbb⟩, nolimit := ⟨mc, dicts l1, l2⟩ }
    have e0 : Env0 P w K mg (hidT s₁.heap H) callerA [] s₁ H :=
      { frames := rfl, mod := M, bs := fun _ _ q => of_hidT q, bsz := Nat.le_of_eq (hidT_size _ _), funs := trivial, frf := fun b z => (nomatch (show b ∈ ([] : List Addr) from z)), hok := hok, bare := .of_eq hg }
    have G := (F _ hK (dicts hns)).goes callerA rfl hr [] s₁ H e0 ⟨[.ref a], []⟩ [.ref a] [.ref a] (hbind s₁ (.ref a)) (.cons rfl .nil) _ _ (hsp H hO hS)
    refine codeAny_mono G ?_
    intro r s' h
    match r, h with
    | .error e, h => exact (h : False).elim
    | .ok .next, h => exact (h : False).elim
    | .ok .brk, h => exact (h : False).elim
    | .ok .cont, h => exact (h : False).elim
    | .ok (.ret u), ⟨v, H', os, bare, un, hok', rv, q⟩ =>
      have q : v = V.bl true := q
      rw [q] at rv
      have rv : u = Value.bool true := rv
      subst rv
      refine ⟨rfl, OldK.of_keep (fun b o z => ?_), os, bare⟩
      cases y : H b with
      | none => exact un.keep b o z y (fun m => (nomatch (show b ∈ ([] : List Addr) from m))) (fun m => nomatch m)
      | some u =>
        rcases hO b with n | ⟨ob, xs, n⟩
        · rw [n] at y
          exact nomatch y
        · have l1 := (hok b _ n).1
          have l2 := (hok' b _ (un.frzs b ob _ n)).1
          rw [z] at l1
          cases l1
          exact l2
  have rv := vals_ints hi
  cases q : K.lookup a with
  | none =>
    let one : HO := .frz { cls := .type "list", data := .seq vs.toArray } (.lst (ns.map V.int))
    have at_a : (fun b => if b = a then some one else none : Hp) a = some one := if_pos rfl
    have off_a : ∀ b, b ≠ a → (fun b => if b = a then some one else none : Hp) b = none := fun b n => if_neg n
    refine main (fun b => if b = a then some one else none) (fun b n => ?_) (fun _ => q) (fun b => ?_) (fun b u z => ?_) (Or.inl (Or.inr ⟨_, at_a⟩))
    · exact Classical.byContradiction fun y => n (off_a b y)
    · rcases Classical.em (b = a) with y | y
      · subst y
        exact Or.inr ⟨_, _, at_a⟩
      · exact Or.inl (off_a b y)
    · rcases Classical.em (b = a) with y | y
      · subst y
        rw [at_a] at z
        cases z
        exact ⟨ha, ⟨by simpa using hl, vs, _, rv, ha⟩⟩
      · rw [off_a b y] at z
        cases z
  | some o =>
    have z := KX a o q
    rw [ha] at z
    cases z
    refine main (fun _ => none) (fun b n => (n rfl).elim) (fun n => (n rfl).elim) (fun _ => Or.inl rfl) (fun b u z => nomatch (z : (none : Option HO) = some u)) (Or.inr ⟨_, vs.toArray, _, q, rfl, rfl, rfl, ?_, ?_⟩)
    · rw [List.size_toArray, hi.length]
      exact hl
    · simpa using rv
theorem walk_ofG {l : PySem.W.OpenLaw} {n k : Nat} {q : Program} {loose : List Str} {XP : (Str → Option Value) → Heap → Prop} {YP : World → Heap → Prop} {d : DefRec} {K : Params → PySem.W.Frag} {sp : World → Sp} {x : Str} (hn : l.most = some n) (hn2 : n ≤ sizeLine) (hdf : d.params.defaults = [])
    (hr : Room k callerA) (hY : ∀ (w : World) (h : Heap), YP w h → (K w.params).In h) (F : ∀ (w : World) (mg : Str → Option Value) (fa : Addr) (h : Heap), (K w.params).In h → h.Ns mainGlobals mg → XP mg h → mg d.name = some (.ref fa) →
      ∃ fd : FuncData, (∀ (s : Shared) (u : Value), BindsTo s fd ⟨[u], []⟩ [(x, u)]) ∧ ∀ base : Heap, (K w.params).In base → base.Ns mainGlobals mg → FnG l.prog w (K w.params) mg base CX0 k fa fd [x] (sp w))
    (hsp : ∀ (w : World) (H : Hp) (a : Addr) (ns : List Int), ns.length ≤ n → (∀ z ∈ ns, Builtin.Int.intBits z ≤ 1048576) → Only H → SqL (K w.params) H a (ns.map V.int) → sp w [.ref a] H (fun v _ => v = .bl true) E0) :
    PySem.W.WalkO q loose XP YP l.row.toRowW d [] (fun f vs => PySem.call f vs) := by
  apply Att.attach_callB hn hdf
  intro w s₀ s₁ mg mb fa o pm cd doc a vs ns G Y ho hd hcd hmg hobj hints hlen hbits hg
  obtain ⟨fd, hb, hF⟩ := F w mg fa _ (hY w _ Y) G.T.g G.X hmg
  exact script_run (hY w _ Y) G.T.g G.T.b G.T.builtins G.T.nolimit hg hobj hints (Nat.le_trans hlen hn2) hr hF hb (fun H hO hS => hsp w H a ns hlen hbits hO hS)
/-- .. where the promise hangs on the written part alone -/
theorem walk_ofGK {l : PySem.W.OpenLaw} {n k : Nat} {q : Program} {loose : List Str} {XP : (Str → Option Value) → Heap → Prop} {YP : World → Heap → Prop} {d : DefRec} {K : Params → PySem.W.Frag} {sp : PySem.W.Frag → Sp} {x : Str} (hn : l.most = some n) (hn2 : n ≤ sizeLine)
    (hdf : d.params.defaults = []) (hr : Room k callerA) (hY : ∀ (w : World) (h : Heap), YP w h → (K w.params).In h) (hsp : ∀ (K : PySem.W.Frag) (H : Hp) (a : Addr) (ns : List Int), ns.length ≤ n → (∀ z ∈ ns, Builtin.Int.intBits z ≤ 1048576) → Only H → SqL K H a (ns.map V.int) → sp K [.ref a] H (fun v _ => v = .bl true) E0)
    (F : ∀ (w : World) (mg : Str → Option Value) (fa : Addr) (h : Heap), (K w.params).In h → h.Ns mainGlobals mg → XP mg h → mg d.name = some (.ref fa) →
      ∃ fd : FuncData, (∀ (s : Shared) (u : Value), BindsTo s fd ⟨[u], []⟩ [(x, u)]) ∧ ∀ base : Heap, (K w.params).In base → base.Ns mainGlobals mg → FnG l.prog w (K w.params) mg base CX0 k fa fd [x] (sp (K w.params))) :
    PySem.W.WalkO q loose XP YP l.row.toRowW d [] (fun f vs => PySem.call f vs) :=
  walk_ofG (K := K) (sp := fun w => sp (K w.params)) hn hn2 hdf hr hY F fun w H a ns h1 h2 h3 h4 => hsp (K w.params) H a ns h1 h2 h3 h4
end My
namespace My
/-! ### fractions -/
def com (a b : Int) : Int := if b < 0 then -((Nat.gcd a.natAbs b.natAbs : Nat) : Int) else ((Nat.gcd a.natAbs b.natAbs : Nat) : Int)
theorem gcd_pos {a b : Int} (h : b ≠ 0) : 0 < Nat.gcd a.natAbs b.natAbs := Nat.gcd_pos_of_pos_right _ (by omega)
theorem com_ne {a b : Int} (h : b ≠ 0) : com a b ≠ 0 := by
  have := gcd_pos (a := a) h
  unfold com
  split <;> omega
theorem com_abs {a b : Int} : (com a b).natAbs = Nat.gcd a.natAbs b.natAbs := by
  unfold com
  split <;> omega
theorem com_le {a b : Int} (h : b ≠ 0) : (com a b).natAbs ≤ b.natAbs := by
  rw [com_abs]
  exact Nat.gcd_le_right _ (by omega)
theorem int_gcd (a b : Int) : b.gcd a = Nat.gcd a.natAbs b.natAbs := Nat.gcd_comm _ _
theorem fdiv_com {a b c : Int} (hb : b ≠ 0) (hc : ((Nat.gcd a.natAbs b.natAbs : Nat) : Int) ∣ c) : c.fdiv (com a b) = b.sign * c / ((Nat.gcd a.natAbs b.natAbs : Nat) : Int) := by
  have g0 := gcd_pos (a := a) hb
  generalize eg : Nat.gcd a.natAbs b.natAbs = g at *
  obtain ⟨k, rfl⟩ := hc
  have gi : (g : Int) ≠ 0 := by omega
  unfold com
  rw [eg]
  by_cases h : b < 0
  · rw [if_pos h, Int.sign_eq_neg_one_of_neg h]
    have e1 : (g : Int) * k = (-k) * (-(g : Int)) := by rw [Int.neg_mul_neg, Int.mul_comm]
    have e2 : -1 * ((g : Int) * k) = (g : Int) * (-k) := by rw [Int.neg_mul, Int.one_mul, Int.mul_neg]
    rw [e2, Int.mul_ediv_cancel_left _ gi, e1, Int.mul_fdiv_cancel _ (by omega)]
  · rw [if_neg h, Int.sign_eq_one_of_pos (by omega), Int.one_mul, Int.mul_ediv_cancel_left _ gi, Int.mul_comm, Int.mul_fdiv_cancel _ gi]
theorem low_num {a b : Int} (hb : b ≠ 0) : a.fdiv (com a b) = (Rat.divInt a b).num := by
  rw [Rat.num_divInt, int_gcd]
  exact fdiv_com hb (Int.ofNat_dvd_left.mpr (Nat.gcd_dvd_left _ _))
theorem low_den {a b : Int} (hb : b ≠ 0) : b.fdiv (com a b) = ((Rat.divInt a b).den : Int) := by
  rw [Rat.den_divInt, int_gcd, if_neg hb, fdiv_com hb (Int.ofNat_dvd_left.mpr (Nat.gcd_dvd_right _ _)), Int.natCast_ediv, Int.sign_mul_self]
theorem num_le {a b : Int} (hb : b ≠ 0) : (Rat.divInt a b).num.natAbs ≤ a.natAbs := by
  rw [Rat.num_divInt, int_gcd]
  have g0 := gcd_pos (a := a) hb
  have d1 : ((Nat.gcd a.natAbs b.natAbs : Nat) : Int) ∣ a := Int.ofNat_dvd_left.mpr (Nat.gcd_dvd_left _ _)
  generalize Nat.gcd a.natAbs b.natAbs = g at *
  obtain ⟨k, rfl⟩ := d1
  have e : b.sign * ((g : Int) * k) = (g : Int) * (b.sign * k) := by rw [← Int.mul_assoc, Int.mul_comm b.sign, Int.mul_assoc]
  rw [e, Int.mul_ediv_cancel_left _ (by omega), Int.natAbs_mul, Int.natAbs_mul, Int.natAbs_sign_of_ne_zero hb, Nat.one_mul]
  exact Nat.le_mul_of_pos_left _ (by omega)
theorem den_le {a b : Int} (hb : b ≠ 0) : (Rat.divInt a b).den ≤ b.natAbs := by
  rw [Rat.den_divInt, if_neg hb]
  exact Nat.div_le_self _ _
end My
namespace My
/-- a number's top and bottom have at most B bits -/
def Sz (B : Nat) (q : Rat) : Prop := q.num.natAbs < 2 ^ B ∧ q.den < 2 ^ B
theorem Sz.mono {B B' : Nat} {q : Rat} (h : Sz B q) (l : B ≤ B') : Sz B' q :=
  ⟨Nat.lt_of_lt_of_le h.1 (Nat.pow_le_pow_right (by decide) l), Nat.lt_of_lt_of_le h.2 (Nat.pow_le_pow_right (by decide) l)⟩
theorem Sz.of {B : Nat} {a b : Int} (hb : b ≠ 0) (h1 : a.natAbs < 2 ^ B) (h2 : b.natAbs < 2 ^ B) : Sz B (Rat.divInt a b) := ⟨Nat.lt_of_le_of_lt (num_le hb) h1, Nat.lt_of_le_of_lt (den_le hb) h2⟩
theorem q_eq (q : Rat) : q = Rat.divInt q.num (q.den : Int) := (Rat.num_divInt_den q).symm
theorem den_ne (q : Rat) : (q.den : Int) ≠ 0 := by have := q.den_nz; omega
theorem add_is (q r : Rat) : Rat.divInt (q.num * (r.den : Int) + r.num * (q.den : Int)) ((q.den : Int) * (r.den : Int)) = q + r := by
  rw [← Rat.divInt_add_divInt _ _ (den_ne q) (den_ne r), ← q_eq, ← q_eq]
theorem sub_is (q r : Rat) : Rat.divInt (q.num * (r.den : Int) - r.num * (q.den : Int)) ((q.den : Int) * (r.den : Int)) = q - r := by
  rw [← Rat.divInt_sub_divInt _ _ (den_ne q) (den_ne r), ← q_eq, ← q_eq]
theorem mul_is (q r : Rat) : Rat.divInt (q.num * r.num) ((q.den : Int) * (r.den : Int)) = q * r := by
  rw [← Rat.divInt_mul_divInt, ← q_eq, ← q_eq]
theorem inv_divInt {a b : Int} (ha : a ≠ 0) (hb : b ≠ 0) : (Rat.divInt a b)⁻¹ = Rat.divInt b a := by
  have h : Rat.divInt a b * Rat.divInt b a = 1 := by
    rw [Rat.divInt_mul_divInt, Int.mul_comm b a]
    exact Rat.divInt_self' (Int.mul_ne_zero ha hb)
  have n : Rat.divInt a b ≠ 0 := fun z => by
    rw [z, Rat.zero_mul] at h
    exact absurd h (by decide)
  have h2 := Rat.inv_mul_cancel (Rat.divInt a b) n
  rw [← Rat.mul_one ((Rat.divInt a b)⁻¹), ← h, ← Rat.mul_assoc, h2, Rat.one_mul]
theorem div_is (q r : Rat) (h : r.num ≠ 0) : Rat.divInt (q.num * (r.den : Int)) ((q.den : Int) * r.num) = q / r := by
  rw [← Rat.divInt_mul_divInt, ← q_eq, Rat.div_def]
  congr 1
  have e := inv_divInt h (den_ne r)
  rw [← q_eq] at e
  exact e.symm
theorem num_zero {q : Rat} : q.num = 0 ↔ q = 0 := by
  constructor
  · intro h
    rw [q_eq q, h]
    simp
  · rintro rfl
    rfl
theorem div_divInt {a b c d : Int} (hc : c ≠ 0) (hd : d ≠ 0) : Rat.divInt a b / Rat.divInt c d = Rat.divInt (a * d) (b * c) := by
  rw [Rat.div_def, inv_divInt hc hd, Rat.divInt_mul_divInt]
theorem lt94 {n : Nat} (h : n < 10 ^ 28) : n < 2 ^ 94 := Nat.lt_trans h (by decide)
end My
namespace My
theorem lcm_pos' : ∀ (qs : List Rat) (n : Nat), 0 < n → 0 < qs.foldl (fun n q => Nat.lcm n q.den) n
  | [], n, h => h
  | q :: r, n, h => lcm_pos' r _ (Nat.lcm_pos h (Nat.pos_of_ne_zero q.den_nz))
theorem lcm_dvd' : ∀ (qs : List Rat) (n : Nat), n ∣ qs.foldl (fun n q => Nat.lcm n q.den) n
  | [], n => Nat.dvd_refl n
  | q :: r, n => Nat.dvd_trans (Nat.dvd_lcm_left n q.den) (lcm_dvd' r _)
def lcmAll (qs : List Rat) : Nat := qs.foldl (fun n q => Nat.lcm n q.den) 1
theorem lcm_pos (qs : List Rat) : 0 < lcmAll qs := lcm_pos' qs 1 (by decide)
theorem lcm_take (qs : List Rat) (n : Nat) : (qs.take n).foldl (fun n q => Nat.lcm n q.den) 1 ≤ lcmAll qs := by
  have e : lcmAll qs = (qs.drop n).foldl (fun n q => Nat.lcm n q.den) ((qs.take n).foldl (fun n q => Nat.lcm n q.den) 1) := by
    rw [← List.foldl_append, List.take_append_drop]
    rfl
  rw [e]
  refine Nat.le_of_dvd ?_ (lcm_dvd' _ _)
  rw [← e]
  exact lcm_pos qs
theorem den_dvd' : ∀ (qs : List Rat) (n : Nat) (q : Rat), q ∈ qs → q.den ∣ qs.foldl (fun n q => Nat.lcm n q.den) n
  | p :: r, n, q, h => by
    rcases List.mem_cons.mp h with e | e
    · subst e
      exact Nat.dvd_trans (Nat.dvd_lcm_right n q.den) (lcm_dvd' r _)
    · exact den_dvd' r _ q e
theorem den_dvd {qs : List Rat} {q : Rat} (h : q ∈ qs) : q.den ∣ lcmAll qs := den_dvd' qs 1 q h
def topsOf (qs : List Rat) : List Int := qs.map fun q => q.num * (((lcmAll qs : Nat) : Int) / (q.den : Int))
theorem top_is {q : Rat} {B : Nat} (hB : 0 < B) (h : q.den ∣ B) : Rat.divInt (q.num * ((B : Int) / (q.den : Int))) (B : Int) = q := by
  obtain ⟨k, rfl⟩ := h
  have hd := q.den_nz
  have kn : (k : Int) ≠ 0 := by
    intro z
    have : k = 0 := by omega
    subst this
    exact absurd hB (by simp)
  rw [Int.natCast_mul, Int.mul_ediv_cancel_left _ (by omega), Rat.divInt_mul_right kn]
  exact (q_eq q).symm
theorem sum_divInt (B : Int) (hB : B ≠ 0) : ∀ l : List Int, Rat.divInt l.sum B = (l.map fun n => Rat.divInt n B).sum
  | [] => by
    rw [List.map_nil, List.sum_nil, List.sum_nil]
    simp
  | n :: r => by
    rw [List.map_cons, List.sum_cons, List.sum_cons, ← sum_divInt B hB r, Rat.divInt_add_divInt _ _ hB hB, ← Int.add_mul, Rat.divInt_mul_right hB]
theorem tops_sum (qs : List Rat) : Rat.divInt (topsOf qs).sum ((lcmAll qs : Nat) : Int) = qs.sum := by
  have hB := lcm_pos qs
  rw [sum_divInt _ (by omega)]
  unfold topsOf
  rw [List.map_map]
  congr 1
  conv => rhs; rw [← List.map_id qs]
  apply List.map_congr_left
  intro q hq
  exact top_is hB (den_dvd hq)
end My
namespace My
open PySem PySem.Spec PyProof.Rows L2
/-! ### a class with its own ==, str, len -/
theorem ns_some_of {K : PySem.W.Frag} {h : Heap} {N : Addr} {mg : Str → Option Value} {n : Str} {v : Value} (X : K.In h) (G : h.Ns N mg) (e : PySem.W.nsIn K N n = some (some v)) : mg n = some v := by
  obtain ⟨o, es, ep, ho, hd, _, hf⟩ := G
  unfold PySem.W.nsIn at e
  split at e
  · rename_i c d es' n' sl q
    have z := X _ _ q
    rw [z] at ho
    injection ho with ho
    subst ho
    injection hd with h1 h2
    subst h1
    split at e
    · rename_i en he
      injection e with e
      rw [← hf, ← e]
      simp only [nsFind, findBy]
      rw [← Array.find?_toList, he]
      rfl
    · split at e <;> exact nomatch e
  · exact nomatch e
/-- a method m of the class at C -/
structure Mt (P : Program) (w : World) (K : PySem.W.Frag) (mg : Str → Option Value) (base : Heap) (k : Nat) (C : Addr) (m : Str) (ps : List Str) (sp : Sp) : Prop where
  ex : ∃ (f : Addr) (fd : FuncData), PySem.W.findIn K (.ref C) m = some (some (.ref f)) ∧ PySem.W.isFn K (.ref f) = true ∧ PySem.W.keepIn K (.ref f) = true ∧ FnOk P w K mg base CX0 k f fd ps sp ∧ Binds K fd ps []
/-- the class at C has an own == and no own != -/
structure EqC (P : Program) (w : World) (K : PySem.W.Frag) (mg : Str → Option Value) (base : Heap) (k : Nat) (C : Addr) (sp : Sp) : Prop where
  nf : PySem.W.notFirst K C (.ref C) = true
  ex : ∃ (f : Addr) (fd : FuncData), PySem.W.findIn K (.ref C) "__eq__" = some (some (.ref f)) ∧ PySem.W.isFn K (.ref f) = true ∧ FnOk P w K mg base CX0 k f fd ["self", "other"] sp ∧ Binds K fd ["self", "other"] [] ∧
    (∃ o, K.lookup f = some o ∧ o.cls = .type "function") ∧ ∃ (nm qn : Str) (N : Addr) (bs : List Value) (hdct : Bool) (sn : List Str) (sub : List Value) (ab : Bool) (col : Option Bool) (dd : Option Addr) (k0 k1 k2 k3 k5 : Option Value) (newId : String),
      K.lookup C = some (excClassObj nm qn C N bs [.type "object"] hdct sn sub ab col dd k0 k1 k2 k3 k5 newId) ∧ PySem.W.nsOkIn K N = true ∧ PySem.W.nsIn K N "__eq__" = some (some (.ref f)) ∧ PySem.W.nsIn K N "__ne__" = some none
section
variable {X : Cx} {k : Nat} {C : Addr} {sp : Sp}
/-- a method's def called by the machine, within A' -/
theorem run_in {A' : Around} {f : Addr} {fd : FuncData} {ps : List Str} {pins : List (Addr × Obj)} {σ : L2.St} {H : Hp} {s : Shared} {Q : VK} {us : List Value} {vs : List V} (F : FnOk X.prog X.w X.K X.mg X.base CX0 k f fd ps sp) (hr : Room k A') (e0 : Env0 X.prog X.w X.K X.mg X.base A' X.stack s H)
    (hb : Binds X.K fd ps []) (I : Inv X pins σ H s) (r : Vals vs us) (h : sp vs H Q E0) : wpAny (model X.prog X.w) A' (call (.ref f) us) (EP X pins σ Q) X.xe s := by
  have n : us.length = ps.length := r.length.symm.trans (F.len _ _ _ _ h)
  have bd := hb s us I.kIn (by rw [List.append_nil]; exact n)
  rw [List.append_nil] at bd
  refine wpAny_call (codeAny_mono (F.run A' X.stack s H ⟨us, []⟩ us vs Q E0 hr e0 bd r h) ?_)
  intro r s' hq
  match r, hq with
  | .error e, hq => exact (hq : False).elim
  | .ok (.ret u), hq => exact I.after hq
  | .ok .next, hq => exact (hq : False).elim
  | .ok .brk, hq => exact (hq : False).elim
  | .ok .cont, hq => exact (hq : False).elim
def rEqO (C : Addr) (sp : Sp) : R2 := fun x y H Q => ∃ a dx fs b dy gs, x = .ref a ∧ y = .ref b ∧ H a = some (.ins C dx fs) ∧ H b = some (.ins C dy gs) ∧ sp [.ref a, .ref b] H Q E0
def rNeO (C : Addr) (sp : Sp) : R2 := fun x y H Q => ∃ a dx fs b dy gs, x = .ref a ∧ y = .ref b ∧ H a = some (.ins C dx fs) ∧ H b = some (.ins C dy gs) ∧ sp [.ref a, .ref b] H (fun v H' => ∃ t, v = .bl t ∧ Q (.bl (!t)) H') E0
theorem op_eqO (D : EqC X.prog X.w X.K X.mg X.base k C sp) (hr : Room k X.A) : OpR X (compareOp .Eq) (rEqO C sp) := by
  intro pins s σ H x y v u Q I rx ry h
  obtain ⟨a, dx, fs, b, dy, gs, rfl, rfl, ha, hb, q⟩ := h
  cases (show v = Value.ref a from rx)
  cases (show u = Value.ref b from ry)
  obtain ⟨f, fd, hs, hf, F, bd, _⟩ := D.ex
  obtain ⟨mA, O, _⟩ := ins_get I.hok ha
  obtain ⟨od, J, _⟩ := O.look
  obtain ⟨mB, O', _⟩ := ins_get I.hok hb
  obtain ⟨od', J', _⟩ := O'.look
  obtain ⟨m, hF⟩ := I.fr
  refine PySem.W.cmp_ofEq (PySem.W.cmp_K (op := .Eq) (tb := .ref C) hr.units0 hF I.ok.mod.kin J J'.type D.nf hs hf ?_)
  refine wpAny_mono (run_in (us := [.ref a, .ref b]) (vs := [.ref a, .ref b]) F hr I.env0 bd I (.cons rfl (.cons rfl .nil)) q) (fun w s' z => ?_) fun _ _ x => x
  obtain ⟨z', H', I', rz, qz⟩ := z
  exact SlX.cmpback rz ⟨z', H', I', rz, qz⟩
theorem op_neO (D : EqC X.prog X.w X.K X.mg X.base k C sp) (hr : Room (k + 1) X.A) : OpR X (compareOp .NotEq) (rNeO C sp) := by
  intro pins s σ H x y v u Q I rx ry h
  obtain ⟨a, dx, fs, b, dy, gs, rfl, rfl, ha, hb, q⟩ := h
  cases (show v = Value.ref a from rx)
  cases (show u = Value.ref b from ry)
  obtain ⟨f, fd, hs, hf, F, bd, ⟨of, lf, cf⟩, nm, qn, N, bs, hdct, sn, sub, ab, col, dd, k0, k1, k2, k3, k5, newId, lC, ok, e1, e2⟩ := D.ex
  obtain ⟨mA, O, _⟩ := ins_get I.hok ha
  obtain ⟨mB, O', _⟩ := ins_get I.hok hb
  have KI := I.kIn
  have hN : s.heap.Ns N (s.heap.nsMap N) := .of_isNs (PySem.W.isNs_of_in KI ok)
  have own : s.heap.OwnEqNoNe a C f "object" [.type "object"] :=
    ⟨_, of, nm, qn, N, bs, hdct, sn, sub, ab, col, dd, k0, k1, k2, k3, k5, newId, _, _, O.obj, rfl, KI _ _ lC, hN, ns_some_of KI hN e1, KI _ _ lf, cf, PySem.F.cmp_object.mro, PySem.F.cmp_object.eq.lookup, PySem.W.nsMap_none_of_in KI ok e2⟩
  have un := hr.units0
  have hu : X.A.units + 1 < cLine := by have := hr.un; omega
  obtain ⟨hp, g, d, t, os⟩ := s
  refine compareOp_ne_ownEq PySem.F.cmp_object own O'.obj rfl hu ?_
  refine wpAny_mono (run_in (us := [.ref a, .ref b]) (vs := [.ref a, .ref b]) F hr.in1 I.env0.in1 bd I (.cons rfl (.cons rfl .nil)) q) (fun w s' z => ?_) fun _ _ x => x
  obtain ⟨z', H', I', rz, t', et, qz⟩ := z
  subst et
  cases (show w = Value.bool t' from rz)
  exact ⟨t', rfl, .bl (!t'), H', I', rfl, qz⟩
/-- str of an instance with its own __str__ -/
def rStrO (C : Addr) (sp : Sp) : List V → Hp → VK → Prop := fun vs H Q => ∃ a dx fs, vs = [.ref a] ∧ H a = some (.ins C dx fs) ∧ sp [.ref a] H (fun v H' => ∃ x, v = .str x ∧ Q (.str x) H') E0
theorem cr_strO (D : Mt X.prog X.w X.K X.mg X.base k C "__str__" ["self"] sp) (hr : Room (k + 2) X.A) : CallR X (.type "str") (rStrO C sp) := by
  intro pins s σ H vs us Q I r h
  obtain ⟨a, dx, fs, rfl, ha, q⟩ := h
  obtain ⟨u, rfl, ru⟩ := vals1 r
  cases (show u = Value.ref a from ru)
  obtain ⟨f, fd, hs, hf, _, F, bd⟩ := D.ex
  obtain ⟨mA, O, _⟩ := ins_get I.hok ha
  obtain ⟨od, J, _⟩ := O.look
  have hr2 : Room k X.A.in1.in1 := (hr.in1 (k := k + 1)).in1
  refine PySem.W.kso_call hr2.units0 I.kIn J hs hf (wpAny_mono (run_in (us := [.ref a]) (vs := [.ref a]) F hr2 I.env0.in1.in1 bd I (.cons rfl .nil) q) (fun w s' z => ?_) fun _ _ x => x)
  obtain ⟨z', H', I', rz, x, ex, qz⟩ := z
  subst ex
  obtain ⟨t, rfl⟩ := rz
  exact ⟨.str x, H', I', ⟨t, rfl⟩, qz⟩
/-- math.lcm -/
def rLcm : List V → Hp → VK → Prop := fun vs H Q => ∃ a b : Int, vs = [.int a, .int b] ∧ a.natAbs < 2 ^ 13000 ∧ b.natAbs < 2 ^ 13000 ∧ Q (.int ((Nat.lcm a.natAbs b.natAbs : Nat) : Int)) H
theorem lcm_one (n : Nat) : Nat.lcm 1 n = n := by
  rw [Nat.lcm_one_left]
theorem lim_one {n : Nat} (h : n < 2 ^ 13000) : ¬ n.log2 / 30 + 1 > 450 := by
  rcases Nat.eq_zero_or_pos n with z | z
  · subst z
    decide
  · have q := (Nat.log2_lt (by omega)).mpr h
    omega
theorem max_lt {a b n : Nat} (h1 : a < n) (h2 : b < n) : max a b < n := by omega
theorem lcm_lt {a b m : Nat} (ha : a < 2 ^ m) (hb : b < 2 ^ m) : Nat.lcm a b < 2 ^ (m + m) := by
  rcases Nat.eq_zero_or_pos a with z | z
  · subst z
    rw [Nat.lcm_zero_left]
    exact Nat.two_pow_pos _
  · rcases Nat.eq_zero_or_pos b with y | y
    · subst y
      rw [Nat.lcm_zero_right]
      exact Nat.two_pow_pos _
    · have q := Nat.lcm_le_mul z y
      rw [Nat.pow_add]
      exact Nat.lt_of_le_of_lt q (Nat.mul_lt_mul'' ha hb)
theorem cr_lcm : CallR X (.builtin "math.lcm") rLcm := by
  intro pins s σ H vs us Q I r h
  obtain ⟨a, b, rfl, ha, hb, q⟩ := h
  obtain ⟨t, u, rfl⟩ := Vals.int2 r
  have e : (((Nat.lcm 1 a.natAbs).lcm b.natAbs : Nat) : Int) = ((Nat.lcm a.natAbs b.natAbs : Nat) : Int) := by rw [lcm_one]
  have big : ((((Nat.lcm 1 a.natAbs).lcm b.natAbs : Nat) : Int)).natAbs.log2 < bitsLine := by
    rw [e, Int.natAbs_natCast]
    have z := lcm_lt ha hb
    exact Nat.lt_trans (PySem.Flt.log2_lt_of (by decide) z) (by decide)
  refine call_function_meets PySem.W.MGF.kind_lcm PySem.W.MGF.plain_lcm PySem.W.MGF.entry_lcm (PySem.W.MGF.args_lcm _ _) (PySem.W.mg_run_lcm a t b u (lim_one (max_lt (Nat.one_lt_two_pow (by decide)) ha)) (lim_one (max_lt ha hb)) big).meets ?_
  rw [e]
  exact ⟨.int _, H, I.tok _, ⟨_, rfl⟩, q⟩
end
end My
namespace My
open PySem PySem.Spec PyProof.Rows L2
section
variable {X : Cx}
/-- xs.count(b) of a list of truths -/
def rCntB (K : PySem.W.Frag) : V → List V → Hp → VK → Prop := fun x xs H Q => ∃ (p : Addr) (bs : List Bool) (k : Bool), x = .ref p ∧ xs = [.bl k] ∧ SqL K H p (bs.map V.bl) ∧ Q (.int (countIn (.bool k) (bs.map PyData.bool))) H
theorem dp_bools {K : PySem.W.Frag} {H : Hp} : ∀ bs : List Bool, DpAll K H (bs.map V.bl) (bs.map PyData.bool)
  | [] => .nil
  | b :: r => .cons (.bl b) (dp_bools r)
theorem has_bools : ∀ bs : List Bool, (bs.map PyData.bool).all Shape.bool.has = true
  | [] => rfl
  | b :: r => by
    rw [List.map_cons, List.all_cons, has_bools r]
    rfl
theorem mt_countB : MtR X "list.count" (rCntB X.K) := by
  intro pins s σ H x xs v us Q I rx rxs h
  obtain ⟨p, bs, k, rfl, rfl, hs, q⟩ := h
  cases (show v = Value.ref p from rx)
  obtain ⟨u, rfl, ru⟩ := rxs.one
  cases (show u = Value.bool k from ru)
  obtain ⟨its, rv, hl, _⟩ := I.list hs
  obtain ⟨as, ra⟩ := Dp.readsAll I _ _ its (dp_bools bs) rv
  exact count_list_bools hl.isList ra (has_bools bs) ⟨.int _, H, I.tok _, ⟨_, rfl⟩, q⟩
end
end My
namespace My
open PySem PySem.Spec PyProof.Rows L2
def keyStr (e : DictEntry) : Bool := match e.key with | .str _ _ => true | _ => false
theorem nsOk_of {K : PySem.W.Frag} {N : Addr} {c : Value} {d : Option Addr} {es : Array DictEntry} {n : Nat} {sl : Array (Option Value)} (l : K.lookup N = some ⟨c, d, .dict es n, sl⟩) (h : es.all keyStr = true) : PySem.W.nsOkIn K N = true := by
  unfold PySem.W.nsOkIn
  rw [l]
  exact h
end My
namespace My
open PySem PySem.Spec PyProof.Rows L2
section
variable {X : Cx}
def allRef (xs : List V) : Prop := ∀ x ∈ xs, ∃ a, x = .ref a
theorem vals_refs : ∀ {xs : List V} {us vs : List Value}, allRef xs → Vals xs us → Vals xs vs → us = vs := by
  intro xs
  induction xs with
  | nil =>
    intro us vs _ r1 r2
    cases r1
    cases r2
    rfl
  | cons x xs ih =>
    intro us vs h r1 r2
    obtain ⟨a, rfl⟩ := h x (List.mem_cons_self ..)
    cases r1 with
    | cons q1 r1 =>
      cases r2 with
      | cons q2 r2 =>
        cases q1
        cases q2
        rw [ih (fun y hy => h y (List.mem_cons_of_mem _ hy)) r1 r2]
theorem allRef_map (as : List Addr) : allRef (as.map V.ref) := fun x hx => by
  obtain ⟨a, _, e⟩ := List.mem_map.mp hx
  exact ⟨a, e.symm⟩
/-- != of two lists: of the same objects, or of other lengths -/
def rNeL (K : PySem.W.Frag) : R2 := fun x y H Q => ∃ a b xs ys, x = .ref a ∧ y = .ref b ∧ SqL K H a xs ∧ SqL K H b ys ∧ ((xs = ys ∧ allRef xs ∧ Q (.bl false) H) ∨ (xs.length ≠ ys.length ∧ Q (.bl true) H))
theorem op_neL (hu : X.A.units < cLine) : OpR X (compareOp .NotEq) (rNeL X.K) := by
  intro pins s σ H x y v u Q I rx ry h
  obtain ⟨a, b, xs, ys, rfl, rfl, ha, hb, h⟩ := h
  cases (show v = Value.ref a from rx)
  cases (show u = Value.ref b from ry)
  obtain ⟨its, r1, l1, _⟩ := I.list ha
  obtain ⟨its2, r2, l2, _⟩ := I.list hb
  show wpAny (model X.prog X.w) X.A (richCompare .NotEq (.ref a) (.ref b)) (EP X pins σ Q) X.xe s
  rcases h with ⟨e, ar, q⟩ | ⟨n, q⟩
  · subst e
    have e := vals_refs ar r1 r2
    subst e
    have z := SeqAt.RcNeAt.lists (A := X.A) (s := s) (e := fun _ => true) l1.isList l2.isList rfl hu (fun j _ _ => SeqAt.EqAt.same _)
    have t : (!(List.range its.toArray.size).all fun _ => true) = false := by simp
    rw [t] at z
    exact z X.prog X.w X.xe _ ⟨.bl false, H, I, rfl, q⟩
  · have z := SeqAt.RcNeAt.lists_lengths (A := X.A) (s := s) l1.isList l2.isList (by
      rw [List.size_toArray, List.size_toArray, ← r1.length, ← r2.length]
      simpa using n) hu
    exact z X.prog X.w X.xe _ ⟨.bl true, H, I, rfl, q⟩
end
section
variable {K : PySem.W.Frag} {g : TG} {tb : TS} {D : Ends} {σ : L2.St} {H : Hp}
def kZip (K : PySem.W.Frag) (g : TG) (tb : TS) (D : Ends) (σ : L2.St) : List V → Hp → Prop := fun vs H1 => ∃ a b xs ys, vs = [.ref a, .ref b] ∧ SqL K H1 a xs ∧ SqL K H1 b ys ∧ ∃ W : Nat → Nat → L2.St → Hp → Prop, (∃ m, W 0 m σ H1) ∧ ∀ i m σ H, W i m σ H →
  ((Itz K a b).stop i H ∧ D.nx σ H) ∨ ((Itz K a b).go i H ∧ ∃ N : L2.St → Hp → Prop, (∀ σ' H', N σ' H' → ∃ m', m' < m ∧ W (i + 1) m' σ' H') ∧ ∀ x H', (Itz K a b).yld i H x H' → g x σ H' fun σ2 H2 => tb { D with nx := N, ct := N, bk := D.nx } σ2 H2)
theorem rd_forZ {tr : TA} (h : tr σ H (kZip K g tb D σ)) : tFor (iZip K tr) g tb D σ H := h
theorem rd_kZip {a b : Addr} {xs ys : List V} (hl : xs.length = ys.length) (ha : SqL K H a xs) (hb : SqL K H b ys) (Pv : Nat → L2.St → Hp → Prop) (h0 : Pv 0 σ H) (hq : ∀ i σ H, Pv i σ H → SqL K H a xs ∧ SqL K H b ys)
    (hs : ∀ (i : Nat) (x y : V) (T : Addr) (σ : L2.St) (H : Hp), xs[i]? = some x → ys[i]? = some y → Pv i σ H → H T = none → g (.ref T) σ (upd H T (.tup [x, y])) fun σ2 H2 => tb { D with nx := Pv (i + 1), ct := Pv (i + 1), bk := D.nx } σ2 H2)
    (hd : ∀ σ H, Pv xs.length σ H → D.nx σ H) : kZip K g tb D σ [.ref a, .ref b] H := ⟨a, b, xs, ys, rfl, ha, hb, RZ.for_zipL hl Pv h0 hq hs hd⟩
theorem g_mono2 (i j : Nat) (vs : List Nat) : ∀ x H' (Q1 Q2 : L2.St → Hp → Prop), (∀ s h, Q1 s h → Q2 s h) → gTup K 2 (gCons (gName i) (gCons (gName j) gNil)) x (wipe σ vs) H' Q1 → gTup K 2 (gCons (gName i) (gCons (gName j) gNil)) x (wipe σ vs) H' Q2 := by
  rintro x H' Q1 Q2 f ⟨p, xs, e, hs, hn, y, r, e2, y2, r2, e3, e4, q⟩
  exact ⟨p, xs, e, hs, hn, y, r, e2, y2, r2, e3, e4, f _ _ q⟩
end
section
variable {K : PySem.W.Frag} {g : TG} {te : TE} {σ : L2.St} {H : Hp} {Q : VK}
/-- the turns of a comprehension over the numbers from lo, n of them -/
def kLcN (g : TG) (te : TE) (vs : List Nat) (σ : L2.St) (Q : VK) (lo : Int) (n : Nat) : Hp → Prop := fun H1 => ∀ D, H1 D = none → ∃ W : Nat → Nat → Hp → Prop, (∃ m, W 0 m (upd H1 D (.lst []))) ∧ ∀ i m H, W i m H →
  ((Itr lo n).stop i H ∧ Q (.ref D) H) ∨ ((Itr lo n).go i H ∧ ∃ Nx : Hp → Prop, (∀ H', Nx H' → ∃ m', m' < m ∧ W (i + 1) m' H') ∧ ∀ x H', (Itr lo n).yld i H x H' → g x (wipe σ vs) H' fun σ2 H2 => wipe σ2 vs = wipe σ vs ∧ tYes σ2 H2 fun b H3 =>
    if b = true then te σ2 H3 fun y H4 => ∃ acc, H4 D = some (.lst acc) ∧ acc.length < sizeLine ∧ Nx (upd H4 D (.lst (acc ++ [y]))) else Nx H3)
def kLcR1 (g : TG) (te : TE) (vs : List Nat) (σ : L2.St) (Q : VK) : List V → Hp → Prop := fun xs H1 => ∃ j : Int, xs = [.int j] ∧ -(2 ^ 62) ≤ j ∧ j < 2 ^ 62 ∧ kLcN g te vs σ Q 0 j.toNat H1
def kLcR2 (g : TG) (te : TE) (vs : List Nat) (σ : L2.St) (Q : VK) : List V → Hp → Prop := fun xs H1 => ∃ i j : Int, xs = [.int i, .int j] ∧ (-(2 ^ 62) ≤ i ∧ i < 2 ^ 62 ∧ -(2 ^ 62) ≤ j ∧ j < 2 ^ 62) ∧ kLcN g te vs σ Q i (j - i).toNat H1
theorem rd_lcR1 {tr : TA} {vs : List Nat} (h : tr σ H (kLcR1 g te vs σ Q)) : tLc (iRng1 tr) g tYes te vs σ H Q := h
theorem rd_lcR2 {tr : TA} {vs : List Nat} (h : tr σ H (kLcR2 g te vs σ Q)) : tLc (iRng2 tr) g tYes te vs σ H Q := h
theorem rd_kLcN {vs : List Nat} {lo : Int} {n : Nat} (J : Nat → List V → Addr → Hp → Prop) (h0 : ∀ D, H D = none → J 0 [] D (upd H D (.lst [])))
    (hs : ∀ i acc D H', H D = none → i < n → H' D = some (.lst acc) → acc.length = i → J i acc D H' → g (.int (lo + i)) (wipe σ vs) H' fun σ2 H2 => wipe σ2 vs = wipe σ vs ∧ te σ2 H2 (kLcEnd J D i))
    (mono : ∀ x H' (Q1 Q2 : L2.St → Hp → Prop), (∀ s h, Q1 s h → Q2 s h) → g x (wipe σ vs) H' Q1 → g x (wipe σ vs) H' Q2)
    (hd : ∀ acc D H', H D = none → acc.length = n → H' D = some (.lst acc) → J n acc D H' → Q (.ref D) H') : kLcN g te vs σ Q lo n H := by
  intro D hD
  refine lc_range (fun i H' => ∃ acc, acc.length = i ∧ H' D = some (.lst acc) ∧ J i acc D H') ⟨[], rfl, upd_same, h0 D hD⟩ ?_ fun H' ⟨acc, e, h, j⟩ => hd acc D H' hD e h j
  rintro i H' hi ⟨acc, e, h, j⟩
  refine mono _ H' _ _ (fun s h' z => ?_) (hs i acc D H' hD hi h e j)
  refine ⟨z.1, ?_⟩
  unfold tYes
  dsimp only
  rw [if_pos rfl]
  exact z.2
end
end My
namespace My
open PySem PySem.Spec PyProof.Rows L2
theorem ofS_append (a b : String) : Str.ofString (a ++ b) = Str.ofString a ++ Str.ofString b := by
  rw [Str.ofString_eq_toList, Str.ofString_eq_toList, Str.ofString_eq_toList]
  refine Str.ext' ?_
  rw [Str.cps_append, String.toList_append, List.map_append]
  simp
theorem int_neg_text {n : Int} (h : n < 0) : Str.ofString "-" ++ Str.ofString (toString (if n < 0 then -n else n)) = Str.ofString (toString n) := by
  rw [if_pos h, ← ofS_append]
  congr 1
  obtain ⟨m, rfl⟩ := Int.eq_negSucc_of_lt_zero h
  rfl
theorem int_pos_text {n : Int} (h : ¬ n < 0) : Str.ofString "" ++ Str.ofString (toString (if n < 0 then -n else n)) = Str.ofString (toString n) := by
  rw [if_neg h, ← ofS_append]
  congr 1
/-- a number of the top that is worked out there -/
theorem loose_int {x : Str} {n : Int} {lv : List (Str × PySem.W.WData)} {mg : Str → Option Value} {h : Heap} (V : PySem.W.LooseAre lv mg h) (hx : lv.lookup x = some (.int n)) : ∃ t, mg x = some (.int n t) := by
  obtain ⟨v, a, b⟩ := V.val _ (PySem.W.mem_lookup hx)
  obtain ⟨t, rfl, _⟩ := PySem.W.readsW_int_inv b
  exact ⟨t, a⟩
theorem short_log {n : Int} (h : n.natAbs < 2 ^ 1900) : n.natAbs.log2 < 1920 := Nat.lt_trans (PySem.Flt.log2_lt_of (by decide) h) (by decide)
theorem text_len {n : Int} (h : n.natAbs < 2 ^ 1900) : (Str.ofString (toString n)).length ≤ 1901 := by
  rw [PySem.ofString_length]
  exact int_text_length_le (by decide) (PySem.Flt.log2_lt_of (by decide) h)
section
variable {X : Cx}
theorem ipop {op : Operator} {r : R2} (h : OpR X (inplaceOp op) r) : PIp X op r := fun pins s σ H x y v u Q I r1 r2 q => h pins s σ H x y v u Q I r1 r2 q
theorem iop_fdivA : OpR X (inplaceOp .FloorDiv) rDivA := opI fun i j _ _ _ _ _ hc q => ifloordiv_int hc.1 q (.inl (PyProof.noPylong_of_log2 hc.2))
end
end My
namespace My
open PySem PySem.Spec PyProof.Rows L2
theorem empty_append (a : Str) : Str.empty ++ a = a := Str.empty_append a
theorem str_len_append (a b : Str) : (a ++ b).length = a.length + b.length := by
  show (a.cps ++ b.cps).size = a.cps.size + b.cps.size
  rw [Array.size_append]
theorem rd_fmt {te : TE} {σ : L2.St} {H : Hp} {Q : VK} (h : te σ H fun x H1 => (∃ y : Str, x = .str y ∧ y.length ≤ sizeLine ∧ Q (.str y) H1) ∨ ∃ i : Int, x = .int i ∧ i.natAbs.log2 < 1920 ∧ Q (.str (toString i)) H1) : tFmt te σ H Q := h
theorem rd_tjs {t : TE} {ts : List TE} {acc : Str} {σ : L2.St} {H : Hp} {Q : Str → Hp → Prop} (h : t σ H fun x H1 => ∃ y : Str, x = .str y ∧ (acc ++ y).length ≤ sizeLine ∧ tJs ts (acc ++ y) σ H1 Q) : tJs (t :: ts) acc σ H Q := h
end My
namespace My
open PySem PySem.Spec PyProof.Rows L2
section
variable {X : Cx} {k : Nat} {C : Addr} {sp : Sp} {m : Str} {ps : List Str} {o e : Expr} {es : List Expr} {ta : TE} {t : TA} {apos pos : Pos}
/-- o.m(e, ..), m a method told by Mt -/
theorem pe_mt {pl : Sem Bool} (D : Mt X.prog X.w X.K X.mg X.base k C m ps sp) (he : PE X o ta) (c : Cls X.K C) (hr : Room k X.A) (ha : PA X (e :: es) t)
    (hst : starEach (e :: es) X.env = (false, eval e X.env) :: starEach es X.env := by rfl) (hpl : (backTo pos (starEach es X.env)).any (·.1) = false := by rfl)
    (ht : eval (.Call (.Attribute o m apos) (e :: es) [] pos) X.env = (do
      let ov ← eval o X.env
      standAt apos.atName
      let (f, first) ← holding [ov] (getMethod ov m pl)
      callWith pos f first (backTo pos (starEach (e :: es) X.env)) (backToKw pos (keywordEach [] X.env))) := by rfl) :
    PE X (.Call (.Attribute o m apos) (e :: es) [] pos) (tMeth C m sp [] E0 ta t) := by
  obtain ⟨f, fd, h1, h2, h3, F, b⟩ := D.ex
  exact pe_meth (pl := pl) he c ⟨h1, h2, h3⟩ F hr b .nil pass0 ha hst hpl ht
/-- o.m() -/
theorem pe_mt0 {pl : Sem Bool} (D : Mt X.prog X.w X.K X.mg X.base k C m ps sp) (he : PE X o ta) (c : Cls X.K C) (hr : Room k X.A)
    (ht : eval (.Call (.Attribute o m apos) [] [] pos) X.env = (do
      let ov ← eval o X.env
      standAt apos.atName
      let (f, first) ← holding [ov] (getMethod ov m pl)
      callWith pos f first (backTo pos (starEach [] X.env)) (backToKw pos (keywordEach [] X.env))) := by rfl) :
    PE X (.Call (.Attribute o m apos) [] [] pos) (tMeth C m sp [] E0 ta tNil) := by
  obtain ⟨f, fd, h1, h2, h3, F, b⟩ := D.ex
  exact pe_meth0 (pl := pl) he c ⟨h1, h2, h3⟩ F hr b .nil pass0 ht
def kMeth (C : Addr) (m : Str) (sp : Sp) (σ : L2.St) (t : TA) (Q : VK) : VK := fun x H1 => ∃ a dx fs, x = .ref a ∧ H1 a = some (.ins C dx fs) ∧ fs.lookup m = none ∧ t σ H1 fun vs H2 => sp (x :: (vs ++ [])) H2 Q E0
theorem rd_meth {σ : L2.St} {H : Hp} {Q : VK} (h : ta σ H (kMeth C m sp σ t Q)) : tMeth C m sp [] E0 ta t σ H Q := h
theorem rd_kMeth {σ : L2.St} {H : Hp} {Q : VK} {a dx : Addr} {fs : List (Str × V)} (ho : H a = some (.ins C dx fs)) (hl : fs.lookup m = none) (h : t σ H fun vs H2 => sp (.ref a :: (vs ++ [])) H2 Q E0) : kMeth C m sp σ t Q (.ref a) H := ⟨a, dx, fs, rfl, ho, hl, h⟩
/-- len of an instance with its own __len__ -/
def rLenO (C : Addr) (sp : Sp) : List V → Hp → VK → Prop := fun vs H Q => ∃ a dx fs, vs = [.ref a] ∧ H a = some (.ins C dx fs) ∧ sp [.ref a] H (fun v H' => ∃ n : Nat, v = .int (n : Int) ∧ n < 2 ^ 62 ∧ Q (.int (n : Int)) H') E0
theorem cr_lenO (D : Mt X.prog X.w X.K X.mg X.base k C "__len__" ["self"] sp) (hr : Room (k + 1) X.A) : CallR X (.builtin "len") (rLenO C sp) := by
  intro pins s σ H vs us Q I r h
  obtain ⟨a, dx, fs, rfl, ha, q⟩ := h
  obtain ⟨u, rfl, ru⟩ := vals1 r
  cases (show u = Value.ref a from ru)
  obtain ⟨f, fd, hs, hf, _, F, bd⟩ := D.ex
  obtain ⟨mA, O, _⟩ := ins_get I.hok ha
  obtain ⟨od, J, _⟩ := O.look
  have hr1 : Room k X.A.in1 := hr.in1
  refine Calls.call_function_entry kind_len plain_len entry_len (args_len1 _) ?_
  unfold Builtin.«len»
  refine wpAny_bind (m := oneArg "len" _) (wpAny_pure ?_)
  refine wpAny_bind (m := callSpecial? (.ref a) (Str.ofString "__len__")) (PySem.W.special_fn I.kIn J hs (beq_iff_eq.mp hf) (wpAny_mono (run_in (us := [.ref a]) (vs := [.ref a]) F hr1 I.env0.in1 bd I (.cons rfl .nil) q) (fun w s' z => ?_) fun _ _ x => x))
  obtain ⟨z', H', I', rz, n, en, hn, qz⟩ := z
  subst en
  obtain ⟨t, rfl⟩ := rz
  refine wpAny_bind (wpAny_holding (wpAny_pure ?_))
  refine wpAny_bind (wpAny_letGo ?_)
  show wpAny _ _ (if ((n : Nat) : Int) < 0 then _ else _) _ _ _
  rw [if_neg (by omega)]
  show wpAny _ _ (if ((n : Nat) : Int) ≥ 2 ^ 63 then _ else _) _ _ _
  rw [if_neg (by omega)]
  exact wpAny_bind (wpAny_mkInt (wpAny_pure ⟨_, rfl, .int (n : Int), H', I'.tok _, ⟨_, rfl⟩, qz⟩))
def kChain (r r' : R2) (σ : L2.St) (tc : TE) (Q : VK) (y : V) : VK := fun z H3 => ∃ k, z = .bl k ∧ (if k = true then tc σ H3 fun w' H4 => r' y w' H4 Q else Q (.bl false) H3)
theorem rd_chain {r r' : R2} {tb tc : TE} {σ : L2.St} {H : Hp} {Q : VK} (h : ta σ H fun x H1 => tb σ H1 fun y H2 => r x y H2 (kChain r r' σ tc Q y)) : tChain r r' ta tb tc σ H Q := h
theorem rd_kChain {r r' : R2} {tc : TE} {σ : L2.St} {H : Hp} {Q : VK} {y : V} {b : Bool} (h : if b = true then tc σ H fun w' H4 => r' y w' H4 Q else Q (.bl false) H) : kChain r r' σ tc Q y (.bl b) H := ⟨b, rfl, h⟩
theorem rd_all {K : PySem.W.Frag} {H : Hp} {Q : VK} {a : Addr} {bs : List Bool} (h : SqL K H a (bs.map V.bl)) (q : Q (.bl (bs.all id)) H) : rAll K [.ref a] H Q := ⟨a, bs, rfl, h, q⟩
theorem rd_any {K : PySem.W.Frag} {H : Hp} {Q : VK} {a : Addr} {bs : List Bool} (h : SqL K H a (bs.map V.bl)) (q : Q (.bl (bs.any id)) H) : rAny K [.ref a] H Q := ⟨a, bs, rfl, h, q⟩
/-- xs.append(y), the list at what an expression tells -/
def kAppE (K : PySem.W.Frag) (σ : L2.St) (te : TE) (Q : VK) : VK := fun x H1 => tyV K "list" x H1 ∧ (tCons te tNil) σ H1 fun xs H2 => rAppend x xs H2 Q
theorem rd_appE {K : PySem.W.Frag} {to te : TE} {σ : L2.St} {H : Hp} {Q : VK} (h : to σ H (kAppE K σ te Q)) : tBM K "list" rAppend to (tCons te tNil) σ H Q := h
theorem rd_kAppE {K : PySem.W.Frag} {te : TE} {σ : L2.St} {H : Hp} {Q : VK} {l : Addr} {xs : List V} (hl : H l = some (.lst xs)) (h : te σ H (kApp l Q)) : kAppE K σ te Q (.ref l) H := by
  refine ⟨.inl ⟨rfl, _, SqL.of hl⟩, ?_⟩
  have e : (fun (x : V) (H1 : Hp) => rAppend (.ref l) [x] H1 Q) = kApp l Q := by
    funext y H2
    apply propext
    constructor
    · rintro ⟨l', xs, y', e1, e2, a, b, c⟩
      cases e1
      cases e2
      exact ⟨xs, a, b, c⟩
    · rintro ⟨xs, a, b, c⟩
      exact ⟨l, xs, y, rfl, rfl, a, b, c⟩
  show te σ H (fun (x : V) (H1 : Hp) => rAppend (.ref l) [x] H1 Q)
  rw [e]
  exact h
end
end My
namespace My
open PySem PySem.Spec PyProof.Rows L2
mutual
/-- data of short ints, m things in all, of depth n -/
inductive Nice : PyData → Nat → Nat → Prop
  | int {i : Int} (h : i.natAbs < 2 ^ 1900) : Nice (.int i) 1 0
  | non : Nice .none 1 0
  | lst {ds : List PyData} {m n : Nat} (h : NiceAll ds m n) : Nice (.list ds) (m + 1) (n + 1)
  | tup {ds : List PyData} {m n : Nat} (h : NiceAll ds m n) : Nice (.tuple ds) (m + 1) (n + 1)
inductive NiceAll : List PyData → Nat → Nat → Prop
  | nil {n : Nat} : NiceAll [] 0 n
  | cons {d : PyData} {ds : List PyData} {m m' n n' : Nat} (h : Nice d m n') (l : n' ≤ n) (r : NiceAll ds m' n) : NiceAll (d :: ds) (m + m') n
end
def NiceP (d : PyData) (m n : Nat) : Prop := d.showable = true ∧ d.hasDict = false ∧ d.depth ≤ n ∧ d.canLay0 = true ∧ d.shown.length + 2 ≤ 2000 * m
def NicePs (ds : List PyData) (m n : Nat) : Prop := PyData.showableAll ds = true ∧ PyData.hasDictAll ds = false ∧ PyData.depthAll ds ≤ n ∧ PyData.canLayAll0 ds = true ∧ ((PyData.shownAll ds).map (·.length)).sum + 2 * (PyData.shownAll ds).length ≤ 2000 * m
mutual
theorem Nice.p {d : PyData} {m n : Nat} (h : Nice d m n) : NiceP d m n := by
  cases h with
  | @int i h =>
    have q : i.natAbs.log2 < 1900 := PySem.Flt.log2_lt_of (by decide) h
    refine ⟨by simp only [PyData.showable, decide_eq_true_eq]; omega, by simp only [PyData.hasDict], by simp only [PyData.depth]; omega, by simp only [PyData.canLay0], ?_⟩
    have e := int_text_length_le (by decide) q
    rw [PyData.shown]
    have e2 : (Str.ofString (toString i)).length ≤ 1901 := Nat.le_trans (Nat.le_of_eq (PySem.ofString_length _)) e
    omega
  | non => exact ⟨by simp only [PyData.showable], by simp only [PyData.hasDict], by simp only [PyData.depth]; omega, by simp only [PyData.canLay0], by simp only [PyData.shown]; decide +kernel⟩
  | @lst ds m n h =>
    obtain ⟨a, b, c, d, e⟩ := h.p
    refine ⟨by simpa only [PyData.showable] using a, by simpa only [PyData.hasDict] using b, by simp only [PyData.depth]; omega, by simpa only [PyData.canLay0] using d, ?_⟩
    have z := listText_len_le (PyData.shownAll ds)
    rw [PyData.shown]
    omega
  | @tup ds m n h =>
    obtain ⟨a, b, c, d, e⟩ := h.p
    refine ⟨by simpa only [PyData.showable] using a, by simpa only [PyData.hasDict] using b, by simp only [PyData.depth]; omega, by simpa only [PyData.canLay0] using d, ?_⟩
    have z := tupleText_len_le (PyData.shownAll ds)
    rw [PyData.shown]
    omega
theorem NiceAll.p {ds : List PyData} {m n : Nat} (h : NiceAll ds m n) : NicePs ds m n := by
  cases h with
  | nil => exact ⟨by simp only [PyData.showableAll], by simp only [PyData.hasDictAll], by simp only [PyData.depthAll]; omega, by simp only [PyData.canLayAll0], by simp only [PyData.shownAll, List.map_nil, List.sum_nil, List.length_nil]; omega⟩
  | @cons d ds m m' n n' h l r =>
    obtain ⟨a, b, c, e, f⟩ := h.p
    obtain ⟨a', b', c', e', f'⟩ := r.p
    refine ⟨by simp only [PyData.showableAll, a, a']; rfl, by simp only [PyData.hasDictAll, b, b']; rfl, by simp only [PyData.depthAll]; omega, by simp only [PyData.canLayAll0, e, e']; rfl, ?_⟩
    simp only [PyData.shownAll, List.map_cons, List.sum_cons, List.length_cons]
    omega
end
theorem NiceAll.ints {n : Nat} : ∀ {ns : List Int}, (∀ x ∈ ns, x.natAbs < 2 ^ 1900) → NiceAll (ns.map PyData.int) ns.length n
  | [], _ => .nil
  | x :: r, h => by
    rw [List.map_cons, List.length_cons, Nat.add_comm]
    exact .cons (.int (h x (List.mem_cons_self ..))) (Nat.zero_le _) (NiceAll.ints fun y hy => h y (List.mem_cons_of_mem _ hy))
theorem dp_ints {K : PySem.W.Frag} {H : Hp} : ∀ ns : List Int, DpAll K H (ns.map V.int) (ns.map PyData.int)
  | [] => .nil
  | x :: r => .cons (.int x) (dp_ints r)
theorem rd_reprN {K : PySem.W.Frag} {H : Hp} {Q : VK} {a : Addr} {d : PyData} {m n : Nat} (hd : Dp K H (.ref a) d) (hn : Nice d m n) (h1 : n ≤ 30) (h2 : m ≤ 8000) (q : Q (.str d.shown) H) : rRepr K [.ref a] H Q := by
  obtain ⟨p1, p2, p3, p4, p5⟩ := hn.p
  exact ⟨a, d, rfl, hd, p1, p2, by omega, Nat.le_trans (show _ ≤ 16000000 by omega) (by decide), q⟩
theorem Nice.shaped {d : PyData} {m n : Nat} (h : Nice d m n) (h1 : n ≤ 30) : SeqAt.shaped d = true := by
  obtain ⟨p1, p2, p3, p4, p5⟩ := h.p
  unfold SeqAt.shaped
  rw [p4, decide_eq_true (show d.depth ≤ 64 by omega)]
  rfl
theorem rd_neDs {K : PySem.W.Frag} {H : Hp} {Q : VK} {x y : V} {d : PyData} {m n : Nat} (hx : Dp K H x d) (hy : Dp K H y d) (hn : Nice d m n) (h1 : n ≤ 30) (q : Q (.bl false) H) : rNeD K x y H Q := by
  refine ⟨d, d, hx, hy, hn.shaped h1, hn.shaped h1, ?_⟩
  rw [SeqAt.eqv_refl d hn.p.2.2.2.1]
  exact q
theorem rd_eqDs {K : PySem.W.Frag} {H : Hp} {Q : VK} {x y : V} {d : PyData} {m n : Nat} (hx : Dp K H x d) (hy : Dp K H y d) (hn : Nice d m n) (h1 : n ≤ 30) (q : Q (.bl true) H) : rEqD K x y H Q := by
  refine ⟨d, d, hx, hy, hn.shaped h1, hn.shaped h1, ?_⟩
  rw [SeqAt.eqv_refl d hn.p.2.2.2.1]
  exact q
end My
namespace My
section
open Classical
/-! ### walks on as rows of numbers: where one comes from a place -/
/-- from x a step leads to y -/
def Stp (nss : List (List Int)) (x y : Nat) : Prop := ∃ ns n, nss[x]? = some ns ∧ ns[y]? = some n ∧ 0 < n
inductive Rch (nss : List (List Int)) (x : Nat) : Nat → Prop
  | refl : Rch nss x x
  | tail {y z : Nat} (h : Rch nss x y) (s : Stp nss y z) : Rch nss x z
theorem Rch.trans {nss : List (List Int)} {x y z : Nat} (h : Rch nss x y) (g : Rch nss y z) : Rch nss x z := by
  induction g with
  | refl => exact h
  | tail _ s ih => exact ih.tail s
/-- all rows are as long as there are rows -/
def Sq (nss : List (List Int)) : Prop := ∀ ns ∈ nss, ns.length = nss.length
theorem Stp.lt {nss : List (List Int)} {x y : Nat} (h : Sq nss) (s : Stp nss x y) : y < nss.length := by
  obtain ⟨ns, n, h1, h2, _⟩ := s
  have q := (List.getElem?_eq_some_iff.mp h2).1
  rw [h ns (List.mem_of_getElem? h1)] at q
  exact q
theorem Rch.lt {nss : List (List Int)} {x y : Nat} (h : Sq nss) (hx : x < nss.length) (r : Rch nss x y) : y < nss.length := by
  cases r with
  | refl => exact hx
  | tail _ s => exact s.lt h
/-- all places to which one comes from x, in order -/
noncomputable def rchL (nss : List (List Int)) (x : Nat) : List Nat := (List.range nss.length).filter fun y => decide (Rch nss x y)
theorem mem_rchL {nss : List (List Int)} {x y : Nat} : y ∈ rchL nss x ↔ y < nss.length ∧ Rch nss x y := by
  unfold rchL
  rw [List.mem_filter, List.mem_range, decide_eq_true_iff]
theorem rchL_pw (nss : List (List Int)) (x : Nat) : (rchL nss x).Pairwise (· < ·) := List.Pairwise.sublist (List.filter_sublist ..) List.pairwise_lt_range
theorem rchL_len (nss : List (List Int)) (x : Nat) : (rchL nss x).length ≤ nss.length := by
  have := List.length_filter_le (fun y => decide (Rch nss x y)) (List.range nss.length)
  rw [List.length_range] at this
  exact this
theorem srt_ext {α : Type} {R : α → α → Prop} (irr : ∀ x, ¬ R x x) (tr : ∀ x y z, R x y → R y z → R x z) : ∀ {xs ys : List α}, xs.Pairwise R → ys.Pairwise R → (∀ z, z ∈ xs ↔ z ∈ ys) → xs = ys
  | [], [], _, _, _ => rfl
  | [], y :: ys, _, _, h => nomatch (h y).mpr (List.mem_cons_self ..)
  | x :: xs, [], _, _, h => nomatch (h x).mp (List.mem_cons_self ..)
  | x :: xs, y :: ys, hx, hy, h => by
    rw [List.pairwise_cons] at hx hy
    have e : x = y := by
      rcases List.mem_cons.mp ((h x).mp (List.mem_cons_self ..)) with q | q
      · exact q
      · rcases List.mem_cons.mp ((h y).mpr (List.mem_cons_self ..)) with p | p
        · exact p.symm
        · exact (irr x (tr _ _ _ (hx.1 y p) (hy.1 x q))).elim
    subst e
    refine congrArg (x :: ·) (srt_ext irr tr hx.2 hy.2 fun z => ⟨fun m => ?_, fun m => ?_⟩)
    · rcases List.mem_cons.mp ((h z).mp (List.mem_cons_of_mem _ m)) with q | q
      · subst q
        exact (irr z (hx.1 z m)).elim
      · exact q
    · rcases List.mem_cons.mp ((h z).mpr (List.mem_cons_of_mem _ m)) with q | q
      · subst q
        exact (irr z (hy.1 z m)).elim
      · exact q
theorem nat_ext {xs ys : List Nat} (h1 : xs.Pairwise (· < ·)) (h2 : ys.Pairwise (· < ·)) (h : ∀ z, z ∈ xs ↔ z ∈ ys) : xs = ys := srt_ext (fun x => Nat.lt_irrefl x) (fun _ _ _ a b => Nat.lt_trans a b) h1 h2 h
/-- places, without a double, among so many: no more than these -/
theorem nodup_len : ∀ {n : Nat} {xs : List Nat}, xs.Nodup → (∀ x ∈ xs, x < n) → xs.length ≤ n
  | 0, [], _, _ => Nat.le_refl 0
  | 0, x :: _, _, h => nomatch h x (List.mem_cons_self ..)
  | n + 1, xs, hn, h => by
    have g := nodup_len (n := n) (xs := xs.filter (· ≠ n)) (hn.sublist (List.filter_sublist ..)) fun x hx => by
      rw [List.mem_filter] at hx
      have := h x hx.1
      have := of_decide_eq_true hx.2
      omega
    have e : xs.length ≤ (xs.filter (· ≠ n)).length + 1 := by
      clear g h
      induction xs with
      | nil => exact Nat.zero_le _
      | cons x xs ih =>
        rw [List.nodup_cons] at hn
        rcases Classical.em (x = n) with q | q
        · subst q
          have z : xs.filter (· ≠ x) = xs := List.filter_eq_self.mpr fun y hy => decide_eq_true fun e => hn.1 (e ▸ hy)
          rw [List.filter_cons, if_neg (by simp), z]
          exact Nat.le_refl _
        · rw [List.filter_cons, if_pos (by simpa using q), List.length_cons, List.length_cons]
          have := ih hn.2
          omega
    omega
/-- a sorted list of just the places to which one comes is rchL -/
theorem rchL_of {nss : List (List Int)} {x : Nat} {ps : List Nat} {ks : List Int} (hp : ks.Perm (ps.map fun p : Nat => (p : Int))) (hs : ks.Pairwise (· ≤ ·)) (hn : ps.Nodup) (hm : ∀ y, y ∈ ps ↔ y < nss.length ∧ Rch nss x y) : ks = (rchL nss x).map fun p : Nat => (p : Int) := by
  have h1 : ks.Pairwise (· < ·) := by
    have nd : ks.Nodup := hp.nodup_iff.mpr (by
      refine List.Pairwise.map _ (fun a b h e => h ?_) hn
      exact Int.ofNat.inj e)
    refine (List.pairwise_and_iff.mpr ⟨hs, nd⟩).imp fun {a b} h => ?_
    have := h.1
    have := h.2
    omega
  refine srt_ext (R := (· < ·)) (fun x => Int.lt_irrefl x) (fun _ _ _ a b => Int.lt_trans a b) h1 (List.Pairwise.map _ (fun a b h => Int.ofNat_lt.mpr h) (rchL_pw nss x)) fun z => ?_
  rw [hp.mem_iff, List.mem_map, List.mem_map]
  constructor
  · rintro ⟨y, hy, rfl⟩
    exact ⟨y, mem_rchL.mpr ((hm y).mp hy), rfl⟩
  · rintro ⟨y, hy, rfl⟩
    exact ⟨y, (hm y).mpr (mem_rchL.mp hy), rfl⟩
/-- what is closed under steps and has x has all places to which one comes from x -/
theorem Rch.in_closed {nss : List (List Int)} {x y : Nat} {ps : List Nat} (h0 : x ∈ ps) (hc : ∀ p ∈ ps, ∀ z, Stp nss p z → z ∈ ps) (r : Rch nss x y) : y ∈ ps := by
  induction r with
  | refl => exact h0
  | tail _ s ih => exact hc _ ih _ s
/-! closed sets -/
/-- all places of x's set come to just these -/
def ClsAt (nss : List (List Int)) (x : Nat) : Prop := ∀ y ∈ rchL nss x, rchL nss y = rchL nss x
noncomputable def clsUp (nss : List (List Int)) (k : Nat) : List (List Nat) := ((List.range k).filter fun x => decide ((rchL nss x).head? = some x ∧ ClsAt nss x)).map (rchL nss)
/-- the closed sets, by their first places -/
noncomputable def clsL (nss : List (List Int)) : List (List Nat) := clsUp nss nss.length
theorem clsUp_zero (nss : List (List Int)) : clsUp nss 0 = [] := rfl
theorem clsUp_yes {nss : List (List Int)} {k : Nat} (h : (rchL nss k).head? = some k) (g : ClsAt nss k) : clsUp nss (k + 1) = clsUp nss k ++ [rchL nss k] := by
  unfold clsUp
  rw [List.range_succ, List.filter_append, List.map_append, List.filter_cons, if_pos (by simp [h, g])]
  rfl
theorem clsUp_no {nss : List (List Int)} {k : Nat} (h : ¬ ((rchL nss k).head? = some k ∧ ClsAt nss k)) : clsUp nss (k + 1) = clsUp nss k := by
  unfold clsUp
  rw [List.range_succ, List.filter_append, List.map_append, List.filter_cons, if_neg (by simpa using h)]
  exact List.append_nil _
theorem mem_clsUp {nss : List (List Int)} {k : Nat} {ps : List Nat} : ps ∈ clsUp nss k ↔ ∃ x, x < k ∧ (rchL nss x).head? = some x ∧ ClsAt nss x ∧ rchL nss x = ps := by
  unfold clsUp
  rw [List.mem_map]
  constructor
  · rintro ⟨x, hx, e⟩
    rw [List.mem_filter, List.mem_range, decide_eq_true_iff] at hx
    exact ⟨x, hx.1, hx.2.1, hx.2.2, e⟩
  · rintro ⟨x, h1, h2, h3, e⟩
    exact ⟨x, by rw [List.mem_filter, List.mem_range, decide_eq_true_iff]; exact ⟨h1, h2, h3⟩, e⟩
theorem clsUp_len (nss : List (List Int)) (k : Nat) : (clsUp nss k).length ≤ k := by
  unfold clsUp
  rw [List.length_map]
  have := List.length_filter_le (fun x => decide ((rchL nss x).head? = some x ∧ ClsAt nss x)) (List.range k)
  rw [List.length_range] at this
  exact this
theorem head_mem {ps : List Nat} {x : Nat} (h : ps.head? = some x) : x ∈ ps := by
  cases ps with
  | nil => cases h
  | cons a r =>
    cases h
    exact List.mem_cons_self ..
theorem self_rchL {nss : List (List Int)} {x : Nat} (hx : x < nss.length) : x ∈ rchL nss x := mem_rchL.mpr ⟨hx, .refl⟩
/-- of a closed set, found anew or not: it is anew just at its first place -/
theorem cls_new {nss : List (List Int)} {x : Nat} (hx : x < nss.length) (g : ClsAt nss x) : rchL nss x ∉ clsUp nss x ↔ (rchL nss x).head? = some x := by
  have hm := self_rchL hx
  cases q : rchL nss x with
  | nil => rw [q] at hm; cases hm
  | cons h r =>
    have hh : h ∈ rchL nss x := by rw [q]; exact List.mem_cons_self ..
    have le : h ≤ x := by
      rw [q] at hm
      have pw := rchL_pw nss x
      rw [q, List.pairwise_cons] at pw
      rcases List.mem_cons.mp hm with e | m
      · omega
      · exact Nat.le_of_lt (pw.1 x m)
    have eh := g h hh
    rw [← q]
    constructor
    · intro n
      rw [q, List.head?_cons]
      rcases Nat.lt_or_ge h x with l | l
      · exact (n (mem_clsUp.mpr ⟨h, l, by rw [eh, q]; rfl, fun y hy => by rw [eh] at hy ⊢; exact g y hy, eh⟩)).elim
      · rw [show h = x by omega]
    · intro e m
      rw [q, List.head?_cons, Option.some.injEq] at e
      obtain ⟨y, l, a, b, c⟩ := mem_clsUp.mp m
      rw [c, q, List.head?_cons, Option.some.injEq] at a
      omega
/-- the closed sets come by their first places -/
theorem clsUp_pw (nss : List (List Int)) (k : Nat) : (clsUp nss k).Pairwise fun a b => ∃ x y, a.head? = some x ∧ b.head? = some y ∧ x < y := by
  unfold clsUp
  refine List.pairwise_map.mpr ?_
  refine List.Pairwise.imp_of_mem (R := (· < ·)) ?_ (List.Pairwise.sublist (List.filter_sublist ..) List.pairwise_lt_range)
  intro a b ha hb l
  rw [List.mem_filter, decide_eq_true_iff] at ha hb
  exact ⟨a, b, ha.2.1, hb.2.1, l⟩
end
end My
namespace My
open PySem PySem.Spec PyProof.Rows L2
/-! ### more readings: tests in comprehensions, enumerate, tuples of places -/
def rTupOf (K : PySem.W.Frag) : List V → Hp → VK → Prop := fun xs H Q => ∃ p ys, xs = [.ref p] ∧ ((SqL K H p ys ∧ ∀ l, H l = none → Q (.ref l) (upd H l (.tup ys))) ∨ (SqT K H p ys ∧ Q (.ref p) H))
theorem cr_tupOf {X : Cx} : CallR X (.type "tuple") (rTupOf X.K) := call_tuple_of
section
variable {K : PySem.W.Frag} {g : TG} {tb : TS} {te : TE} {tt : TT} {D : Ends} {σ : L2.St} {H : Hp} {Q : VK}
theorem rd_tupOf {p : Addr} {ys : List V} (h : SqL K H p ys) (k : ∀ l, H l = none → Q (.ref l) (upd H l (.tup ys))) : rTupOf K [.ref p] H Q := ⟨p, ys, rfl, .inl ⟨h, k⟩⟩
theorem rd_sorted {a : Addr} {ns : List Int} (h : SqL K H a (ns.map V.int)) (hz : ns.length < 64) (k : ∀ (ns' : List Int) (p : Addr), ns'.Perm ns → ns'.Pairwise (· ≤ ·) → H p = none → Q (.ref p) (upd H p (.lst (ns'.map V.int)))) : rSorted K [.ref a] H Q := ⟨a, ns, rfl, h, hz, k⟩
/-- the turns of a comprehension with a test -/
def PvJ (J : Nat → List V → Addr → Hp → Prop) (D : Addr) (i : Nat) : Hp → Prop := fun H => ∃ acc, acc.length ≤ i ∧ H D = some (.lst acc) ∧ J i acc D H
def kLcTE (J : Nat → List V → Addr → Hp → Prop) (D : Addr) (i : Nat) : VK := fun y H4 => ∃ acc, H4 D = some (.lst acc) ∧ acc.length < sizeLine ∧ PvJ J D (i + 1) (upd H4 D (.lst (acc ++ [y])))
def kLcTt (te : TE) (σ2 : L2.St) (J : Nat → List V → Addr → Hp → Prop) (D : Addr) (i : Nat) : Bool → Hp → Prop := fun b H3 => if b = true then te σ2 H3 (kLcTE J D i) else PvJ J D (i + 1) H3
theorem rd_lcTE {J : Nat → List V → Addr → Hp → Prop} {D : Addr} {i : Nat} {acc : List V} {y : V} (h1 : H D = some (.lst acc)) (h2 : acc.length ≤ i) (hz : i < 200000) (h3 : J (i + 1) (acc ++ [y]) D (upd H D (.lst (acc ++ [y])))) : kLcTE J D i y H :=
  ⟨acc, h1, Nat.lt_of_le_of_lt h2 (Nat.lt_trans hz (by decide)), acc ++ [y], by rw [List.length_append]; exact Nat.succ_le_succ h2, upd_same, h3⟩
def kLcTN (g : TG) (tt : TT) (te : TE) (vs : List Nat) (σ : L2.St) (Q : VK) (lo : Int) (n : Nat) : Hp → Prop := fun H1 => ∀ D, H1 D = none → ∃ W : Nat → Nat → Hp → Prop, (∃ m, W 0 m (upd H1 D (.lst []))) ∧ ∀ i m H, W i m H →
  ((Itr lo n).stop i H ∧ Q (.ref D) H) ∨ ((Itr lo n).go i H ∧ ∃ Nx : Hp → Prop, (∀ H', Nx H' → ∃ m', m' < m ∧ W (i + 1) m' H') ∧ ∀ x H', (Itr lo n).yld i H x H' → g x (wipe σ vs) H' fun σ2 H2 => wipe σ2 vs = wipe σ vs ∧ tt σ2 H2 fun b H3 =>
    if b = true then te σ2 H3 fun y H4 => ∃ acc, H4 D = some (.lst acc) ∧ acc.length < sizeLine ∧ Nx (upd H4 D (.lst (acc ++ [y]))) else Nx H3)
def kLcTR1 (g : TG) (tt : TT) (te : TE) (vs : List Nat) (σ : L2.St) (Q : VK) : List V → Hp → Prop := fun xs H1 => ∃ j : Int, xs = [.int j] ∧ -(2 ^ 62) ≤ j ∧ j < 2 ^ 62 ∧ kLcTN g tt te vs σ Q 0 j.toNat H1
theorem rd_lcTR1 {tr : TA} {vs : List Nat} (h : tr σ H (kLcTR1 g tt te vs σ Q)) : tLc (iRng1 tr) g tt te vs σ H Q := h
theorem rd_kLcTN {vs : List Nat} {lo : Int} {n : Nat} (J : Nat → List V → Addr → Hp → Prop) (h0 : ∀ D, H D = none → J 0 [] D (upd H D (.lst [])))
    (hs : ∀ i acc D H', H D = none → i < n → H' D = some (.lst acc) → acc.length ≤ i → J i acc D H' → g (.int (lo + i)) (wipe σ vs) H' fun σ2 H2 => wipe σ2 vs = wipe σ vs ∧ tt σ2 H2 (kLcTt te σ2 J D i))
    (hd : ∀ acc D H', H D = none → acc.length ≤ n → H' D = some (.lst acc) → J n acc D H' → Q (.ref D) H') : kLcTN g tt te vs σ Q lo n H := by
  intro D hD
  refine lc_range (PvJ J D) ⟨[], Nat.le_refl _, upd_same, h0 D hD⟩ ?_ fun H' ⟨acc, e, h, j⟩ => hd acc D H' hD e h j
  rintro i H' hi ⟨acc, e, h, j⟩
  exact hs i acc D H' hD hi h e j
/-- .. over a list -/
def kLcT (K : PySem.W.Frag) (g : TG) (tt : TT) (te : TE) (vs : List Nat) (σ : L2.St) (Q : VK) : VK := fun x H1 => ∃ a, x = .ref a ∧ (∃ xs, SqL K H1 a xs) ∧ ∀ D, H1 D = none → ∃ W : Nat → Nat → Hp → Prop, (∃ m, W 0 m (upd H1 D (.lst []))) ∧ ∀ i m H, W i m H →
  ((Itl K a).stop i H ∧ Q (.ref D) H) ∨ ((Itl K a).go i H ∧ ∃ Nx : Hp → Prop, (∀ H', Nx H' → ∃ m', m' < m ∧ W (i + 1) m' H') ∧ ∀ x H', (Itl K a).yld i H x H' → g x (wipe σ vs) H' fun σ2 H2 => wipe σ2 vs = wipe σ vs ∧ tt σ2 H2 fun b H3 =>
    if b = true then te σ2 H3 fun y H4 => ∃ acc, H4 D = some (.lst acc) ∧ acc.length < sizeLine ∧ Nx (upd H4 D (.lst (acc ++ [y]))) else Nx H3)
theorem rd_lcT {ta : TE} {vs : List Nat} (h : ta σ H (kLcT K g tt te vs σ Q)) : tLc (iList K ta) g tt te vs σ H Q := h
theorem rd_kLcT {vs : List Nat} {a : Addr} {xs : List V} (J : Nat → List V → Addr → Hp → Prop) (hq : SqL K H a xs) (h0 : ∀ D, H D = none → J 0 [] D (upd H D (.lst []))) (hl : ∀ i acc D H', J i acc D H' → SqL K H' a xs)
    (hs : ∀ i x acc D H', H D = none → i < xs.length → xs[i]? = some x → H' D = some (.lst acc) → acc.length ≤ i → J i acc D H' → g x (wipe σ vs) H' fun σ2 H2 => wipe σ2 vs = wipe σ vs ∧ tt σ2 H2 (kLcTt te σ2 J D i))
    (hd : ∀ acc D H', H D = none → acc.length ≤ xs.length → H' D = some (.lst acc) → J xs.length acc D H' → Q (.ref D) H') : kLcT K g tt te vs σ Q (.ref a) H := by
  refine ⟨a, rfl, ⟨xs, hq⟩, fun D hD => ?_⟩
  refine lc_list (PvJ J D) ⟨[], Nat.le_refl _, upd_same, h0 D hD⟩ (fun i H' _ ⟨acc, _, _, j⟩ => hl i acc D H' j) ?_ fun H' ⟨acc, e, h, j⟩ => hd acc D H' hD e h j
  rintro i x H' hx ⟨acc, e, h, j⟩
  exact hs i x acc D H' hD (List.getElem?_eq_some_iff.mp hx).1 hx h e j
/-- .. over a tuple -/
def kLcU (K : PySem.W.Frag) (g : TG) (tt : TT) (te : TE) (vs : List Nat) (σ : L2.St) (Q : VK) : VK := fun x H1 => ∃ a, x = .ref a ∧ (∃ xs, SqT K H1 a xs) ∧ ∀ D, H1 D = none → ∃ W : Nat → Nat → Hp → Prop, (∃ m, W 0 m (upd H1 D (.lst []))) ∧ ∀ i m H, W i m H →
  ((Itt K a).stop i H ∧ Q (.ref D) H) ∨ ((Itt K a).go i H ∧ ∃ Nx : Hp → Prop, (∀ H', Nx H' → ∃ m', m' < m ∧ W (i + 1) m' H') ∧ ∀ x H', (Itt K a).yld i H x H' → g x (wipe σ vs) H' fun σ2 H2 => wipe σ2 vs = wipe σ vs ∧ tt σ2 H2 fun b H3 =>
    if b = true then te σ2 H3 fun y H4 => ∃ acc, H4 D = some (.lst acc) ∧ acc.length < sizeLine ∧ Nx (upd H4 D (.lst (acc ++ [y]))) else Nx H3)
theorem rd_lcU {ta : TE} {vs : List Nat} (h : ta σ H (kLcU K g tt te vs σ Q)) : tLc (iTup K ta) g tt te vs σ H Q := h
theorem rd_kLcU {vs : List Nat} {a : Addr} {xs : List V} (J : Nat → List V → Addr → Hp → Prop) (hq : SqT K H a xs) (h0 : ∀ D, H D = none → J 0 [] D (upd H D (.lst []))) (hl : ∀ i acc D H', J i acc D H' → SqT K H' a xs)
    (hs : ∀ i x acc D H', H D = none → i < xs.length → xs[i]? = some x → H' D = some (.lst acc) → acc.length ≤ i → J i acc D H' → g x (wipe σ vs) H' fun σ2 H2 => wipe σ2 vs = wipe σ vs ∧ tt σ2 H2 (kLcTt te σ2 J D i))
    (hd : ∀ acc D H', H D = none → acc.length ≤ xs.length → H' D = some (.lst acc) → J xs.length acc D H' → Q (.ref D) H') : kLcU K g tt te vs σ Q (.ref a) H := by
  refine ⟨a, rfl, ⟨xs, hq⟩, fun D hD => ?_⟩
  refine lc_tup (PvJ J D) ⟨[], Nat.le_refl _, upd_same, h0 D hD⟩ (fun i H' _ ⟨acc, _, _, j⟩ => hl i acc D H' j) ?_ fun H' ⟨acc, e, h, j⟩ => hd acc D H' hD e h j
  rintro i x H' hx ⟨acc, e, h, j⟩
  exact hs i x acc D H' hD (List.getElem?_eq_some_iff.mp hx).1 hx h e j
theorem rd_yes {J : Nat → List V → Addr → Hp → Prop} {D : Addr} {i : Nat} (h : te σ H (kLcTE J D i)) : tYes σ H (kLcTt te σ J D i) := h
/-- for i, x in enumerate(xs) -/
def kEnum (K : PySem.W.Frag) (g : TG) (tb : TS) (D : Ends) (σ : L2.St) : List V → Hp → Prop := fun vs H1 => ∃ a xs, vs = [.ref a] ∧ SqL K H1 a xs ∧ ∃ W : Nat → Nat → L2.St → Hp → Prop, (∃ m, W 0 m σ H1) ∧ ∀ i m σ H, W i m σ H →
  ((Ite K a).stop i H ∧ D.nx σ H) ∨ ((Ite K a).go i H ∧ ∃ N : L2.St → Hp → Prop, (∀ σ' H', N σ' H' → ∃ m', m' < m ∧ W (i + 1) m' σ' H') ∧ ∀ x H', (Ite K a).yld i H x H' → g x σ H' fun σ2 H2 => tb { D with nx := N, ct := N, bk := D.nx } σ2 H2)
theorem rd_forE {tr : TA} (h : tr σ H (kEnum K g tb D σ)) : tFor (iEnum K tr) g tb D σ H := h
theorem rd_kEnum {a : Addr} {xs : List V} (hq : SqL K H a xs) (Pv : Nat → L2.St → Hp → Prop) (h0 : Pv 0 σ H) (hl : ∀ i σ H, i ≤ xs.length → Pv i σ H → SqL K H a xs)
    (hs : ∀ (i : Nat) (x : V) (T : Addr) (σ : L2.St) (H : Hp), xs[i]? = some x → Pv i σ H → H T = none → g (.ref T) σ (upd H T (.tup [.int (i : Nat), x])) fun σ2 H2 => tb { D with nx := Pv (i + 1), ct := Pv (i + 1), bk := D.nx } σ2 H2)
    (hd : ∀ σ H, Pv xs.length σ H → D.nx σ H) : kEnum K g tb D σ [.ref a] H := by
  refine ⟨a, xs, rfl, hq, fun i m σ H => m = xs.length - i ∧ i ≤ xs.length ∧ Pv i σ H, ⟨xs.length, rfl, Nat.zero_le _, h0⟩, ?_⟩
  rintro i m σ H ⟨rfl, hi, p⟩
  have q := hl i σ H hi p
  rcases Nat.lt_or_ge i xs.length with hlt | hge
  · refine .inr ⟨⟨xs, xs[i], q, List.getElem?_eq_getElem hlt⟩, Pv (i + 1), fun σ' H' p' => ⟨xs.length - (i + 1), by omega, rfl, hlt, p'⟩, fun v H' y => ?_⟩
    obtain ⟨T, x', rfl, hT, rfl, f1⟩ := y
    exact hs i x' T σ H (f1 xs q) p hT
  · have e : i = xs.length := by omega
    subst e
    exact .inl ⟨⟨xs, q, Nat.le_refl _⟩, hd σ H p⟩
/-- xs.pop() -/
theorem rd_pop {l : Addr} {xs : List V} {y : V} (hl : H l = some (.lst xs)) (hy : xs[xs.length - 1]? = some y) (k : Q y (upd H l (.lst xs.dropLast))) : rPop (.ref l) [] H Q := ⟨l, xs, y, rfl, rfl, hl, hy, k⟩
end
theorem rd_ext {K : PySem.W.Frag} {σ : L2.St} {H : Hp} {Q : VK} {i j : Nat} {l b : Addr} {xs zs : List V} (e1 : σ[i]? = some (some (.ref l))) (e2 : σ[j]? = some (some (.ref b))) (h1 : H l = some (.lst xs)) (h2 : H b = some (.lst zs)) (hz : xs.length + zs.length ≤ 100000) (k : Q .non (upd H l (.lst (xs ++ zs)))) :
    tBM K "list" rExtend (tVar i) (tCons (tVar j) tNil) σ H Q := ⟨.ref l, e1, .inl ⟨rfl, _, SqL.of h1⟩, .ref b, e2, l, b, xs, zs, rfl, rfl, h1, h2, Nat.le_trans hz (by decide), k⟩
/-! ### sorted tuples of numbers -/
abbrev TRow := Addr × List Int
def encT (e : TRow) : PyData := .tuple (e.2.map PyData.int)
def tv (e : TRow) : V := .ref e.1
def rSortedT (K : PySem.W.Frag) : List V → Hp → VK → Prop := fun vs H Q => ∃ (a : Addr) (es : List TRow), vs = [.ref a] ∧ SqL K H a (es.map tv) ∧ (∀ e ∈ es, SqT K H e.1 (e.2.map V.int) ∧ e.2 ≠ []) ∧
  ∀ p, H p = none → Q (.ref p) (upd H p (.lst ((es.mergeSort (PySem.W.dataLe false encT)).map tv)))
theorem dp_intsT {K : PySem.W.Frag} {H : Hp} {e : TRow} (h : SqT K H e.1 (e.2.map V.int)) : Dp K H (tv e) (encT e) := .tup h (dp_ints e.2)
section
variable {X : Cx}
theorem each_tv : ∀ {es : List TRow} {its : List Value}, Vals (es.map tv) its → PySem.W.EachIs (fun v (e : TRow) => v = Value.ref e.1) its es
  | [], _, r => by
    have r' : Vals [] _ := r
    cases r'
    exact .nil
  | e :: es, _, r => by
    have r' : Vals (tv e :: es.map tv) _ := r
    cases r' with
    | cons h t => exact .cons h (each_tv t)
theorem vals_tv : ∀ {es : List TRow} {its : List Value}, PySem.W.EachIs (fun v (e : TRow) => v = Value.ref e.1) its es → Vals (es.map tv) its
  | [], _, .nil => .nil
  | e :: es, _, .cons h t => .cons h (vals_tv t)
theorem each_reads {pins : List (Addr × Obj)} {σ : L2.St} {H : Hp} {s : Shared} (I : Inv X pins σ H s) : ∀ {es : List TRow} {its : List Value}, PySem.W.EachIs (fun v (e : TRow) => v = Value.ref e.1) its es → (∀ e ∈ es, SqT X.K H e.1 (e.2.map V.int)) →
    PySem.W.EachIs (fun v e => ∃ as, Reads s.heap v (encT e) as) its es
  | [], _, .nil, _ => .nil
  | e :: es, _, .cons h t, q => .cons (Dp.reads I (encT e) (tv e) _ (dp_intsT (q e (List.mem_cons_self ..))) h) (each_reads I t fun x hx => q x (List.mem_cons_of_mem _ hx))
theorem alike_encT (a b : TRow) : PySem.W.alike (encT a) (encT b) = true := by
  unfold encT
  rw [PySem.W.alike]
  exact PySem.W.alike_ints _ _
theorem cr_sortedTup (hu : X.A.units + 64 < cLine) : CallR X (.builtin "sorted") (rSortedT X.K) := by
  intro pins s σ H vs us Q I r h
  obtain ⟨a, es, rfl, hs, hx, q⟩ := h
  obtain ⟨its, rv, hl, hz⟩ := I.list hs
  obtain ⟨u, rfl, ru⟩ := vals1 r
  obtain rfl : u = Value.ref a := ru
  have e1 := each_tv rv
  have len : es.length = its.length := by
    have := rv.length
    rw [List.length_map] at this
    exact this
  refine PySem.W.sorted_data (R := fun v (e : TRow) => v = Value.ref e.1) (enc := encT) hl.isList e1 (each_reads I e1 fun e he => (hx e he).1) ?_ (.inl fun d hd => ?_) (by rw [len]; exact Nat.le_trans (Nat.le_of_eq (by rw [← len, List.length_map])) hz) (fun b hb => ?_) fun out ho eo => ?_
  · intro d hd d' hd'
    obtain ⟨b, _, rfl⟩ := List.mem_map.mp hd
    obtain ⟨b', _, rfl⟩ := List.mem_map.mp hd'
    exact alike_encT b b'
  · obtain ⟨b, hb, rfl⟩ := List.mem_map.mp hd
    obtain ⟨n, m⟩ := hx b hb
    unfold encT
    match q : b.2, m with
    | [], m => exact (m rfl).elim
    | x :: r, _ => exact ⟨_, _, rfl⟩
  · have : (encT b).depth ≤ 1 := by
      unfold encT
      simp only [PyData.depth]
      rw [PySem.W.depth_ints]
      omega
    omega
  · have ro := vals_tv eo
    obtain ⟨n, hn⟩ := sortedAll_at s.heap its out.toArray
    refine ⟨.ref (s.heap.objs.size + 1), _, I.laid (o := .lst ((es.mergeSort (PySem.W.dataLe false encT)).map tv)) (t' := s.toks) (fun b o e => sortedAll_old e) (Nat.le_succ _) ⟨?_, out, n, ro, hn⟩, rfl, q _ (I.hok.fresh (Nat.le_succ _))⟩
    rw [List.length_map, ← eo.length, ho, len]
    exact Nat.le_trans (Nat.le_of_eq (by rw [← len, List.length_map])) hz
theorem rd_sortedT {K : PySem.W.Frag} {a : Addr} {es : List TRow} {H : Hp} {Q : VK} (h1 : SqL K H a (es.map tv)) (h2 : ∀ e ∈ es, SqT K H e.1 (e.2.map V.int) ∧ e.2 ≠ []) (hp : es.Pairwise fun a b => ∃ x y, a.2.head? = some x ∧ b.2.head? = some y ∧ x < y)
    (k : ∀ p, H p = none → Q (.ref p) (upd H p (.lst (es.map tv)))) : rSortedT K [.ref a] H Q := by
  refine ⟨a, es, rfl, h1, h2, fun p hq => ?_⟩
  rw [List.mergeSort_of_pairwise]
  · exact k p hq
  · refine hp.imp ?_
    rintro a b ⟨x, y, hx, hy, l⟩
    rw [PySem.W.dataLe_eq]
    match ea : a.2, eb : b.2, hx, hy with
    | x' :: r, y' :: s, hx, hy =>
      cases hx
      cases hy
      show (!PySem.W.dataLt (encT b) (encT a)) = true
      unfold encT
      rw [ea, eb]
      show (!PyProof.Rows.lexLt itemOrd (PySem.W.keyToksAll (.int y :: s.map PyData.int)) (PySem.W.keyToksAll (.int x :: r.map PyData.int))) = true
      rw [PySem.W.dataLt_cons (by simp only [PySem.W.alike]), if_neg (by simp only [PyData.eqv, beq_iff_eq]; omega), PySem.W.dataLt_int]
      simp only [Bool.not_eq_true', decide_eq_false_iff_not]
      omega
end
/-! ### sets of places as data -/
def nz (ps : List Nat) : List Int := ps.map fun p : Nat => (p : Int)
def setD (ps : List Nat) : PyData := .tuple ((nz ps).map PyData.int)
def listD (ps : List Nat) : PyData := .list ((nz ps).map PyData.int)
def setsD (pss : List (List Nat)) : PyData := .list (pss.map setD)
theorem eqv_nats : ∀ ps qs : List Nat, PyData.eqvAll ((nz ps).map PyData.int) ((nz qs).map PyData.int) = decide (ps = qs)
  | [], [] => by simp [nz, PyData.eqvAll]
  | [], q :: qs => by simp [nz, PyData.eqvAll]
  | p :: ps, [] => by simp [nz, PyData.eqvAll]
  | p :: ps, q :: qs => by
    have ih := eqv_nats ps qs
    show PyData.eqvAll (.int (p : Int) :: (nz ps).map PyData.int) (.int (q : Int) :: (nz qs).map PyData.int) = _
    rw [PyData.eqvAll, ih, PyData.eqv]
    by_cases h : p = q
    · subst h
      simp
    · have h2 : ¬ ((p : Int) = (q : Int)) := fun e => h (by omega)
      simp [h, h2]
theorem eqv_set (ps qs : List Nat) : PyData.eqv (setD ps) (setD qs) = decide (ps = qs) := by
  unfold setD
  rw [PyData.eqv]
  exact eqv_nats ps qs
theorem eqv_lists (ps qs : List Nat) : PyData.eqv (listD ps) (listD qs) = decide (ps = qs) := by
  unfold listD
  rw [PyData.eqv]
  exact eqv_nats ps qs
theorem nice_nats {ps : List Nat} {n : Nat} (h : ∀ p ∈ ps, p < 1000000) : NiceAll ((nz ps).map PyData.int) ps.length n := by
  have e : ps.length = (nz ps).length := (List.length_map ..).symm
  rw [e]
  refine NiceAll.ints fun x hx => ?_
  obtain ⟨p, hp, rfl⟩ := List.mem_map.mp hx
  have := h p hp
  exact Nat.lt_of_lt_of_le (show ((p : Nat) : Int).natAbs < 2 ^ 20 by omega) (Nat.pow_le_pow_right (by decide) (by decide))
theorem nice_set {ps : List Nat} (h : ∀ p ∈ ps, p < 1000000) : Nice (setD ps) (ps.length + 1) 1 := .tup (nice_nats h)
theorem nice_listD {ps : List Nat} (h : ∀ p ∈ ps, p < 1000000) : Nice (listD ps) (ps.length + 1) 1 := .lst (nice_nats h)
theorem nice_setsAll {N : Nat} : ∀ {pss : List (List Nat)}, (∀ ps ∈ pss, ps.length ≤ N ∧ ∀ p ∈ ps, p < 1000000) → ∃ k, k ≤ (N + 1) * pss.length ∧ NiceAll (pss.map setD) k 1
  | [], _ => ⟨0, Nat.zero_le _, .nil⟩
  | ps :: r, h => by
    obtain ⟨k, hk, g⟩ := nice_setsAll fun x hx => h x (List.mem_cons_of_mem _ hx)
    obtain ⟨a, b⟩ := h ps (List.mem_cons_self ..)
    refine ⟨ps.length + 1 + k, ?_, .cons (nice_set b) (Nat.le_refl _) g⟩
    rw [List.length_cons, Nat.mul_succ]
    omega
theorem nice_sets {N M : Nat} {pss : List (List Nat)} (h : ∀ ps ∈ pss, ps.length ≤ N ∧ ∀ p ∈ ps, p < 1000000) (hM : (N + 1) * pss.length ≤ M) : ∃ k, k ≤ M + 1 ∧ Nice (setsD pss) k 2 := by
  obtain ⟨k, hk, g⟩ := nice_setsAll h
  exact ⟨k + 1, by omega, .lst g⟩
theorem dp_set {K : PySem.W.Frag} {H : Hp} {t : Addr} {ps : List Nat} (h : SqT K H t ((nz ps).map V.int)) : Dp K H (.ref t) (setD ps) := .tup h (dp_ints _)
theorem dp_listD {K : PySem.W.Frag} {H : Hp} {t : Addr} {ps : List Nat} (h : SqL K H t ((nz ps).map V.int)) : Dp K H (.ref t) (listD ps) := .lst h (dp_ints _)
theorem any_eqv (pss : List (List Nat)) (ps : List Nat) : ((pss.map setD).any fun z => PyData.eqv z (setD ps)) = decide (ps ∈ pss) := by
  induction pss with
  | nil => simp
  | cons q r ih =>
    rw [List.map_cons, List.any_cons, ih, eqv_set]
    by_cases h : q = ps
    · subst h
      simp
    · have h2 : ¬ ps = q := fun e => h e.symm
      simp [h, h2]
/-- sets, as tuples, in the heap -/
abbrev SRow := Addr × List Nat
def sv (e : SRow) : V := .ref e.1
def SetsAt (H : Hp) (l : Addr) (ts : List SRow) : Prop := H l = some (.lst (ts.map sv)) ∧ ∀ t ∈ ts, H t.1 = some (.tup ((nz t.2).map V.int))
theorem SetsAt.same {H H' : Hp} {l : Addr} {ts : List SRow} (h : SetsAt H l ts) (e : Same H H') : SetsAt H' l ts := ⟨e _ _ h.1, fun t ht => e _ _ (h.2 t ht)⟩
theorem dp_setsAll {K : PySem.W.Frag} {H : Hp} : ∀ {ts : List SRow}, (∀ t ∈ ts, H t.1 = some (.tup ((nz t.2).map V.int))) → DpAll K H (ts.map sv) ((ts.map Prod.snd).map setD)
  | [], _ => .nil
  | t :: r, h => .cons (dp_set (SqT.of (h t (List.mem_cons_self ..)))) (dp_setsAll fun x hx => h x (List.mem_cons_of_mem _ hx))
theorem dp_sets {K : PySem.W.Frag} {H : Hp} {l : Addr} {ts : List SRow} (h : SetsAt H l ts) : Dp K H (.ref l) (setsD (ts.map Prod.snd)) := .lst (SqL.of h.1) (dp_setsAll h.2)
theorem rd_eqSet {K : PySem.W.Frag} {H : Hp} {Q : VK} {x y : V} {ps qs : List Nat} (hx : Dp K H x (setD ps)) (hy : Dp K H y (setD qs)) (h1 : ∀ p ∈ ps, p < 1000000) (h2 : ∀ p ∈ qs, p < 1000000) (q : Q (.bl (decide (ps = qs))) H) : rEqD K x y H Q := by
  refine ⟨_, _, hx, hy, (nice_set h1).shaped (by omega), (nice_set h2).shaped (by omega), ?_⟩
  rw [eqv_set]
  exact q
theorem rd_eqList {K : PySem.W.Frag} {H : Hp} {Q : VK} {x y : V} {ps qs : List Nat} (hx : Dp K H x (listD ps)) (hy : Dp K H y (listD qs)) (h1 : ∀ p ∈ ps, p < 1000000) (h2 : ∀ p ∈ qs, p < 1000000) (q : Q (.bl (decide (ps = qs))) H) : rEqD K x y H Q := by
  refine ⟨_, _, hx, hy, (nice_listD h1).shaped (by omega), (nice_listD h2).shaped (by omega), ?_⟩
  rw [eqv_lists]
  exact q
theorem rd_notInSet {K : PySem.W.Frag} {H : Hp} {Q : VK} {x : V} {l : Addr} {ps : List Nat} {ts : List SRow} (hx : Dp K H x (setD ps)) (hl : SetsAt H l ts) (h1 : ∀ p ∈ ps, p < 1000000) (h2 : ∀ t ∈ ts, t.2.length ≤ 1000 ∧ ∀ p ∈ t.2, p < 1000000) (q : Q (.bl (!decide (ps ∈ ts.map Prod.snd))) H) : rNotInD K x (.ref l) H Q := by
  obtain ⟨k, hk, n⟩ := nice_sets (N := 1000) (M := 1001 * (ts.map Prod.snd).length) (pss := ts.map Prod.snd) (fun ps hps => by
    obtain ⟨t, ht, rfl⟩ := List.mem_map.mp hps
    exact h2 t ht) (Nat.le_refl _)
  refine ⟨_, _, hx, dp_sets hl, (nice_set h1).shaped (by omega), n.shaped (by omega), ?_⟩
  rw [any_eqv]
  exact q
/-- a flat thing among numbers -/
theorem inV_nat (y : Nat) (ps : List Nat) : inV (.int (y : Int)) ((nz ps).map V.int) = decide (y ∈ ps) := by
  unfold inV
  induction ps with
  | nil => simp [nz]
  | cons p r ih =>
    show ((V.int (p : Int) :: (nz r).map V.int).any fun z => eqV z (.int (y : Int))) = _
    rw [List.any_cons, ih]
    have e : eqV (V.int (p : Int)) (.int (y : Int)) = decide (p = y) := by
      simp only [eqV]
      by_cases h : p = y
      · subst h
        simp
      · have h2 : ¬ ((p : Int) = (y : Int)) := fun e => h (by omega)
        simp [h, h2]
    rw [e]
    by_cases h : p = y
    · subst h
      simp
    · have h2 : ¬ y = p := fun e => h e.symm
      simp [h, h2]
theorem flat_nats (ps : List Nat) : ((nz ps).map V.int).all flatV = true := by
  rw [List.all_eq_true]
  intro x hx
  obtain ⟨z, _, rfl⟩ := List.mem_map.mp hx
  rfl
theorem rd_notInNat {K : PySem.W.Frag} {H : Hp} {Q : VK} {y : Nat} {l : Addr} {ps : List Nat} (h : SqL K H l ((nz ps).map V.int)) (q : Q (.bl (!decide (y ∈ ps))) H) : rIn K true (.int (y : Int)) (.ref l) H Q := by
  refine ⟨l, _, rfl, .inl h, rfl, flat_nats ps, ?_⟩
  rw [if_pos rfl, inV_nat]
  exact q
theorem nz_app (a b : List Nat) : nz (a ++ b) = nz a ++ nz b := List.map_append
theorem nz_len (a : List Nat) : ((nz a).map V.int).length = a.length := by rw [List.length_map]; exact List.length_map ..
end My
namespace My
open PySem L2
theorem _root_.L2.Room.units65 {k : Nat} {A : Around} (r : Room k A) : A.units + 65 < cLine := by have := r.un; omega
end My
namespace My
open PySem PySem.Spec PyProof.Rows L2
theorem rd_sortedS {K : PySem.W.Frag} {H : Hp} {Q : VK} {l : Addr} {ts : List SRow} (h : SetsAt H l ts) (hp : (ts.map Prod.snd).Pairwise fun a b => ∃ x y, a.head? = some x ∧ b.head? = some y ∧ x < y) (hne : ∀ t ∈ ts, t.2 ≠ []) (k : ∀ p, H p = none → Q (.ref p) (upd H p (.lst (ts.map sv)))) : rSortedT K [.ref l] H Q := by
  have e : (ts.map fun t : SRow => (t.1, nz t.2)).map tv = ts.map sv := by rw [List.map_map]; rfl
  refine rd_sortedT (es := ts.map fun t : SRow => (t.1, nz t.2)) (by rw [e]; exact SqL.of h.1) (fun x hx => ?_) ?_ (by rw [e]; exact k)
  · obtain ⟨t, ht, rfl⟩ := List.mem_map.mp hx
    refine ⟨SqT.of (h.2 t ht), fun z => hne t ht ?_⟩
    cases q : t.2 with
    | nil => rfl
    | cons a r =>
      dsimp only at z
      rw [q] at z
      cases z
  · rw [List.pairwise_map] at hp ⊢
    refine hp.imp ?_
    rintro a b ⟨x, y, hx, hy, l⟩
    refine ⟨(x : Int), (y : Int), ?_, ?_, by omega⟩
    · show (nz a.2).head? = _
      unfold nz
      rw [List.head?_map, hx]
      rfl
    · show (nz b.2).head? = _
      unfold nz
      rw [List.head?_map, hy]
      rfl
end My
namespace My
open PySem PySem.Spec PyProof.Rows L2
def relab (sc scope : Scope) : Scope := { scope with names := scope.names.map fun (n, k) => if (k == NameKind.free && sc.kind == .function && sc.names.lookup n == some .cell) then (n, NameKind.cell) else (n, k) }
/-- a comprehension within a comprehension's block -/
theorem blk_in {X : Cx} {N : List Str} {sc osc scope : Scope} {own : List (Str × Nat)} {s : Shared} {H : Hp} {C : Addr} {cl : List (Str × Addr)} {fp : List Addr} (hs : X.env.scope = sc) (h : blkC N (relab sc osc) scope own = true) :
    BlkOk N (X.blk s H osc (compEnvC osc cl C X.env) fp).env.scope scope own := by
  subst hs
  exact blkOk_by h
end My
namespace My
open PySem PySem.Spec PyProof.Rows L2
local macro_rules | `(tactic| walk_at "rd") => `(tactic| with_reducible (first
  | refine My.rd_seq ?_ | refine My.rd_var rfl ?_ | refine My.rd_op ?_ | refine My.rd_c ?_ | refine My.rd_asg ?_ | refine My.rd_name ?_ | refine My.rd_I0 ?_ | refine My.rd_test ?_ | refine My.rd_kB ?_
  | refine My.rd_ret ?_ | refine My.rd_cons ?_ | refine My.rd_nil ?_ | refine My.rd_call ?_ | refine My.rd_callS ?_ | refine My.rd_make ?_ | refine My.rd_CB ?_ | refine My.rd_par ?_ | refine My.rd_lst ?_ | refine My.rd_tup ?_ | refine My.rd_un ?_ | refine My.rd_U ?_
  | refine My.rd_eqI ?_ | refine My.rd_neI ?_ | refine My.rd_and ?_ | refine My.rd_or ?_ | refine My.rd_not ?_ | refine My.rd_B ?_ | refine My.rd_andV ?_ | refine My.rd_orV ?_ | refine My.rd_notV ?_ | refine My.rd_if ?_ | refine My.rd_drop ?_ | refine My.rd_next ?_ | refine My.rd_retN ?_ | refine My.rd_sub ?_ | refine My.rd_int ?_ | refine My.rd_intB ?_ | refine My.rd_abs ?_ | refine My.rd_fld ?_ | refine My.rd_sfld ?_ | refine My.rd_gcd ?_ | refine My.rd_gcons ?_ | refine My.rd_gnil ?_ | refine My.rd_sl ?_ | refine My.rd_noPart ?_ | refine My.rd_part ?_ | refine My.rd_kPart ?_ | refine My.rd_for ?_ | refine My.rd_lc ?_ | refine My.rd_rev ?_ | refine My.rd_forR ?_ | refine My.rd_forR2 ?_ | refine My.rd_forZ ?_ | refine My.rd_meth ?_ | refine My.rd_chain ?_ | refine My.rd_kChain ?_ | refine My.rd_lcR1 ?_ | refine My.rd_lcR2 ?_))
local macro_rules | `(tactic| walk_at "sd") => `(tactic| (first | decide | omega | assumption))
local macro_rules | `(tactic| walk_at "rt") => `(tactic| (first
  | walk_at "rd"
  | ((with_reducible refine My.rd_modP ?hc ?_); (case hc => walk_at "sd"))
  | ((with_reducible refine My.rd_divP ?hc ?hd ?_); (case hc => walk_at "sd"); (case hd => first | exact My.div_s (by omega) (by omega)))
  | ((with_reducible refine' My.rd_powC ?h0 ?h1 ?h2 ?e ?_); (case e => (simp only [Int.reduceToNat, Int.reducePow]; try rfl)); (case h0 => walk_at "sd"); (case h1 => walk_at "sd"); (case h2 => walk_at "sd"))
  | ((with_reducible refine My.rd_pow ?h0 ?h1 ?h2 ?_); (case h0 => walk_at "sd"); (case h1 => walk_at "sd"); (case h2 => walk_at "sd"))
  | ((with_reducible refine My.rd_mul ?hc ?_); (case hc => first | exact My.mul_r (by omega) (by omega) | exact My.mul_l (by omega) (by omega)))
  | ((with_reducible refine' My.rd_ixL ?hl ?ha ?_); (case hl => assumption); (case ha => rfl))
  | ((with_reducible refine' My.rd_ixT ?hl ?ha ?_); (case hl => assumption); (case ha => rfl))
  | ((with_reducible refine' My.rd_app ?e ?hl ?_); (case e => rfl); (case hl => assumption))
  | ((with_reducible refine' My.rd_glst ?hl ?hn ?_); (case hl => assumption); (case hn => rfl))
  | ((with_reducible refine' My.rd_len ?hl ?_); (case hl => assumption))
  | ((with_reducible refine' My.rd_lenT ?hl ?_); (case hl => assumption))
  | ((with_reducible refine' My.rd_gtup ?hl ?hn ?_); (case hl => assumption); (case hn => rfl))))
local macro_rules | `(tactic| walk_at "rs") => `(tactic| (first | walk_at "rt" | (with_reducible refine My.rd_ifS ?_)))

def top (i : Nat) : Stmt := PySem.Challenge.pw_elderdraw_k10_closed_sets.main.body.getD i (.Pass ⟨0, 0, 0, 0⟩)
abbrev s__wall : Stmt := top 0
abbrev s_NoWalk___init__ : Stmt := inClass (top 3) 0
abbrev s_is_whole : Stmt := top 5
abbrev s_is_whole_within : Stmt := top 6
abbrev s_Walk___init__ : Stmt := inClass (top 10) 0
abbrev s_Walk_share : Stmt := inClass (top 10) 1
abbrev s_Walk___len__ : Stmt := inClass (top 10) 2
abbrev s__are_rows : Stmt := top 11
abbrev s__is_row : Stmt := top 12
abbrev s__reached : Stmt := top 13
abbrev s_closed_sets : Stmt := top 14
abbrev s__law_well : Stmt := top 16
abbrev s__law_draw : Stmt := top 17
abbrev s__law_one : Stmt := top 18
abbrev s__law_row : Stmt := top 19
abbrev s__law_walk : Stmt := top 20
abbrev s__law_reached : Stmt := top 21
abbrev s__law_sets : Stmt := top 22
abbrev s_law : Stmt := top 23
structure Tx (K : PySem.W.Frag) (mg : Str → Option Value) : Prop where
  n_int : mg "int" = none
  n_len : mg "len" = none
  n_abs : mg "abs" = none
  n_repr : mg "repr" = none
  n_isinstance : mg "isinstance" = none
  n_bool : mg "bool" = none
  n_str : mg "str" = none
  n_list : mg "list" = none
  n_tuple : mg "tuple" = none
  n_range : mg "range" = none
  n_zip : mg "zip" = none
  n_enumerate : mg "enumerate" = none
  n_sum : mg "sum" = none
  n_any : mg "any" = none
  n_all : mg "all" = none
  n_min : mg "min" = none
  n_max : mg "max" = none
  n_sorted : mg "sorted" = none
/-- a well at p, from which at most N draws were made -/
def WellAt (H : Hp) (p : Addr) (N : Nat) : Prop := ∃ a b c : Int, H p = some (.lst [.int a, .int b, .int c]) ∧ 0 ≤ b ∧ b < 2147483647 ∧ 0 ≤ c ∧ c ≤ (N : Int)
/-- all but p as it was -/
def But (p : Addr) (H H' : Hp) : Prop := ∀ b o, b ≠ p → H b = some o → H' b = some o
theorem But.refl {p : Addr} {H : Hp} : But p H H := fun _ _ _ h => h
theorem But.trans {p : Addr} {H H1 H2 : Hp} (a : But p H H1) (b : But p H1 H2) : But p H H2 := fun c o n h => b c o n (a c o n h)
theorem But.upd {p : Addr} {H : Hp} {o : HO} : But p H (upd H p o) := fun b u n h => by rw [upd_ne n]; exact h
theorem Same.new {H : Hp} {p : Addr} {o : HO} (h : H p = none) : Same H (upd H p o) := fun b u e => by rw [upd_ne (ne_of_none e h)]; exact e
theorem WellAt.same {H H' : Hp} {p : Addr} {N : Nat} (w : WellAt H p N) (e : Same H H') : WellAt H' p N := by
  obtain ⟨a, b, c, h, r⟩ := w
  exact ⟨a, b, c, e _ _ h, r⟩
section
variable {P : Program} {w : World} {K : PySem.W.Frag} {mg : Str → Option Value} {base : Heap}
def spWell : Sp := fun vs H Q _ => ∃ c : Int, vs = [.int c] ∧ ∀ p H', H p = none → Same H H' → WellAt H' p 0 → Q (.ref p) H'
abbrev N__law_well : List Str := ["_law_cell"]
theorem sc__law_well : FnScope ["_law_cell"] ["_law_cell"] (defScope s__law_well) := ⟨rfl, rfl, rfl, by decide +kernel, rfl, by decide +kernel, by decide +kernel⟩
theorem ok_well {f : Addr} {fd : FuncData} (F : Fun K "_law_well" "_law_well" s__law_well f fd) (T : Tx K mg) : FnOk P w K mg base CX0 1 f fd ["_law_cell"] spWell := by
  refine F.ok sc__law_well (fun vs H Q E h => ?_) (fun cdv A outer s H vs Q E hr h => ?_)
  · obtain ⟨c, rfl, _⟩ := h
    rfl
  · obtain ⟨c, rfl, k⟩ := h
    refine ⟨_, (pss_one (ps_ret (pe_lst (pa_cons (pe_op op_mulA (pv 0) (pe_callTy cr_int (by rfl) T.n_int (by decide +kernel) (pa_cons (pe_cmpR op_ge (pv 0) (pe_op op_powA pe_int pe_int) (nomark _)) pa_nil))) (pa_cons (pe_op op_modA (pv 0) pe_int) (pa_cons pe_int pa_nil)))))), ?_⟩
    repeat walk_at "rs"
    refine rd_kLst rfl fun p hp => ?_
    exact k p _ hp (Same.new hp) ⟨_, _, _, upd_same, by omega, by omega, by omega, by omega⟩
abbrev primes : List V := [V.int 2147483647, V.int 2147483629, V.int 2147483587, V.int 2147483579, V.int 2147483563, V.int 2147483549, V.int 2147483543]
theorem prime_at {i : Int} (h : 0 ≤ i) (h' : i < 7) : ∃ q : Int, atI primes i = some (.int q) ∧ 0 < q ∧ q ≤ 2147483647 := by
  have e : i = 0 ∨ i = 1 ∨ i = 2 ∨ i = 3 ∨ i = 4 ∨ i = 5 ∨ i = 6 := by omega
  rcases e with rfl | rfl | rfl | rfl | rfl | rfl | rfl <;> exact ⟨_, rfl, by decide, by decide⟩
def spDraw : Sp := fun vs H Q _ => ∃ (p : Addr) (m : Int) (N : Nat), vs = [.ref p, .int m] ∧ WellAt H p N ∧ N < 1000000000 ∧ 0 < m ∧ m ≤ 10 ^ 28 ∧
  ∀ r H', 0 ≤ r → r < m → But p H H' → WellAt H' p (N + 1) → Q (.int r) H'
abbrev N__law_draw : List Str := ["_law_well_here", "_law_many", "_law_digit", "_law_prime", "_law_number"]
theorem sc__law_draw : FnScope ["_law_well_here", "_law_many", "_law_digit", "_law_prime", "_law_number"] ["_law_well_here", "_law_many"] (defScope s__law_draw) := ⟨rfl, rfl, rfl, by decide +kernel, rfl, by decide +kernel, by decide +kernel⟩
theorem ok_draw {f : Addr} {fd : FuncData} (F : Fun K "_law_draw" "_law_draw" s__law_draw f fd) (T : Tx K mg) : FnOk P w K mg base CX0 1 f fd ["_law_well_here", "_law_many"] spDraw := by
  refine F.ok sc__law_draw (fun vs H Q E h => ?_) (fun cdv A outer s H vs Q E hr h => ?_)
  · obtain ⟨p, m, N, rfl, _⟩ := h
    rfl
  · obtain ⟨p, m, N, rfl, ⟨a, b, c, hw, hb0, hb1, hc0, hc1⟩, hN, hm0, hm1, k⟩ := h
    have hm9 : CDivA a m := div_b (b := 100) (by omega) (by omega) (by decide) (by decide)
    refine ⟨_, (pss_cons (ps_if (pt_cmpR op_gt (pe_ix ix_list (pv 0) pe_int (fun _ _ => rfl)) pe_int (nomark _)) (pss_cons (ps_set (i := 2) sc__law_draw.nd rfl (Or.inl rfl) (pe_op op_modA (pe_ix ix_list (pv 0) pe_int (fun _ _ => rfl)) (pv 1)))
 (pss_cons (ps_asg (pe_op op_fdivA (pe_ix ix_list (pv 0) pe_int (fun _ _ => rfl)) (pv 1)) (pg_sub (pv 0) pe_int set_list))
 (pss_one (ps_ret (pv 2))))) pss_nil)
 (pss_cons (ps_asg (pe_op op_add (pe_ix ix_list (pv 0) pe_int (fun _ _ => rfl)) pe_int) (pg_sub (pv 0) pe_int set_list))
 (pss_cons (ps_set (i := 3) sc__law_draw.nd rfl (Or.inl rfl) (pe_ix ix_list (pe_lst (pa_cons pe_int (pa_cons pe_int (pa_cons pe_int (pa_cons pe_int (pa_cons pe_int (pa_cons pe_int (pa_cons pe_int pa_nil)))))))) (pe_op op_modA (pe_ix ix_list (pv 0) pe_int (fun _ _ => rfl)) pe_int) (fun _ _ => rfl)))
 (pss_cons (ps_set (i := 4) sc__law_draw.nd rfl (Or.inl rfl) (pe_op op_modA (pe_op op_powA (pe_op op_add (pe_op op_add (pe_ix ix_list (pv 0) pe_int (fun _ _ => rfl)) (pe_op op_mulA pe_int (pe_ix ix_list (pv 0) pe_int (fun _ _ => rfl)))) pe_int) pe_int) (pv 3)))
 (pss_cons (ps_set (i := 4) sc__law_draw.nd rfl (Or.inl rfl) (pe_op op_modA (pe_op op_mulA (pe_op op_add (pv 4) (pe_ix ix_list (pv 0) pe_int (fun _ _ => rfl))) (pe_op op_add (pe_op op_fdivA (pv 4) pe_int) pe_int)) (pv 3)))
 (pss_one (ps_ret (pe_op op_modA (pe_op op_fdivA (pv 4) pe_int) (pv 1))))))))), ?_⟩
    have hq : SqL K H p [.int a, .int b, .int c] := SqL.of hw
    repeat walk_at "rs"
    refine ite_d (fun ha => ?_) (fun ha => ?_)
    · repeat walk_at "rs"
      refine rd_divP hm0 hm9 ?_
      repeat walk_at "rs"
      refine rd_setL hw (j := 0) rfl ?_
      repeat walk_at "rs"
      exact k _ _ (Int.emod_nonneg _ (by omega)) (Int.emod_lt_of_pos _ hm0) But.upd ⟨_, _, _, upd_same, hb0, hb1, hc0, by omega⟩
    · repeat walk_at "rs"
      refine rd_setL hw (j := 2) rfl ?_
      have hq : SqL K (upd H p (.lst [.int a, .int b, .int (c + 1)])) p [.int a, .int b, .int (c + 1)] := SqL.of upd_same
      repeat walk_at "rs"
      refine rd_kLst rfl fun l hl => ?_
      have npl : p ≠ l := ne_of_none upd_same hl
      have hq : SqL K (upd (upd H p (.lst [.int a, .int b, .int (c + 1)])) l (.lst primes)) p [.int a, .int b, .int (c + 1)] := SqL.of (by rw [upd_ne npl]; exact upd_same)
      repeat walk_at "rs"
      obtain ⟨q, eq, q0, q1⟩ := prime_at (i := (c + 1) % 7) (by omega) (by omega)
      refine rd_ixL (SqL.of upd_same) eq ?_
      repeat walk_at "rs"
      have x0 := Int.emod_nonneg ((b + 7919 * (c + 1) + 1) ^ 5) (show q ≠ 0 by omega)
      have x1 := Int.emod_lt_of_pos ((b + 7919 * (c + 1) + 1) ^ 5) q0
      generalize (b + 7919 * (c + 1) + 1) ^ 5 % q = z at x0 x1
      refine rd_mul ?_ ?_
      · exact mul_r (by omega) (by omega)
      repeat walk_at "rs"
      have y0 := Int.emod_nonneg ((z + (c + 1)) * (z / 1009 + 69621)) (show q ≠ 0 by omega)
      exact k _ _ (Int.emod_nonneg _ (by omega)) (Int.emod_lt_of_pos _ hm0) (fun b o n h => by rw [upd_ne (ne_of_none (show upd H p _ b = some o by rw [upd_ne n]; exact h) hl), upd_ne n]; exact h)
        ⟨a, b, c + 1, by rw [upd_ne npl]; exact upd_same, hb0, hb1, by omega, by omega⟩
theorem sbut {p : Addr} {H H' : Hp} (e : Same H H') : But p H H' := fun b o _ h => e b o h
theorem But.seq {p l : Addr} {H H' : Hp} {xs : List V} (e : But p H H') (n : l ≠ p) (h : SqL K H l xs) : SqL K H' l xs := by
  rcases h with (h | ⟨o, h⟩) | h
  · exact .inl (.inl (e _ _ n h))
  · exact .inl (.inr ⟨o, e _ _ n h⟩)
  · exact .inr h
theorem WellAt.ne_new {H : Hp} {p l : Addr} {N : Nat} (w : WellAt H p N) (h : H l = none) : l ≠ p := by
  obtain ⟨a, b, c, e, _⟩ := w
  exact (ne_of_none e h).symm
theorem at_int {xs : List V} {r : Int} (h0 : 0 ≤ r) (h1 : r < (xs.length : Int)) : ∃ v, atI xs r = some v ∧ v ∈ xs := by
  obtain ⟨n, rfl⟩ : ∃ n : Nat, r = (n : Int) := ⟨r.toNat, by omega⟩
  have h : n < xs.length := by omega
  exact ⟨xs[n], atI_nat (List.getElem?_eq_getElem h), List.getElem_mem h⟩
def spOne (K : PySem.W.Frag) : Sp := fun vs H Q _ => ∃ (p l : Addr) (xs : List V) (N : Nat), vs = [.ref p, .ref l] ∧ WellAt H p N ∧ N < 1000000000 ∧ SqL K H l xs ∧ l ≠ p ∧ 0 < xs.length ∧ xs.length ≤ 100000 ∧
  ∀ v H', v ∈ xs → But p H H' → WellAt H' p (N + 1) → Q v H'
abbrev N__law_one : List Str := ["_law_well_here", "_law_some"]
theorem sc__law_one : FnScope ["_law_well_here", "_law_some"] ["_law_well_here", "_law_some"] (defScope s__law_one) := ⟨rfl, rfl, rfl, by decide +kernel, rfl, by decide +kernel, by decide +kernel⟩
theorem ok_one {f : Addr} {fd : FuncData} (F : Fun K "_law_one" "_law_one" s__law_one f fd) (T : Tx K mg) (d__law_draw : Df P w K mg base CX0 1 "_law_draw" ["_law_well_here", "_law_many"] spDraw) : FnOk P w K mg base CX0 2 f fd ["_law_well_here", "_law_some"] (spOne K) := by
  refine F.ok sc__law_one (fun vs H Q E h => ?_) (fun cdv A outer s H vs Q E hr h => ?_)
  · obtain ⟨p, l, xs, N, rfl, _⟩ := h
    rfl
  · obtain ⟨p, l, xs, N, rfl, hw, hN, hl, hne, h0, h1, k⟩ := h
    refine ⟨_, (pss_one (ps_ret (pe_ix ix_list (pv 1) (pe_df d__law_draw (hr.mono (by decide)) pass0 (pa_cons (pv 0) (pa_cons (pe_callB cr_len (by rfl) T.n_len PySem.boot_len (pa_cons (pv 1) pa_nil)) pa_nil))) (fun _ _ => rfl)))), ?_⟩
    repeat walk_at "rs"
    refine ⟨p, _, N, rfl, hw, hN, by omega, by omega, fun r H' r0 r1 e w' => ?_⟩
    obtain ⟨v, hv, hm⟩ := at_int r0 r1
    exact rd_ixL (e.seq hne hl) hv (k v H' hm e w')
/-- any thing: whether it is an int and no bool -/
def spWhole (K : PySem.W.Frag) : Sp := fun vs H Q _ => ∃ (v : V) (t : Value) (b1 b2 : Bool), vs = [v] ∧ TyX K H v t ∧ PySem.W.kitOne K t (.type "int") = some b1 ∧ PySem.W.kitOne K t (.type "bool") = some b2 ∧ Q (.bl (b1 && !b2)) H
abbrev N_is_whole : List Str := ["thing"]
theorem sc_is_whole : FnScope ["thing"] ["thing"] (defScope s_is_whole) := ⟨rfl, rfl, rfl, by decide +kernel, rfl, by decide +kernel, by decide +kernel⟩
theorem ok_whole {f : Addr} {fd : FuncData} (F : Fun K "is_whole" "is_whole" s_is_whole f fd) (T : Tx K mg) : FnOk P w K mg base CX0 1 f fd ["thing"] (spWhole K) := by
  refine F.ok sc_is_whole (fun vs H Q E h => ?_) (fun cdv A outer s H vs Q E hr h => ?_)
  · obtain ⟨v, t, b1, b2, rfl, _⟩ := h
    rfl
  · obtain ⟨v, t, b1, b2, rfl, ty, e1, e2, k⟩ := h
    refine ⟨_, (pss_one (ps_ret (pe_and (pe_callB call_isi (by rfl) T.n_isinstance (by decide +kernel) (pa_cons (pv 0) (pa_cons (pe_bltn (v := .ty "int") (by rfl) T.n_int (by decide +kernel) rfl) pa_nil))) (pe_one (pe_not (pe_callB call_isi (by rfl) T.n_isinstance (by decide +kernel) (pa_cons (pv 0) (pa_cons (pe_bltn (v := .ty "bool") (by rfl) T.n_bool (by decide +kernel) rfl) pa_nil)))))))), ?_⟩
    repeat walk_at "rs"
    refine rd_isi (ClsV.ty _) ty e1 ?_
    repeat walk_at "rs"
    cases b1 with
    | false => exact iteF k
    | true =>
      refine iteT ?_
      repeat walk_at "rs"
      refine rd_isi (ClsV.ty _) ty e2 ?_
      repeat walk_at "rs"
      exact k
theorem whole_int {H : Hp} {Q : VK} {E : XK} {n : Int} (k : Q (.bl true) H) : spWhole K [.int n] H Q E := ⟨_, _, true, false, rfl, .base (.int n), kit_ty (by decide +kernel), kit_ty (by decide +kernel), k⟩
theorem But.fresh {p T : Addr} {H H' : Hp} {N : Nat} (e : But p H H') (w : WellAt H' p N) (h : H' T = none) : H T = none := by
  cases q : H T with
  | none => rfl
  | some o =>
    rcases Classical.em (T = p) with rfl | n
    · obtain ⟨_, _, _, e, _⟩ := w
      rw [e] at h
      cases h
    · rw [e T o n q] at h
      cases h
/-- the law's list of cells is one of ints -/
theorem cells_int {ns : List Int} {lo hi : Option Int} {x : V} {i : Nat} {m1 m2 : Int} (h : (cutV (ns.map V.int) lo hi ++ [V.int m1, V.int m2])[i]? = some x) : ∃ z, x = V.int z := by
  have m := List.mem_of_getElem? h
  rcases List.mem_append.mp m with m | m
  · have m' := List.mem_of_mem_drop (List.mem_of_mem_take m)
    obtain ⟨z, _, rfl⟩ := List.mem_map.mp m'
    exact ⟨z, rfl⟩
  · simp only [List.mem_cons, List.not_mem_nil, or_false] at m
    rcases m with rfl | rfl <;> exact ⟨_, rfl⟩
def spLaw (K : PySem.W.Frag) : Sp := fun vs H Q _ => ∃ (a : Addr) (ns : List Int), vs = [.ref a] ∧ SqL K H a (ns.map V.int) ∧ ns.length ≤ 63 ∧ ∀ H', Q (.bl true) H'
theorem WellAt.ne_at {H : Hp} {p l : Addr} {N : Nat} {xs : List V} (w : WellAt H p N) (h : H l = some (.lst xs)) (n : xs.length ≠ 3) : l ≠ p := by
  obtain ⟨a, b, c, e, _⟩ := w
  refine ne_of h e fun y => ?_
  injection y with y
  rw [y] at n
  exact n rfl
theorem WellAt.off {H : Hp} {p S : Addr} {N : Nat} {o : HO} (w : WellAt H p N) (n : S ≠ p) : WellAt (upd H S o) p N := by
  obtain ⟨a, b, c, e, r⟩ := w
  exact ⟨a, b, c, by rw [upd_ne n.symm]; exact e, r⟩
local macro_rules | `(tactic| walk_at "rg") => `(tactic| (first
  | walk_at "rt"
  | ((with_reducible refine' My.rd_top ?ht ?hs ?_); (case ht => assumption); (case hs => assumption))
  | ((with_reducible refine' My.rd_bot ?ht ?hs ?_); (case ht => assumption); (case hs => assumption))
  | ((with_reducible refine My.rd_mul ?hc ?_); (case hc => first | assumption | exact My.mul_b (by assumption) (by assumption) (by decide)))))
local macro_rules | `(tactic| walk_at "rf") => `(tactic| (first | walk_at "rg" | (with_reducible refine My.rd_ifS ?_)))

abbrev WRow := Addr × List Int
def wv (e : WRow) : V := .ref e.1
/-- at l stands a list of lists of numbers -/
def RowsI (H : Hp) (l : Addr) (es : List WRow) : Prop := H l = some (.lst (es.map wv)) ∧ ∀ e ∈ es, H e.1 = some (.lst (e.2.map V.int))
def RowOk (n : Nat) (w : Int) (ns : List Int) : Prop := ns.length = n ∧ ns.sum = w ∧ ∀ x ∈ ns, 0 ≤ x
def RowsOkW (w : Int) (es : List WRow) : Prop := 1 ≤ es.length ∧ es.length ≤ 32 ∧ ∀ e ∈ es, RowOk es.length w e.2
theorem RowsI.same {H H' : Hp} {l : Addr} {es : List WRow} (h : RowsI H l es) (e : Same H H') : RowsI H' l es := ⟨e _ _ h.1, fun x hx => e _ _ (h.2 x hx)⟩
theorem wrow_at {es : List WRow} {i : Nat} {x : V} (h : (es.map wv)[i]? = some x) : ∃ r, es[i]? = some r ∧ x = .ref r.1 := by
  rw [List.getElem?_map] at h
  cases q : es[i]? with
  | none =>
    rw [q] at h
    cases h
  | some r =>
    rw [q] at h
    exact ⟨r, rfl, (Option.some.inj h).symm⟩
/-- [list(row) for row in rows] -/
theorem rd_kLcCopy {vs : List Nat} {i : Nat} {σ : L2.St} {H : Hp} {l : Addr} {es : List WRow} {Q : VK} (hR : RowsI H l es) (hz : es.length ≤ 100000)
    (hw : ∀ x : V, wipe ((wipe σ vs).set i (some x)) vs = wipe σ vs) (hi : ∀ x : V, ((wipe σ vs).set i (some x))[i]? = some (some x))
    (k : ∀ D es' H', H D = none → Same H H' → RowsI H' D es' → es'.map Prod.snd = es.map Prod.snd → (∀ e ∈ es', H e.1 = none ∧ e.1 ≠ D) → Q (.ref D) H') :
    kLc K (gName i) (tCB (rListOf K) (tCons (tVar i) tNil)) vs σ Q (.ref l) H := by
  refine rd_kLc (fun n acc D H' => Same H H' ∧ ∃ es' : List WRow, acc = es'.map wv ∧ (∀ e ∈ es', H' e.1 = some (.lst (e.2.map V.int)) ∧ H e.1 = none ∧ e.1 ≠ D) ∧ es'.map Prod.snd = (es.take n).map Prod.snd) (SqL.of hR.1) (fun D hD => ⟨Same.new hD, [], rfl, (fun e he => nomatch he), rfl⟩) (fun n acc D H' ⟨e, _⟩ => SqL.of (e _ _ hR.1)) ?_ (g_mono _ _) ?_
  · rintro n x acc D H' hD hn hx hacc hlen ⟨e, es', rfl, hE, hS⟩
    obtain ⟨r, hr, rfl⟩ := wrow_at hx
    have hm := List.mem_of_getElem? hr
    refine ⟨hw _, ?_⟩
    refine rd_CB (rd_cons (rd_var (hi _) (rd_nil ?_)))
    refine rd_listOf (SqL.of (e _ _ (hR.2 _ hm))) fun p hp => ?_
    have s1 := Same.new (o := .lst (r.2.map V.int)) hp
    have npD : p ≠ D := fun z => by
      rw [z, hacc] at hp
      cases hp
    have hpH : H p = none := e.free hp
    refine rd_lcEnd (s1 _ _ hacc) hlen (by rw [List.length_map] at hn; omega) ⟨fun b o q => ?_, es' ++ [(p, r.2)], by rw [List.map_append]; rfl, ?_, ?_⟩
    · rw [upd_ne (ne_of_none q hD)]
      exact s1 _ _ (e _ _ q)
    · intro y hy
      rcases List.mem_append.mp hy with hy | hy
      · obtain ⟨a, b, c⟩ := hE y hy
        exact ⟨by rw [upd_ne c]; exact s1 _ _ a, b, c⟩
      · have q := List.mem_singleton.mp hy
        subst q
        exact ⟨by rw [upd_ne npD]; exact upd_same, hpH, npD⟩
    · rw [List.map_append, hS, List.take_add_one, hr, Option.toList_some, List.map_append]
      rfl
  · rintro acc D H' hD hlen hacc ⟨e, es', rfl, hE, hS⟩
    rw [List.length_map, List.take_length] at hS
    exact k D es' H' hD e ⟨hacc, fun x hx => (hE x hx).1⟩ hS fun x hx => ⟨(hE x hx).2.1, (hE x hx).2.2⟩
/-- what the top has written of Walk -/
structure TW (K : PySem.W.Frag) (mg : Str → Option Value) (C_Share C_NoShare C_Walk : Addr) (t1 t2 : Tok) : Prop extends Tx K mg where
  cl_Walk : Cls K C_Walk
  nWhole : NoAttr K C_Walk "whole"
  nRows : NoAttr K C_Walk "rows"
  g_Walk : mg "Walk" = some (.ref C_Walk)
  v__MOST_PLACES : mg "_MOST_PLACES" = some (.int 32 t1)
  v__MOST_WHOLE : mg "_MOST_WHOLE" = some (.int 1000000 t2)
def wF (w : Int) (r : Addr) : List (Str × V) := putF "rows" (.ref r) (putF "whole" (.int w) [])
theorem wF_whole (w : Int) (r : Addr) : (wF w r).lookup ("whole" : Str) = some (.int w) := by
  unfold wF
  rw [lookup_putF, if_neg (by decide +kernel), lookup_putF, if_pos rfl]
theorem wF_rows (w : Int) (r : Addr) : (wF w r).lookup ("rows" : Str) = some (.ref r) := by
  unfold wF
  rw [lookup_putF, if_pos rfl]
theorem wF_none (w : Int) (r : Addr) {m : Str} (h1 : ("rows" : Str) ≠ m) (h2 : ("whole" : Str) ≠ m) : (wF w r).lookup m = none := by
  unfold wF
  rw [lookup_putF, if_neg (fun z => h1 z.symm), lookup_putF, if_neg (fun z => h2 z.symm)]
  rfl
/-- at a stands a walk: the whole w, its own rows at r -/
def WalkAt (C : Addr) (H : Hp) (a : Addr) (w : Int) (r : Addr) (es : List WRow) : Prop := (∃ dx, H a = some (.ins C dx (wF w r))) ∧ RowsI H r es
theorem WalkAt.same {C a r : Addr} {H H' : Hp} {w : Int} {es : List WRow} (h : WalkAt C H a w r es) (e : Same H H') : WalkAt C H' a w r es := by
  obtain ⟨⟨dx, z⟩, hr⟩ := h
  exact ⟨⟨dx, e _ _ z⟩, hr.same e⟩
def spWithin : Sp := fun vs H Q _ => ∃ n a b : Int, vs = [.int n, .int a, .int b] ∧ Q (.bl (decide (a ≤ n) && decide (n ≤ b))) H
abbrev N_is_whole_within : List Str := ["thing", "least", "most"]
theorem sc_is_whole_within : FnScope ["thing", "least", "most"] ["thing", "least", "most"] (defScope s_is_whole_within) := ⟨rfl, rfl, rfl, by decide +kernel, rfl, by decide +kernel, by decide +kernel⟩
theorem ok_within {f : Addr} {fd : FuncData} (F : Fun K "is_whole_within" "is_whole_within" s_is_whole_within f fd) (T : Tx K mg) (d_is_whole : Df P w K mg base CX0 1 "is_whole" ["thing"] (spWhole K)) : FnOk P w K mg base CX0 2 f fd ["thing", "least", "most"] spWithin := by
  refine F.ok sc_is_whole_within (fun vs H Q E h => ?_) (fun cdv A outer s H vs Q E hr h => ?_)
  · obtain ⟨n, a, b, rfl, _⟩ := h
    rfl
  · obtain ⟨n, a, b, rfl, k⟩ := h
    refine ⟨_, (pss_one (ps_ret (pe_and (pe_df d_is_whole (hr.mono (by decide)) pass0 (pa_cons (pv 0) pa_nil)) (pe_one (pe_chain op_le op_le (pv 1) (pv 0) (pv 2)))))), ?_⟩
    repeat walk_at "rs"
    refine whole_int ?_
    repeat walk_at "rs"
    refine iteT ?_
    repeat walk_at "rs"
    refine ite_d (fun c => ?_) (fun c => ?_)
    · repeat walk_at "rs"
      rw [decide_eq_true c, Bool.true_and] at k
      exact k
    · rw [decide_eq_false c, Bool.false_and] at k
      exact k
def spIsRow : Sp := fun vs H Q _ => ∃ (l : Addr) (m : Nat) (w : Int) (ns : List Int), vs = [.ref l, .int (m : Int), .int w] ∧ H l = some (.lst (ns.map V.int)) ∧ RowOk m w ns ∧ m ≤ 32 ∧ ∀ H', Same H H' → Q (.bl true) H'
theorem all_true (n : Nat) : (List.replicate n true).all id = true := by
  induction n with
  | zero => rfl
  | succ n ih => rw [List.replicate_succ, List.all_cons, ih]; rfl
theorem rep_snoc (n : Nat) : (List.replicate n true).map V.bl ++ [V.bl true] = (List.replicate (n + 1) true).map V.bl := by
  rw [List.replicate_succ', List.map_append]
  rfl
abbrev N__is_row : List Str := ["thing", "many", "whole", "number"]
theorem sc__is_row : FnScope ["thing", "many", "whole", "number"] ["thing", "many", "whole"] (defScope s__is_row) := ⟨rfl, rfl, rfl, by decide +kernel, rfl, by decide +kernel, by decide +kernel⟩
theorem ok_isrow {f : Addr} {fd : FuncData} (F : Fun K "_is_row" "_is_row" s__is_row f fd) (T : Tx K mg) (d_is_whole : Df P w K mg base CX0 1 "is_whole" ["thing"] (spWhole K)) : FnOk P w K mg base CX0 2 f fd ["thing", "many", "whole"] spIsRow := by
  refine F.ok sc__is_row (fun vs H Q E h => ?_) (fun cdv A outer s H vs Q E hr h => ?_)
  · obtain ⟨l, m, w', ns, rfl, _⟩ := h
    rfl
  · obtain ⟨l, m, w', ns, rfl, hl, ⟨h1, h2, h3⟩, hm, k⟩ := h
    refine ⟨_, (pss_cons (ps_if (PW.pt (pw_or (pt_not (pt_val (pe_callB call_isi (by rfl) T.n_isinstance (by decide +kernel) (pa_cons (pv 0) (pa_cons (pe_bltn (v := .ty "list") (by rfl) T.n_list (by decide +kernel) rfl) pa_nil))))) (pw_or1 (pt_cmpR op_ne (pe_callB cr_len (by rfl) T.n_len PySem.boot_len (pa_cons (pv 0) pa_nil)) (pv 1) (nomark _))))) (pss_one (ps_ret pe_bl)) pss_nil)
 (pss_cons (ps_if (pt_not (pt_val (pe_callB (cr_all rfl) (by rfl) T.n_all (by decide +kernel) (pa_cons (pe_lc (own := [("number", 3)]) (g := gName 3) (tt := tYes) (te := (tAndV (tCall (spWhole K) [] E0 (tCons (tVar 3) tNil)) (tOp (rI0 fun i j => V.bl (decide (j ≤ i))) (tVar 3) (tC (V.int (0)))))) (by rfl) sc__is_row.nd (pi_list (pv 0)) (blkOk_by (own := [("number", 3)]) (N := N__is_row) (sc := defScope s__is_row) (by decide +kernel)) (fun _ _ _ _ _ => (pg_name (i := 3) sc__is_row.nd rfl (Or.inl rfl))) (fun _ _ _ _ _ => pts_nil) (fun _ _ _ _ _ => (pe_and (pe_df d_is_whole (hr.mono (by decide)) pass0 (pa_cons (pv 3) pa_nil)) (pe_one (pe_cmpR op_ge (pv 3) pe_int (nomark _)))))) pa_nil)))) (pss_one (ps_ret pe_bl)) pss_nil)
 (pss_one (ps_ret (pe_cmpR op_eq (pe_callB (cr_sum rfl) (by rfl) T.n_sum (by decide +kernel) (pa_cons (pv 0) pa_nil)) (pv 2) (nomark _)))))), ?_⟩
    repeat walk_at "rs"
    refine rd_isi (b := true) (ClsV.ty _) (.base (.lst hl)) (kit_same (by rfl)) ?_
    repeat walk_at "rs"
    refine iteF ?_
    have sl : SqL K H l (ns.map V.int) := SqL.of hl
    repeat walk_at "rs"
    rw [decide_eq_true (show ((ns.map V.int).length : Int) = (m : Int) by rw [List.length_map, h1])]
    refine iteF ?_
    repeat walk_at "rs"
    refine rd_kLc (fun n acc D H' => Same H H' ∧ acc = (List.replicate n true).map V.bl) sl (fun D hD => ⟨Same.new hD, rfl⟩) (fun n acc D H' ⟨e, _⟩ => SqL.of (e _ _ hl)) ?_ (g_mono _ _) ?_
    · rintro n x acc D H' hD hn hx hacc hlen ⟨e, rfl⟩
      rw [List.getElem?_map] at hx
      obtain ⟨y, hy, rfl⟩ : ∃ y, ns[n]? = some y ∧ V.int y = x := by
        cases q : ns[n]? with
        | none => rw [q] at hx; cases hx
        | some y => rw [q] at hx; exact ⟨y, rfl, Option.some.inj hx⟩
      have y0 := h3 y (List.mem_of_getElem? hy)
      repeat walk_at "rs"
      refine ⟨rfl, ?_⟩
      repeat walk_at "rs"
      refine whole_int ?_
      repeat walk_at "rs"
      refine iteT ?_
      repeat walk_at "rs"
      rw [decide_eq_true y0]
      refine rd_lcEnd hacc hlen (by rw [List.length_map] at hn; omega) ⟨fun b o q => ?_, rep_snoc n⟩
      rw [upd_ne (ne_of_none q hD)]
      exact e _ _ q
    · rintro acc D H' hD hlen hacc ⟨e, rfl⟩
      repeat walk_at "rs"
      refine rd_all (SqL.of hacc) ?_
      rw [all_true]
      repeat walk_at "rs"
      refine iteF ?_
      repeat walk_at "rs"
      refine rd_sum (SqL.of (e _ _ hl)) (by omega) ?_
      repeat walk_at "rs"
      rw [h2, decide_eq_true rfl]
      exact k H' e
def spAreRows : Sp := fun vs H Q _ => ∃ (l : Addr) (w : Int) (es : List WRow), vs = [.ref l, .int w] ∧ RowsI H l es ∧ RowsOkW w es ∧ ∀ H', Same H H' → Q (.bl true) H'
abbrev N__are_rows : List Str := ["thing", "whole", "row"]
theorem sc__are_rows : FnScope ["thing", "whole", "row"] ["thing", "whole"] (defScope s__are_rows) := ⟨rfl, rfl, rfl, by decide +kernel, rfl, by decide +kernel, by decide +kernel⟩
theorem ok_arerows {f C_Share C_NoShare C_Walk : Addr} {t1 t2 : Tok} {fd : FuncData} (F : Fun K "_are_rows" "_are_rows" s__are_rows f fd) (T : TW K mg C_Share C_NoShare C_Walk t1 t2) (d__is_row : Df P w K mg base CX0 2 "_is_row" ["thing", "many", "whole"] spIsRow) : FnOk P w K mg base CX0 3 f fd ["thing", "whole"] spAreRows := by
  refine F.ok sc__are_rows (fun vs H Q E h => ?_) (fun cdv A outer s H vs Q E hr h => ?_)
  · obtain ⟨l, w', es, rfl, _⟩ := h
    rfl
  · obtain ⟨l, w', es, rfl, hR, ⟨h1, h2, h3⟩, k⟩ := h
    refine ⟨_, (pss_cons (ps_if (PW.pt (pw_or (pt_not (pt_val (pe_callB call_isi (by rfl) T.n_isinstance (by decide +kernel) (pa_cons (pv 0) (pa_cons (pe_bltn (v := .ty "list") (by rfl) T.n_list (by decide +kernel) rfl) pa_nil))))) (pw_or1 (pt_not (pt_chain op_le op_le pe_int (pe_callB cr_len (by rfl) T.n_len PySem.boot_len (pa_cons (pv 0) pa_nil)) (pe_glob (v := .int 32) rfl T.v__MOST_PLACES ⟨_, rfl⟩)))))) (pss_one (ps_ret pe_bl)) pss_nil)
 (pss_one (ps_ret (pe_callB (cr_all rfl) (by rfl) T.n_all (by decide +kernel) (pa_cons (pe_lc (own := [("row", 2)]) (g := gName 2) (tt := tYes) (te := (tCall (spIsRow) [] E0 (tCons (tVar 2) (tCons (tCB (rLen K) (tCons (tVar 0) tNil)) (tCons (tVar 1) tNil))))) (by rfl) sc__are_rows.nd (pi_list (pv 0)) (blkOk_by (own := [("row", 2)]) (N := N__are_rows) (sc := defScope s__are_rows) (by decide +kernel)) (fun _ _ _ _ _ => (pg_name (i := 2) sc__are_rows.nd rfl (Or.inl rfl))) (fun _ _ _ _ _ => pts_nil) (fun _ _ _ _ _ => (pe_df d__is_row (hr.mono (by decide)) pass0 (pa_cons (pv 2) (pa_cons (pe_callB cr_len (by rfl) T.n_len PySem.boot_len (pa_cons (pv 0) pa_nil)) (pa_cons (pv 1) pa_nil)))))) pa_nil))))), ?_⟩
    have sl : SqL K H l (es.map wv) := SqL.of hR.1
    repeat walk_at "rs"
    refine rd_isi (b := true) (ClsV.ty _) (.base (.lst hR.1)) (kit_same (by rfl)) ?_
    repeat walk_at "rs"
    refine iteF ?_
    repeat walk_at "rs"
    rw [decide_eq_true (show (1 : Int) ≤ ((es.map wv).length : Int) by rw [List.length_map]; omega)]
    refine iteT ?_
    repeat walk_at "rs"
    rw [decide_eq_true (show ((es.map wv).length : Int) ≤ 32 by rw [List.length_map]; omega)]
    repeat walk_at "rs"
    refine iteF ?_
    repeat walk_at "rs"
    refine rd_kLc (fun n acc D H' => Same H H' ∧ acc = (List.replicate n true).map V.bl) sl (fun D hD => ⟨Same.new hD, rfl⟩) (fun n acc D H' ⟨e, _⟩ => SqL.of (e _ _ hR.1)) ?_ (g_mono _ _) ?_
    · rintro n x acc D H' hD hn hx hacc hlen ⟨e, rfl⟩
      obtain ⟨r, hr', rfl⟩ := wrow_at hx
      have hm := List.mem_of_getElem? hr'
      have sl' : SqL K H' l (es.map wv) := SqL.of (e _ _ hR.1)
      repeat walk_at "rs"
      refine ⟨rfl, ?_⟩
      repeat walk_at "rs"
      refine ⟨r.1, es.length, w', r.2, by rw [List.length_map]; rfl, e _ _ (hR.2 _ hm), h3 r hm, h2, fun H2 e2 => ?_⟩
      refine rd_lcEnd (e2 _ _ hacc) hlen (by rw [List.length_map] at hn; omega) ⟨fun b o q => ?_, rep_snoc n⟩
      rw [upd_ne (ne_of_none q hD)]
      exact e2 _ _ (e _ _ q)
    · rintro acc D H' hD hlen hacc ⟨e, rfl⟩
      repeat walk_at "rs"
      refine rd_all (SqL.of hacc) ?_
      rw [all_true]
      exact k H' e
def spWalkInit (K : PySem.W.Frag) (C : Addr) : Sp := fun vs H Q _ => ∃ (x dx l : Addr) (w : Int) (es : List WRow), vs = [.ref x, .int w, .ref l] ∧ H x = some (.ins C dx []) ∧ 1 ≤ w ∧ w ≤ 1000000 ∧ RowsI H l es ∧ RowsOkW w es ∧
  ∀ r es' H', (∀ b o, b ≠ x → H b = some o → H' b = some o) → H' x = some (.ins C dx (wF w r)) → RowsI H' r es' → es'.map Prod.snd = es.map Prod.snd → H r = none → (∀ e ∈ es', H e.1 = none) → Q .non H'
abbrev N_Walk___init__ : List Str := ["self", "whole", "rows", "row"]
theorem sc_Walk___init__ : FnScope ["self", "whole", "rows", "row"] ["self", "whole", "rows"] (defScope s_Walk___init__) := ⟨rfl, rfl, rfl, by decide +kernel, rfl, by decide +kernel, by decide +kernel⟩
theorem ok_winit {f C_Share C_NoShare C_Walk : Addr} {t1 t2 : Tok} {fd : FuncData} (F : Fun K "__init__" "Walk.__init__" s_Walk___init__ f fd) (T : TW K mg C_Share C_NoShare C_Walk t1 t2) (d_is_whole_within : Df P w K mg base CX0 2 "is_whole_within" ["thing", "least", "most"] spWithin)
    (d__are_rows : Df P w K mg base CX0 3 "_are_rows" ["thing", "whole"] spAreRows) : FnOk P w K mg base CX0 4 f fd ["self", "whole", "rows"] (spWalkInit K C_Walk) := by
  refine F.ok sc_Walk___init__ (fun vs H Q E h => ?_) (fun cdv A outer s H vs Q E hr h => ?_)
  · obtain ⟨x, dx, l, w', es, rfl, _⟩ := h
    rfl
  · obtain ⟨x, dx, l, w', es, rfl, hx, hw1, hw2, hR, hok, k⟩ := h
    refine ⟨_, (pss_cons (ps_if (pt_not (pt_val (pe_df d_is_whole_within (hr.mono (by decide)) pass0 (pa_cons (pv 1) (pa_cons pe_int (pa_cons (pe_glob (v := .int 1000000) rfl T.v__MOST_WHOLE ⟨_, rfl⟩) pa_nil)))))) (pss_one ps_never) pss_nil)
 (pss_cons (ps_if (pt_not (pt_val (pe_df d__are_rows (hr.mono (by decide)) pass0 (pa_cons (pv 2) (pa_cons (pv 1) pa_nil))))) (pss_one ps_never) pss_nil)
 (pss_cons (ps_fld (pv 0) (pv 1) rfl)
 (pss_one (ps_fld (pv 0) (pe_lc (own := [("row", 3)]) (g := gName 3) (tt := tYes) (te := (tCB (rListOf K) (tCons (tVar 3) tNil))) (by rfl) sc_Walk___init__.nd (pi_list (pv 2)) (blkOk_by (own := [("row", 3)]) (N := N_Walk___init__) (sc := defScope s_Walk___init__) (by decide +kernel)) (fun _ _ _ _ _ => (pg_name (i := 3) sc_Walk___init__.nd rfl (Or.inl rfl))) (fun _ _ _ _ _ => pts_nil) (fun _ _ _ _ _ => (pe_callTy cr_listOf (by rfl) T.n_list (by decide +kernel) (pa_cons (pv 3) pa_nil)))) rfl))))), ?_⟩
    repeat walk_at "rs"
    refine ⟨w', 1, 1000000, rfl, ?_⟩
    rw [decide_eq_true hw1, decide_eq_true hw2]
    repeat walk_at "rs"
    refine iteF ?_
    repeat walk_at "rs"
    refine ⟨l, w', es, rfl, hR, hok, fun H1 e1 => ?_⟩
    repeat walk_at "rs"
    refine iteF ?_
    repeat walk_at "rs"
    have hx1 := e1 _ _ hx
    have hR1 := hR.same e1
    refine rd_kSet hx1 T.cl_Walk T.nWhole rfl ?_
    have off : ∀ b o, b ≠ x → H1 b = some o → upd H1 x (.ins C_Walk dx (putF "whole" (.int w') [])) b = some o := fun b o n q => by rw [upd_ne n]; exact q
    have hx2 := upd_same (H := H1) (a := x) (o := .ins C_Walk dx (putF "whole" (.int w') []))
    have hR2 : RowsI (upd H1 x (.ins C_Walk dx (putF "whole" (.int w') []))) l es := ⟨off _ _ (ne_of hR1.1 hx1 (fun y => nomatch y)) hR1.1, fun e he => off _ _ (ne_of (hR1.2 e he) hx1 (fun y => nomatch y)) (hR1.2 e he)⟩
    have back : ∀ b, upd H1 x (.ins C_Walk dx (putF "whole" (.int w') [])) b = none → H b = none := fun b q => by
      rcases Classical.em (b = x) with z | z
      · rw [z, hx2] at q
        cases q
      · rw [upd_ne z] at q
        exact Same.free e1 q
    generalize upd H1 x (.ins C_Walk dx (putF "whole" (.int w') [])) = H2 at *
    repeat walk_at "rs"
    refine rd_kLcCopy hR2 (Nat.le_trans hok.2.1 (by decide)) (fun _ => rfl) (fun _ => rfl) fun D es' H3 hD e3 hR3 hS hE => ?_
    have hx3 := e3 _ _ hx2
    repeat walk_at "rs"
    refine rd_kSet hx3 T.cl_Walk T.nRows rfl ?_
    refine k D es' _ (fun b o n q => ?_) upd_same ⟨by rw [upd_ne (ne_of hR3.1 hx3 (fun y => nomatch y))]; exact hR3.1, fun e he => by rw [upd_ne (ne_of (hR3.2 e he) hx3 (fun y => nomatch y))]; exact hR3.2 e he⟩ hS (back _ hD) fun e he => back _ (hE e he).1
    rw [upd_ne n]
    exact e3 _ _ (off _ _ n (e1 _ _ q))
theorem rows_ok_of {w : Int} {es es' : List WRow} (h : RowsOkW w es) (e : es'.map Prod.snd = es.map Prod.snd) : RowsOkW w es' := by
  have l : es'.length = es.length := by
    have := congrArg List.length e
    rw [List.length_map, List.length_map] at this
    exact this
  refine ⟨by rw [l]; exact h.1, by rw [l]; exact h.2.1, fun x hx => ?_⟩
  have m : x.2 ∈ es.map Prod.snd := by
    rw [← e]
    exact List.mem_map_of_mem hx
  obtain ⟨y, hy, ey⟩ := List.mem_map.mp m
  rw [l, ← ey]
  exact h.2.2 y hy
/-- a new walk -/
theorem rd_walk {C l : Addr} {w : Int} {es : List WRow} {H : Hp} {Q : VK} {E : XK} (h1 : 1 ≤ w) (h2 : w ≤ 1000000) (hR : RowsI H l es) (hok : RowsOkW w es)
    (k : ∀ a r es' H', H a = none → Same H H' → WalkAt C H' a w r es' → es'.map Prod.snd = es.map Prod.snd → H r = none → (∀ e ∈ es', H e.1 = none) → Q (.ref a) H') : kMake C (spWalkInit K C) [] E Q [.int w, .ref l] H := by
  intro x dx hx hdx ne
  have e0 : Same H (upd (upd H dx (.own x)) x (.ins C dx [])) := fun b o q => by
    rw [upd_ne (ne_of_none q hx), upd_ne (ne_of_none q hdx)]
    exact q
  refine ⟨x, dx, l, w, es, rfl, upd_same, h1, h2, hR.same e0, hok, fun r es' H' e1 hx1 hR1 hS hr hE => ⟨rfl, ?_⟩⟩
  exact k x r es' H' hx (fun b o q => e1 b o (ne_of_none q hx) (e0 b o q)) ⟨⟨dx, hx1⟩, hR1⟩ hS (Same.free e0 hr) fun e he => Same.free e0 (hE e he)
def spWLen (C : Addr) : Sp := fun vs H Q _ => ∃ (a r : Addr) (w : Int) (es : List WRow), vs = [.ref a] ∧ WalkAt C H a w r es ∧ Q (.int (es.length : Int)) H
abbrev N_Walk___len__ : List Str := ["self"]
theorem sc_Walk___len__ : FnScope ["self"] ["self"] (defScope s_Walk___len__) := ⟨rfl, rfl, rfl, by decide +kernel, rfl, by decide +kernel, by decide +kernel⟩
theorem ok_wlen {f C_Share C_NoShare C_Walk : Addr} {t1 t2 : Tok} {fd : FuncData} (F : Fun K "__len__" "Walk.__len__" s_Walk___len__ f fd) (T : TW K mg C_Share C_NoShare C_Walk t1 t2) : FnOk P w K mg base CX0 1 f fd ["self"] (spWLen C_Walk) := by
  refine F.ok sc_Walk___len__ (fun vs H Q E h => ?_) (fun cdv A outer s H vs Q E hr h => ?_)
  · obtain ⟨a, r, w', es, rfl, _⟩ := h
    rfl
  · obtain ⟨a, r, w', es, rfl, ⟨⟨dx, ha⟩, hR⟩, k⟩ := h
    refine ⟨_, (pss_one (ps_ret (pe_callB cr_len (by rfl) T.n_len PySem.boot_len (pa_cons (pe_fld (pv 0) rfl) pa_nil)))), ?_⟩
    repeat walk_at "rs"
    refine rd_kFld ha T.cl_Walk T.nRows (wF_rows _ _) ?_
    have sl : SqL K H r (es.map wv) := SqL.of hR.1
    repeat walk_at "rs"
    rw [List.length_map]
    exact k
/-- len of a walk -/
theorem rd_wlen {C a r : Addr} {w : Int} {es : List WRow} {H : Hp} {Q : VK} (h : WalkAt C H a w r es) (hz : es.length ≤ 32) (q : Q (.int (es.length : Int)) H) : rLenO C (spWLen C) [.ref a] H Q := by
  obtain ⟨⟨dx, ha⟩, hR⟩ := id h
  exact ⟨a, dx, _, rfl, ha, a, r, w, es, rfl, h, es.length, rfl, by omega, q⟩
theorem ix_nat {n j : Nat} (h : j < n) : ixN n (j : Int) = some j := by
  unfold ixN
  rw [if_pos (by omega), if_pos (by omega)]
  rfl
theorem sum_set : ∀ (ns : List Int) (j : Nat) (x v : Int), ns[j]? = some x → (ns.set j (x + v)).sum = ns.sum + v
  | [], j, x, v, h => by simp at h
  | n :: r, 0, x, v, h => by
    simp at h
    subst h
    rw [List.set_cons_zero, List.sum_cons, List.sum_cons]
    omega
  | n :: r, j + 1, x, v, h => by
    rw [List.getElem?_cons_succ] at h
    rw [List.set_cons_succ, List.sum_cons, List.sum_cons, sum_set r j x v h]
    omega
theorem rep_flatI (n : Nat) (k : Int) : (List.replicate n [V.int k]).flatten = (List.replicate n k).map V.int := by
  induction n with
  | zero => rfl
  | succ n ih =>
    rw [List.replicate_succ, List.flatten_cons, ih, List.replicate_succ]
    rfl
theorem sum_rep0 (n : Nat) : (List.replicate n (0 : Int)).sum = 0 := by
  induction n with
  | zero => rfl
  | succ n ih => rw [List.replicate_succ, List.sum_cons, ih]; rfl
theorem set_nonneg {ns : List Int} {j : Nat} {y : Int} (h : ∀ x ∈ ns, 0 ≤ x) (hy : 0 ≤ y) : ∀ x ∈ ns.set j y, 0 ≤ x := fun x hx => by
  rcases List.mem_or_eq_of_mem_set hx with hx | hx
  · exact h x hx
  · rw [hx]
    exact hy
def spRow : Sp := fun vs H Q _ => ∃ (p : Addr) (m : Nat) (w : Int) (N : Nat), vs = [.ref p, .int (m : Int), .int w] ∧ WellAt H p N ∧ N < 100000000 ∧ 1 ≤ m ∧ m ≤ 100 ∧ 0 ≤ w ∧ w ≤ 1000000 ∧
  ∀ l ns H', H l = none → l ≠ p → But p H H' → WellAt H' p (N + 10) → H' l = some (.lst (ns.map V.int)) → RowOk m w ns → Q (.ref l) H'
theorem WellAt.mono {H : Hp} {p : Addr} {N M : Nat} (w : WellAt H p N) (h : N ≤ M) : WellAt H p M := by
  obtain ⟨a, b, c, e, h1, h2, h3, h4⟩ := w
  exact ⟨a, b, c, e, h1, h2, h3, by omega⟩
theorem But.updS {H H1 : Hp} {p S : Addr} {o : HO} (e : But p H H1) (h : H S = none) : But p H (L2.upd H1 S o) := fun c u n q => by rw [upd_ne (ne_of_none q h)]; exact e c u n q
abbrev N__law_row : List Str := ["_law_well_here", "_law_many", "_law_whole", "_law_row_here", "_law_left", "_law_k", "_law_part", "_law_at"]
theorem sc__law_row : FnScope ["_law_well_here", "_law_many", "_law_whole", "_law_row_here", "_law_left", "_law_k", "_law_part", "_law_at"] ["_law_well_here", "_law_many", "_law_whole"] (defScope s__law_row) := ⟨rfl, rfl, rfl, by decide +kernel, rfl, by decide +kernel, by decide +kernel⟩
theorem ok_row {f : Addr} {fd : FuncData} (F : Fun K "_law_row" "_law_row" s__law_row f fd) (T : Tx K mg) (d__law_draw : Df P w K mg base CX0 1 "_law_draw" ["_law_well_here", "_law_many"] spDraw) : FnOk P w K mg base CX0 2 f fd ["_law_well_here", "_law_many", "_law_whole"] spRow := by
  refine F.ok sc__law_row (fun vs H Q E h => ?_) (fun cdv A outer s H vs Q E hr h => ?_)
  · obtain ⟨p, m, w', N, rfl, _⟩ := h
    rfl
  · obtain ⟨p, m, w', N, rfl, hw, hN, m1, m2, w0, w1, k⟩ := h
    refine ⟨_, (pss_cons (ps_set (i := 3) sc__law_row.nd rfl (Or.inl rfl) (pe_op op_rep (pe_lst (pa_cons pe_int pa_nil)) (pv 1)))
 (pss_cons (ps_set (i := 4) sc__law_row.nd rfl (Or.inl rfl) (pv 2))
 (pss_cons (ps_for PassesOwn.never rfl (pi_range1 (by rfl) T.n_range (pa_cons (pe_df d__law_draw (hr.mono (by decide)) pass0 (pa_cons (pv 0) (pa_cons pe_int pa_nil))) pa_nil)) (pg_name (i := 5) sc__law_row.nd rfl (Or.inl rfl))
 (pss_cons (ps_set (i := 6) sc__law_row.nd rfl (Or.inl rfl) (pe_df d__law_draw (hr.mono (by decide)) pass0 (pa_cons (pv 0) (pa_cons (pe_op op_add (pv 4) pe_int) pa_nil))))
 (pss_cons (ps_set (i := 7) sc__law_row.nd rfl (Or.inl rfl) (pe_df d__law_draw (hr.mono (by decide)) pass0 (pa_cons (pv 0) (pa_cons (pv 1) pa_nil))))
 (pss_cons (ps_asg (pe_op op_add (pe_ix ix_list (pv 3) (pv 7) (fun _ _ => rfl)) (pv 6)) (pg_sub (pv 3) (pv 7) set_list))
 (pss_one (ps_set (i := 4) sc__law_row.nd rfl (Or.inl rfl) (pe_op op_sub (pv 4) (pv 6))))))))
 (pss_cons (ps_set (i := 7) sc__law_row.nd rfl (Or.inl rfl) (pe_df d__law_draw (hr.mono (by decide)) pass0 (pa_cons (pv 0) (pa_cons (pv 1) pa_nil))))
 (pss_cons (ps_asg (pe_op op_add (pe_ix ix_list (pv 3) (pv 7) (fun _ _ => rfl)) (pv 4)) (pg_sub (pv 3) (pv 7) set_list))
 (pss_one (ps_ret (pv 3)))))))), ?_⟩
    repeat walk_at "rt"
    refine rd_kLst rfl fun l0 hl0 => ?_
    have W0 := hw.same (Same.new (o := .lst [.int 0]) hl0)
    repeat walk_at "rt"
    refine rd_rep upd_same (by omega) (by omega) (by simp; omega) fun l hl => ?_
    have em : (m : Int).toNat = m := by omega
    rw [em, rep_flatI]
    have hlH : H l = none := Same.free (Same.new (o := .lst [.int 0]) hl0) hl
    have nlp : l ≠ p := W0.ne_new hl
    have W1 := W0.same (Same.new (o := .lst ((List.replicate m (0 : Int)).map V.int)) hl)
    have B1 : But p H (upd (upd H l0 (.lst [.int 0])) l (.lst ((List.replicate m (0 : Int)).map V.int))) := (sbut (Same.new hl0)).trans (sbut (Same.new hl))
    have hL := upd_same (H := upd H l0 (.lst [.int 0])) (a := l) (o := .lst ((List.replicate m (0 : Int)).map V.int))
    generalize upd (upd H l0 (.lst [.int 0])) l (.lst ((List.replicate m (0 : Int)).map V.int)) = H1 at *
    repeat walk_at "rt"
    refine ⟨p, 4, N, rfl, W1, by omega, by decide, by decide, fun r H2 r0 r1 e2 w2 => ?_⟩
    repeat walk_at "rt"
    have last : ∀ (v5 v6 v7 : Option V) (ns : List Int) (left : Int) (M : Nat) (H3 : Hp), But p H H3 → WellAt H3 p M → M ≤ N + 9 → H3 l = some (.lst (ns.map V.int)) → ns.length = m → ns.sum + left = w' → (∀ x ∈ ns, 0 ≤ x) → 0 ≤ left → left ≤ 1000000 → True := fun _ _ _ _ _ _ _ _ _ _ _ _ _ _ _ _ => trivial
    refine rd_kRng1 (by omega) (by omega) (fun i σ H3 => ∃ v5 v6 v7 ns left M, σ = [some (.ref p), some (.int (m : Int)), some (.int w'), some (.ref l), some (.int left), v5, v6, v7] ∧ But p H H3 ∧ WellAt H3 p M ∧ M ≤ N + 1 + 2 * i ∧ H3 l = some (.lst (ns.map V.int)) ∧ ns.length = m ∧ ns.sum + left = w' ∧ (∀ x ∈ ns, 0 ≤ x) ∧ 0 ≤ left ∧ left ≤ 1000000)
      ⟨_, _, _, List.replicate m 0, w', _, rfl, B1.trans e2, w2, by omega, e2 _ _ nlp hL, List.length_replicate .., by rw [sum_rep0]; omega, fun x hx => by rw [(List.mem_replicate.mp hx).2]; exact Int.le_refl 0, w0, w1⟩ ?_ ?_
    · rintro i σ H3 hi ⟨v5, v6, v7, ns, left, M, rfl, b3, w3, hM, hl3, hn, hs, h0, hf0, hf1⟩
      have hi3 : i < 3 := by omega
      repeat walk_at "rt"
      refine ⟨p, left + 1, M, rfl, w3, by omega, by omega, by omega, fun q H4 q0 q1 e4 w4 => ?_⟩
      repeat walk_at "rt"
      refine ⟨p, (m : Int), M + 1, rfl, w4, by omega, by omega, by omega, fun j H5 j0 j1 e5 w5 => ?_⟩
      have hl5 := e5 _ _ nlp (e4 _ _ nlp hl3)
      obtain ⟨jn, rfl⟩ : ∃ n : Nat, j = (n : Int) := ⟨j.toNat, by omega⟩
      have hj : jn < ns.length := by omega
      have hx : ns[jn]? = some ns[jn] := List.getElem?_eq_getElem hj
      have x0 := h0 _ (List.mem_of_getElem? hx)
      repeat walk_at "rt"
      refine rd_ixL (SqL.of hl5) (atI_nat (by rw [List.getElem?_map, hx]; rfl)) ?_
      repeat walk_at "rt"
      refine rd_setL hl5 (j := jn) (by rw [List.length_map]; exact ix_nat hj) ?_
      have es : (ns.map V.int).set jn (.int (ns[jn] + q)) = (ns.set jn (ns[jn] + q)).map V.int := by rw [List.map_set]
      rw [es]
      repeat walk_at "rt"
      exact ⟨_, _, _, ns.set jn (ns[jn] + q), left - q, M + 2, rfl, ((b3.trans e4).trans e5).updS hlH, w5.off nlp, by omega, upd_same, by rw [List.length_set]; exact hn, by rw [sum_set ns jn _ q hx]; omega, set_nonneg h0 (by omega), by omega, by omega⟩
    · rintro σ H3 ⟨v5, v6, v7, ns, left, M, rfl, b3, w3, hM, hl3, hn, hs, h0, hf0, hf1⟩
      repeat walk_at "rt"
      refine ⟨p, (m : Int), M, rfl, w3, by omega, by omega, by omega, fun j H5 j0 j1 e5 w5 => ?_⟩
      have hl5 := e5 _ _ nlp hl3
      obtain ⟨jn, rfl⟩ : ∃ n : Nat, j = (n : Int) := ⟨j.toNat, by omega⟩
      have hj : jn < ns.length := by omega
      have hx : ns[jn]? = some ns[jn] := List.getElem?_eq_getElem hj
      have x0 := h0 _ (List.mem_of_getElem? hx)
      repeat walk_at "rt"
      refine rd_ixL (SqL.of hl5) (atI_nat (by rw [List.getElem?_map, hx]; rfl)) ?_
      repeat walk_at "rt"
      refine rd_setL hl5 (j := jn) (by rw [List.length_map]; exact ix_nat hj) ?_
      have es : (ns.map V.int).set jn (.int (ns[jn] + left)) = (ns.set jn (ns[jn] + left)).map V.int := by rw [List.map_set]
      rw [es]
      repeat walk_at "rt"
      exact k l (ns.set jn (ns[jn] + left)) _ hlH nlp ((b3.trans e5).updS hlH) ((w5.off nlp).mono (by omega)) upd_same ⟨by rw [List.length_set]; exact hn, by rw [sum_set ns jn _ left hx]; omega, set_nonneg h0 (by omega)⟩
/-- a whole and rows, drawn -/
def spWalkD : Sp := fun vs H Q _ => ∃ (p : Addr) (most : Int) (N : Nat), vs = [.ref p, .int most] ∧ WellAt H p N ∧ N < 1000 ∧ 1 ≤ most ∧ most ≤ 32 ∧
  ∀ T l w es H', But p H H' → WellAt H' p (N + 500) → H' T = some (.tup [.int w, .ref l]) → 1 ≤ w → w ≤ 1000000 → RowsI H' l es → RowsOkW w es → (es.length : Int) ≤ most → l ≠ p → (∀ e ∈ es, e.1 ≠ p) → H l = none → (∀ e ∈ es, H e.1 = none) → Q (.ref T) H'
abbrev N__law_walk : List Str := ["_law_well_here", "_law_most", "_law_many", "_law_whole", "_law_place"]
theorem sc__law_walk : FnScope ["_law_well_here", "_law_most", "_law_many", "_law_whole", "_law_place"] ["_law_well_here", "_law_most"] (defScope s__law_walk) := ⟨rfl, rfl, rfl, by decide +kernel, rfl, by decide +kernel, by decide +kernel⟩
theorem ok_walkd {f : Addr} {fd : FuncData} (F : Fun K "_law_walk" "_law_walk" s__law_walk f fd) (T : Tx K mg) (d__law_draw : Df P w K mg base CX0 1 "_law_draw" ["_law_well_here", "_law_many"] spDraw) (d__law_one : Df P w K mg base CX0 2 "_law_one" ["_law_well_here", "_law_some"] (spOne K))
    (d__law_row : Df P w K mg base CX0 2 "_law_row" ["_law_well_here", "_law_many", "_law_whole"] spRow) : FnOk P w K mg base CX0 3 f fd ["_law_well_here", "_law_most"] spWalkD := by
  refine F.ok sc__law_walk (fun vs H Q E h => ?_) (fun cdv A outer s H vs Q E hr h => ?_)
  · obtain ⟨p, most, N, rfl, _⟩ := h
    rfl
  · obtain ⟨p, most, N, rfl, hw, hN, m1, m2, k⟩ := h
    refine ⟨_, (pss_cons (ps_set (i := 2) sc__law_walk.nd rfl (Or.inr rfl) (pe_op op_add pe_int (pe_df d__law_draw (hr.mono (by decide)) pass0 (pa_cons (pv 0) (pa_cons (pv 1) pa_nil)))))
 (pss_cons (ps_set (i := 3) sc__law_walk.nd rfl (Or.inr rfl) (pe_op op_add pe_int (pe_df d__law_draw (hr.mono (by decide)) pass0 (pa_cons (pv 0) (pa_cons (pe_df d__law_one (hr.mono (by decide)) pass0 (pa_cons (pv 0) (pa_cons (pe_lst (pa_cons pe_int (pa_cons pe_int (pa_cons pe_int (pa_cons pe_int (pa_cons (pe_op op_powA pe_int pe_int) pa_nil)))))) pa_nil))) pa_nil)))))
 (pss_one (ps_ret (pe_tup (pa_cons (pv 3) (pa_cons (pe_lc (own := [("_law_place", 4)]) (g := gName 4) (tt := tYes) (te := (tCall (spRow) [] E0 (tCons (tVar 0) (tCons (tVar 2) (tCons (tVar 3) tNil))))) (by rfl) sc__law_walk.nd (pi_range1 (by rfl) T.n_range (pa_cons (pv 2) pa_nil)) (blkOk_by (own := [("_law_place", 4)]) (N := N__law_walk) (sc := defScope s__law_walk) (by decide +kernel)) (fun _ _ _ _ _ => (pg_name (i := 4) sc__law_walk.nd rfl (Or.inl rfl))) (fun _ _ _ _ _ => pts_nil) (fun _ _ _ _ _ => (pe_df d__law_row (hr.mono (by decide)) pass0 (pa_cons (pv 0) (pa_cons (pv 2) (pa_cons (pv 3) pa_nil)))))) pa_nil))))))), ?_⟩
    repeat walk_at "rt"
    refine ⟨p, most, N, rfl, hw, by omega, by omega, by omega, fun r H1 r0 r1 e1 w1 => ?_⟩
    repeat walk_at "rt"
    refine rd_kLst rfl fun l1 hl1 => ?_
    repeat walk_at "rt"
    refine ⟨p, l1, _, _, rfl, w1.same (Same.new hl1), by omega, SqL.of upd_same, w1.ne_new hl1, Nat.le_of_ble_eq_true rfl, Nat.le_of_ble_eq_true rfl, fun v H2 hv e2 w2 => ?_⟩
    obtain ⟨t, rfl, t0, t1⟩ : ∃ t : Int, v = .int t ∧ 0 < t ∧ t ≤ 1000000 := by
      simp only [List.mem_cons, List.not_mem_nil, or_false] at hv
      rcases hv with rfl | rfl | rfl | rfl | rfl <;> exact ⟨_, rfl, by decide, by decide⟩
    repeat walk_at "rt"
    refine ⟨p, t, _, rfl, w2, by omega, t0, by omega, fun q H3 q0 q1 e3 w3 => ?_⟩
    have b3 : But p H H3 := ((e1.trans (sbut (Same.new hl1))).trans e2).trans e3
    obtain ⟨m, em⟩ : ∃ m : Nat, 1 + r = (m : Int) := ⟨(1 + r).toNat, by omega⟩
    rw [em]
    repeat walk_at "rt"
    refine ⟨(m : Int), rfl, by omega, by omega, rd_kLcN (fun i acc D H' => ∃ es : List WRow, acc = es.map wv ∧ es.length = i ∧ But p H3 H' ∧ WellAt H' p (N + 3 + 10 * i) ∧ D ≠ p ∧ ∀ e ∈ es, H' e.1 = some (.lst (e.2.map V.int)) ∧ e.1 ≠ p ∧ e.1 ≠ D ∧ H3 e.1 = none ∧ RowOk m (1 + q) e.2)
      (fun D hD => ⟨[], rfl, rfl, sbut (Same.new hD), (w3.same (Same.new hD)).mono (by omega), w3.ne_new hD, fun e he => nomatch he⟩) ?_ (g_mono _ _) ?_⟩
    · rintro i acc D H4 hD hi hacc hlen ⟨es, rfl, hes, b4, w4, nD, hE⟩
      have hi2 : i < m := by omega
      repeat walk_at "rt"
      refine ⟨rfl, ?_⟩
      repeat walk_at "rt"
      refine ⟨p, m, 1 + q, _, rfl, w4, by omega, by omega, by omega, by omega, by omega, fun l ns H5 hl nl b5 w5 hl5 hok => ?_⟩
      have hacc5 := b5 _ _ nD hacc
      have nlD : l ≠ D := fun z => by
        rw [z, hacc] at hl
        cases hl
      have hl3 : H3 l = none := b4.fresh w4 hl
      refine rd_lcEnd hacc5 hlen (by omega) ⟨es ++ [(l, ns)], by rw [List.map_append]; rfl, by rw [List.length_append, hes]; rfl, (b4.trans b5).updS hD, (w5.off nD).mono (by omega), nD, fun e he => ?_⟩
      rcases List.mem_append.mp he with he | he
      · obtain ⟨a1, a2, a3, a4, a5⟩ := hE e he
        exact ⟨by rw [upd_ne a3]; exact b5 _ _ a2 a1, a2, a3, a4, a5⟩
      · have z := List.mem_singleton.mp he
        subst z
        exact ⟨by rw [upd_ne nlD]; exact hl5, nl, nlD, hl3, hok⟩
    · rintro acc D H4 hD hlen hacc ⟨es, rfl, hes, b4, w4, nD, hE⟩
      have hm : es.length = m := by omega
      repeat walk_at "rt"
      refine rd_kTup rfl fun T0 hT0 => ?_
      have s5 := Same.new (o := .tup [.int (1 + q), .ref D]) hT0
      refine k T0 D (1 + q) es _ ((b3.trans b4).trans (sbut s5)) ((w4.same s5).mono (by omega)) upd_same (by omega) (by omega) ⟨s5 _ _ hacc, fun e he => s5 _ _ (hE e he).1⟩ ⟨by omega, by omega, fun e he => ?_⟩ (by omega) nD (fun e he => (hE e he).2.1) (b3.fresh w3 hD) fun e he => b3.fresh w3 (hE e he).2.2.2.1
      rw [hm]
      exact (hE e he).2.2.2.2
/-- rows as data -/
def rowD (ns : List Int) : PyData := .list (ns.map PyData.int)
def rowsD (nss : List (List Int)) : PyData := .list (nss.map rowD)
theorem dp_rows {K : PySem.W.Frag} {H : Hp} {l : Addr} {es : List WRow} (h : RowsI H l es) : Dp K H (.ref l) (rowsD (es.map Prod.snd)) := by
  have g : ∀ fs : List WRow, (∀ e ∈ fs, H e.1 = some (.lst (e.2.map V.int))) → DpAll K H (fs.map wv) ((fs.map Prod.snd).map rowD) := fun fs => by
    induction fs with
    | nil => exact fun _ => .nil
    | cons e r ih => exact fun h => .cons (.lst (SqL.of (h e (List.mem_cons_self ..))) (dp_ints e.2)) (ih fun x hx => h x (List.mem_cons_of_mem _ hx))
  exact .lst (SqL.of h.1) (g es h.2)
theorem sum_ge : ∀ (ns : List Int) (x : Int), (∀ y ∈ ns, 0 ≤ y) → x ∈ ns → x ≤ ns.sum
  | n :: r, x, h, hx => by
    have hr : 0 ≤ r.sum := by
      clear hx
      induction r with
      | nil => exact Int.le_refl 0
      | cons m r ih =>
        rw [List.sum_cons]
        have a := h m (by simp)
        have b := ih fun y hy => h y (by
          rcases List.mem_cons.mp hy with rfl | hy
          · simp
          · simp [hy])
        omega
    rw [List.sum_cons]
    rcases List.mem_cons.mp hx with rfl | hx
    · omega
    · have := sum_ge r x (fun y hy => h y (List.mem_cons_of_mem _ hy)) hx
      have := h n (List.mem_cons_self ..)
      omega
theorem num_small {m : Nat} {w : Int} {ns : List Int} (h : RowOk m w ns) (hw : w ≤ 1000000) : ∀ x ∈ ns, x.natAbs < 2 ^ 20 := fun x hx => by
  obtain ⟨h1, h2, h3⟩ := h
  have a := h3 x hx
  have b := sum_ge ns x h3 hx
  omega
theorem p20 {x : Int} (h : x.natAbs < 2 ^ 20) : x.natAbs < 2 ^ 1900 := Nat.lt_of_lt_of_le h (Nat.pow_le_pow_right (by decide) (by decide))
theorem nice_rows {w : Int} {m : Nat} (hw : w ≤ 1000000) (hm : m ≤ 32) : ∀ (nss : List (List Int)), (∀ ns ∈ nss, RowOk m w ns) → ∃ k, k ≤ 33 * nss.length ∧ NiceAll (nss.map rowD) k 1
  | [], _ => ⟨0, by omega, .nil⟩
  | ns :: r, h => by
    obtain ⟨k, hk, g⟩ := nice_rows hw hm r fun x hx => h x (List.mem_cons_of_mem _ hx)
    have q := h ns (List.mem_cons_self ..)
    have z : Nice (rowD ns) (ns.length + 1) (0 + 1) := .lst (NiceAll.ints fun x hx => p20 (num_small q hw x hx))
    refine ⟨ns.length + 1 + k, ?_, .cons z (by omega) g⟩
    have := q.1
    rw [List.length_cons]
    omega
theorem nice_rowsD {w : Int} {es : List WRow} (hw : w ≤ 1000000) (hok : RowsOkW w es) : ∃ k, k ≤ 1057 ∧ Nice (rowsD (es.map Prod.snd)) k 2 := by
  obtain ⟨h1, h2, h3⟩ := hok
  obtain ⟨k, hk, g⟩ := nice_rows (m := es.length) hw h2 (es.map Prod.snd) fun ns hns => by
    obtain ⟨e, he, rfl⟩ := List.mem_map.mp hns
    exact h3 e he
  rw [List.length_map] at hk
  exact ⟨k + 1, by omega, .lst g⟩
/-- the rows alone -/
abbrev nsOf (es : List WRow) : List (List Int) := es.map Prod.snd
theorem sq_of {w : Int} {es : List WRow} (h : RowsOkW w es) : Sq (nsOf es) := fun ns hns => by
  obtain ⟨e, he, rfl⟩ := List.mem_map.mp hns
  rw [List.length_map]
  exact (h.2.2 e he).1
/-- from x to y: as the row at x tells -/
theorem stp_iff {es : List WRow} {x y : Nat} {e : WRow} {n : Int} (he : es[x]? = some e) (hn : e.2[y]? = some n) : Stp (nsOf es) x y ↔ 0 < n := by
  constructor
  · rintro ⟨ns, m, h1, h2, h3⟩
    rw [List.getElem?_map, he] at h1
    cases h1
    rw [hn] at h2
    cases h2
    exact h3
  · exact fun h => ⟨e.2, n, by rw [List.getElem?_map, he]; rfl, hn, h⟩
def spReached (C : Addr) : Sp := fun vs H Q _ => ∃ (a r : Addr) (w : Int) (es : List WRow) (x : Nat), vs = [.ref a, .int (x : Int)] ∧ WalkAt C H a w r es ∧ RowsOkW w es ∧ x < es.length ∧
  ∀ T H', Same H H' → H T = none → H' T = some (.tup ((nz (rchL (nsOf es) x)).map V.int)) → Q (.ref T) H'
/-- where the search stands: places found, places waiting -/
structure Srch (nss : List (List Int)) (x : Nat) (ps ws : List Nat) : Prop where
  nd : ps.Nodup
  lt : ∀ p ∈ ps, p < nss.length
  st : x ∈ ps
  rc : ∀ p ∈ ps, Rch nss x p
  sb : ∀ p ∈ ws, p ∈ ps
  cl : ∀ p ∈ ps, p ∉ ws → ∀ y, Stp nss p y → y ∈ ps
  ln : ws.length ≤ ps.length
theorem Srch.len {nss : List (List Int)} {x : Nat} {ps ws : List Nat} (h : Srch nss x ps ws) : ps.length ≤ nss.length := nodup_len h.nd h.lt
/-- one place taken off, the new ones put on -/
theorem Srch.step {nss : List (List Int)} {x p : Nat} {ps ws nw : List Nat} (h : Srch nss x ps (ws ++ [p])) (hq : Sq nss) (hn : nw.Nodup) (hm : ∀ y, y ∈ nw ↔ y < nss.length ∧ Stp nss p y ∧ y ∉ ps) : Srch nss x (ps ++ nw) (ws ++ nw) := by
  have hp : p ∈ ps := h.sb p (by simp)
  refine ⟨List.nodup_append.mpr ⟨h.nd, hn, fun a ha b hb e => ((hm b).mp hb).2.2 (e ▸ ha)⟩, fun q hq' => ?_, List.mem_append_left _ h.st, fun q hq' => ?_, fun q hq' => ?_, fun q hq' hn' y hy => ?_, ?_⟩
  · rcases List.mem_append.mp hq' with m | m
    · exact h.lt q m
    · exact ((hm q).mp m).1
  · rcases List.mem_append.mp hq' with m | m
    · exact h.rc q m
    · exact (h.rc p hp).tail ((hm q).mp m).2.1
  · rcases List.mem_append.mp hq' with m | m
    · exact List.mem_append_left _ (h.sb q (List.mem_append_left _ m))
    · exact List.mem_append_right _ m
  · rw [List.mem_append, not_or] at hn'
    rcases List.mem_append.mp hq' with m | m
    · rcases Classical.em (q = p) with e | e
      · subst e
        rcases Classical.em (y ∈ ps) with z | z
        · exact List.mem_append_left _ z
        · exact List.mem_append_right _ ((hm y).mpr ⟨hy.lt hq, hy, z⟩)
      · exact List.mem_append_left _ (h.cl q m (fun z => by
          rcases List.mem_append.mp z with z | z
          · exact hn'.1 z
          · exact e (List.mem_singleton.mp z)) y hy)
    · exact (hn'.2 m).elim
  · have := h.ln
    rw [List.length_append] at this ⊢
    rw [List.length_append]
    omega
theorem Srch.done {nss : List (List Int)} {x : Nat} {ps : List Nat} (h : Srch nss x ps []) (y : Nat) : y ∈ ps ↔ y < nss.length ∧ Rch nss x y :=
  ⟨fun m => ⟨h.lt y m, h.rc y m⟩, fun m => Rch.in_closed h.st (fun p hp z hz => h.cl p hp (by simp) z hz) m.2⟩
theorem snoc_of {α : Type} {xs : List α} (h : xs ≠ []) : ∃ ys y, xs = ys ++ [y] := ⟨xs.dropLast, xs.getLast h, (List.dropLast_concat_getLast h).symm⟩
theorem Same.upN {H H' : Hp} {l : Addr} {o : HO} (e : Same H H') (h : H l = none) : Same H (upd H' l o) := fun b u q => by rw [upd_ne (ne_of_none q h)]; exact e b u q
theorem int_nil {ps : List Nat} (h : ((nz ps).map V.int).isEmpty = true) : ps = [] := by
  cases ps with
  | nil => rfl
  | cons a r => cases h
abbrev N__reached : List Str := ["walk", "start", "places", "waiting", "row", "new", "y"]
theorem sc__reached : FnScope ["walk", "start", "places", "waiting", "row", "new", "y"] ["walk", "start"] (defScope s__reached) := ⟨rfl, rfl, rfl, by decide +kernel, rfl, by decide +kernel, by decide +kernel⟩
theorem ok_reached {f C_Share C_NoShare C_Walk : Addr} {t1 t2 : Tok} {fd : FuncData} (F : Fun K "_reached" "_reached" s__reached f fd) (T : TW K mg C_Share C_NoShare C_Walk t1 t2) (d_Walk___len__ : Mt P w K mg base 1 C_Walk "__len__" ["self"] (spWLen C_Walk)) :
    FnOk P w K mg base CX0 3 f fd ["walk", "start"] (spReached C_Walk) := by
  refine F.ok sc__reached (fun vs H Q E h => ?_) (fun cdv A outer s H vs Q E hr h => ?_)
  · obtain ⟨a, r, w', es, x, rfl, _⟩ := h
    rfl
  · obtain ⟨a, r, w', es, x, rfl, hW, hok, hx, k⟩ := h
    refine ⟨_, (pss_cons (ps_set (i := 2) sc__reached.nd rfl (Or.inr rfl) (pe_lst (pa_cons (pv 1) pa_nil)))
 (pss_cons (ps_set (i := 3) sc__reached.nd rfl (Or.inl rfl) (pe_lst (pa_cons (pv 1) pa_nil)))
 (pss_cons (ps_while PassesOwn.never (pt_truth (pv 3) (by intro _; rfl)) (pss_cons (ps_set (i := 4) sc__reached.nd rfl (Or.inr rfl) (pe_ix ix_list (pe_fld (pv 0) rfl) (pe_bm0 PySem.F.plainAttrs_list PySem.F.slot_list_pop PySem.F.type_list_pop mt_pop (pv 3)) (fun _ _ => rfl)))
 (pss_cons (ps_setLc (i := 5) (own := [("y", 6)]) (g := gName 6) (tt := (tAnd (tTest (tOp (rI0 fun i j => V.bl (decide (j < i))) (tOp (rIxL K) (tVar 4) (tVar 6)) (tC (V.int (0))))) (tTest (tOp (rIn K true) (tVar 6) (tVar 2))))) (te := (tVar 6)) (by rfl) sc__reached.nd rfl rfl (sw_true rfl rfl rfl (by decide +kernel)) (pi_range1 (by rfl) T.n_range (pa_cons (pe_callB (cr_lenO d_Walk___len__ (hr.mono (by decide))) (by rfl) T.n_len PySem.boot_len (pa_cons (pv 0) pa_nil)) pa_nil)) (blkOk_by (own := [("y", 6)]) (N := N__reached) (sc := defScope s__reached) (by decide +kernel)) (fun _ _ _ _ _ => (pg_name (i := 6) sc__reached.nd rfl (Or.inl rfl))) (fun _ _ _ _ _ => (pts_one (PW.pt (pw_and (pt_cmpR op_gt (pe_ix ix_list (pv 4) (pv 6) (fun _ _ => rfl)) pe_int (nomark _)) (pw_and1 (pt_cmpR op_notIn_seq (pv 6) (pv 2) (by rfl))))))) (fun _ _ _ _ _ => (pv 6)))
 (pss_cons (ps_expr (pe_bm PySem.F.plainAttrs_list PySem.F.slot_list_extend PySem.F.type_list_extend mt_extend (pv 2) (pa_cons (pv 5) pa_nil)))
 (pss_one (ps_expr (pe_bm PySem.F.plainAttrs_list PySem.F.slot_list_extend PySem.F.type_list_extend mt_extend (pv 3) (pa_cons (pv 5) pa_nil))))))))
 (pss_one (ps_ret (pe_callTy cr_tupOf (by rfl) T.n_tuple (by decide +kernel) (pa_cons (pe_callB cr_sorted (by rfl) T.n_sorted (by decide +kernel) (pa_cons (pv 2) pa_nil)) pa_nil))))))), ?_⟩
    have hsq := sq_of hok
    have hlen : (nsOf es).length = es.length := List.length_map ..
    obtain ⟨o1, o2, o3⟩ := id hok
    repeat walk_at "rs"
    refine rd_kLst rfl fun l1 hl1 => ?_
    repeat walk_at "rs"
    refine rd_kLst rfl fun l2 hl2 => ?_
    have e2 : Same H (upd (upd H l1 (.lst [.int (x : Int)])) l2 (.lst [.int (x : Int)])) := fun b o q => Same.new hl2 _ _ (Same.new hl1 _ _ q)
    have n12 : l1 ≠ l2 := ne_of_none upd_same hl2
    have h1 : upd (upd H l1 (.lst [.int (x : Int)])) l2 (.lst [.int (x : Int)]) l1 = some (.lst ((nz [x]).map V.int)) := by rw [upd_ne n12]; exact upd_same
    have h2 : upd (upd H l1 (.lst [.int (x : Int)])) l2 (.lst [.int (x : Int)]) l2 = some (.lst ((nz [x]).map V.int)) := upd_same
    have hl2H : H l2 = none := Same.free (Same.new hl1) hl2
    generalize upd (upd H l1 (.lst [.int (x : Int)])) l2 (.lst [.int (x : Int)]) = H2 at *
    repeat walk_at "rs"
    refine while_by (fun σ H' => ∃ v4 v5 v6 ps ws, σ = [some (.ref a), some (.int (x : Int)), some (.ref l1), some (.ref l2), v4, v5, v6] ∧ Same H H' ∧ H' l1 = some (.lst ((nz ps).map V.int)) ∧ H' l2 = some (.lst ((nz ws).map V.int)) ∧ Srch (nsOf es) x ps ws)
      (fun σ H' => match H' l1, H' l2 with | some (.lst us), some (.lst vs) => es.length + vs.length - us.length | _, _ => 0) ⟨_, _, _, [x], [x], rfl, e2, h1, h2, ⟨by simp, by simpa [hlen] using hx, by simp, fun p hp => by rw [List.mem_singleton.mp hp]; exact .refl, fun p hp => hp, fun p hp hn => (hn hp).elim, Nat.le_refl _⟩⟩ ?_ ?_
    · rintro σ H3 ⟨v4, v5, v6, ps, ws, rfl, e3, q1, q2, S⟩
      refine ⟨_, rfl, _, .inl ⟨_, SqL.of q2, rfl⟩, ?_⟩
      refine ite_b (fun c => ?_) (fun c => ?_)
      · obtain ⟨ws, p, rfl⟩ : ∃ ys y, ws = ys ++ [y] := snoc_of fun z => by
          rw [z] at c
          cases c
        have hp : p ∈ ps := S.sb p (by simp)
        have hpl : p < es.length := by rw [← hlen]; exact S.lt p hp
        have hW3 := hW.same e3
        obtain ⟨⟨dx, hA⟩, hR⟩ := id hW3
        repeat walk_at "rs"
        refine rd_kFld hA T.cl_Walk T.nRows (wF_rows _ _) ?_
        refine ⟨_, rfl, .inl ⟨rfl, _, SqL.of q2⟩, ?_⟩
        have ew : (nz (ws ++ [p])).map V.int = (nz ws).map V.int ++ [.int (p : Int)] := by rw [nz_app, List.map_append]; rfl
        rw [ew] at q2
        refine rd_pop q2 (y := .int (p : Int)) (by simp) ?_
        rw [List.dropLast_concat]
        have e4 : Same H (upd H3 l2 (.lst ((nz ws).map V.int))) := Same.upN e3 hl2H
        have q1' : upd H3 l2 (.lst ((nz ws).map V.int)) l1 = some (.lst ((nz ps).map V.int)) := by rw [upd_ne n12]; exact q1
        have q2' : upd H3 l2 (.lst ((nz ws).map V.int)) l2 = some (.lst ((nz ws).map V.int)) := upd_same
        generalize upd H3 l2 (.lst ((nz ws).map V.int)) = H4 at *
        have hW4 := hW.same e4
        obtain ⟨⟨dx4, hA4⟩, hR4⟩ := id hW4
        have he : es[p]? = some es[p] := List.getElem?_eq_getElem hpl
        have hm := List.mem_of_getElem? he
        refine rd_ixL (SqL.of hR4.1) (atI_nat (by rw [List.getElem?_map, he]; rfl)) ?_
        repeat walk_at "rs"
        refine rd_lcTR1 ?_
        repeat walk_at "rs"
        refine rd_wlen hW4 o2 ?_
        repeat walk_at "rs"
        refine ⟨_, rfl, by omega, by omega, rd_kLcTN (fun i acc D H' => Same H4 H' ∧ ∃ nw : List Nat, acc = (nz nw).map V.int ∧ nw.Nodup ∧ ∀ y, y ∈ nw ↔ y < i ∧ Stp (nsOf es) p y ∧ y ∉ ps) (fun D hD => ⟨Same.new hD, [], rfl, List.nodup_nil, fun y => by simp⟩) ?_ ?_⟩
        · rintro i acc D H5 hD hi hacc hlen' ⟨e5, nw, rfl, hnd, hmem⟩
          have hi' : i < es.length := by omega
          have hi2 : i < es[p].2.length := by rw [(o3 _ hm).1]; exact hi'
          have hn : es[p].2[i]? = some es[p].2[i] := List.getElem?_eq_getElem hi2
          have st := stp_iff he hn
          repeat walk_at "rs"
          refine ⟨rfl, ?_⟩
          repeat walk_at "rs"
          rw [Int.zero_add]
          refine rd_ixL (SqL.of (e5 _ _ (hR4.2 _ hm))) (atI_nat (by rw [List.getElem?_map, hn]; rfl)) ?_
          repeat walk_at "rs"
          have no : ¬ (Stp (nsOf es) p i ∧ i ∉ ps) → PvJ (fun i acc D H' => Same H4 H' ∧ ∃ nw : List Nat, acc = (nz nw).map V.int ∧ nw.Nodup ∧ ∀ y, y ∈ nw ↔ y < i ∧ Stp (nsOf es) p y ∧ y ∉ ps) D (i + 1) H5 := fun z =>
            ⟨_, Nat.le_succ_of_le hlen', hacc, e5, nw, rfl, hnd, fun y => by
              rw [hmem]
              constructor
              · rintro ⟨a1, a2⟩
                exact ⟨by omega, a2⟩
              · rintro ⟨a1, a2⟩
                refine ⟨?_, a2⟩
                rcases Nat.lt_or_ge y i with l | l
                · exact l
                · exact (z (show y = i by omega ▸ a2)).elim⟩
          refine ite_d (fun c1 => ?_) (fun c1 => no fun z => c1 (st.mp z.1))
          repeat walk_at "rs"
          refine rd_notInNat (SqL.of (e5 _ _ q1')) ?_
          repeat walk_at "rs"
          refine ite_nd (fun c2 => ?_) (fun c2 => no fun z => z.2 c2)
          repeat walk_at "rs"
          refine rd_lcTE hacc hlen' (by omega) ⟨Same.upN e5 hD, nw ++ [i], by rw [nz_app, List.map_append]; rfl, ?_, fun y => ?_⟩
          · refine List.nodup_append.mpr ⟨hnd, by simp, fun a ha b hb z => ?_⟩
            rw [List.mem_singleton.mp hb] at z
            have := ((hmem a).mp ha).1
            omega
          · rw [List.mem_append, hmem, List.mem_singleton]
            constructor
            · rintro (⟨a1, a2⟩ | rfl)
              · exact ⟨by omega, a2⟩
              · exact ⟨by omega, st.mpr c1, c2⟩
            · rintro ⟨a1, a2⟩
              rcases Nat.lt_or_ge y i with l | l
              · exact .inl ⟨l, a2⟩
              · exact .inr (by omega)
        · rintro acc D H5 hD hlen' hacc ⟨e5, nw, rfl, hnd, hmem⟩
          have hm2 : ∀ y, y ∈ nw ↔ y < (nsOf es).length ∧ Stp (nsOf es) p y ∧ y ∉ ps := fun y => by
            rw [hmem, hlen]
            have e : ((es.length : Nat) : Int).toNat = es.length := by omega
            rw [e]
          have S2 := S.step hsq hnd hm2
          have l1s := S2.len
          have l2s := S2.ln
          rw [List.length_append, List.length_append] at l2s
          rw [List.length_append, hlen] at l1s
          repeat walk_at "rs"
          have n1D : l1 ≠ D := ne_of_none q1' hD
          have n2D : l2 ≠ D := ne_of_none q2' hD
          have a1 := e5 _ _ q1'
          have a2 := e5 _ _ q2'
          have e6 : Same H H5 := fun b o q => e5 _ _ (e4 _ _ q)
          have n1 : l1 ≠ l2 := n12
          refine rd_ext rfl rfl a1 hacc (by rw [nz_len, nz_len]; omega) ?_
          have e7 := Same.upN (o := .lst ((nz ps).map V.int ++ (nz nw).map V.int)) e6 hl1
          have b1 := upd_same (H := H5) (a := l1) (o := .lst ((nz ps).map V.int ++ (nz nw).map V.int))
          have b2 : upd H5 l1 (.lst ((nz ps).map V.int ++ (nz nw).map V.int)) l2 = some (.lst ((nz ws).map V.int)) := by rw [upd_ne n12.symm]; exact a2
          have b3 : upd H5 l1 (.lst ((nz ps).map V.int ++ (nz nw).map V.int)) D = some (.lst ((nz nw).map V.int)) := by rw [upd_ne n1D.symm]; exact hacc
          generalize upd H5 l1 (.lst ((nz ps).map V.int ++ (nz nw).map V.int)) = H6 at *
          repeat walk_at "rs"
          refine rd_ext rfl rfl b2 b3 (by rw [nz_len, nz_len]; omega) ?_
          have c1 : upd H6 l2 (.lst ((nz ws).map V.int ++ (nz nw).map V.int)) l1 = some (.lst ((nz (ps ++ nw)).map V.int)) := by rw [upd_ne n12, b1, nz_app, List.map_append]
          have c2 : upd H6 l2 (.lst ((nz ws).map V.int ++ (nz nw).map V.int)) l2 = some (.lst ((nz (ws ++ nw)).map V.int)) := by rw [upd_same, nz_app, List.map_append]
          refine ⟨⟨_, _, _, ps ++ nw, ws ++ nw, rfl, Same.upN e7 hl2H, c1, c2, S2⟩, ?_⟩
          rw [c1, c2, q1, q2]
          dsimp only
          rw [List.length_append, nz_len, nz_len, nz_len, nz_len, List.length_append, List.length_append]
          simp only [List.length_cons, List.length_nil]
          omega
      · repeat walk_at "rs"
        have w0 : ws = [] := by
          cases ws with
          | nil => rfl
          | cons z r => cases c
        subst w0
        refine rd_sorted (ns := nz ps) (SqL.of q1) (by have := S.len; rw [show (nz ps).length = ps.length from List.length_map ..]; omega) fun ks p hperm hs hp => ?_
        have ek := rchL_of hperm hs S.nd S.done
        subst ek
        have e8 := fun b o q => Same.new (o := .lst ((nz (rchL (nsOf es) x)).map V.int)) hp b o (e3 b o q)
        repeat walk_at "rs"
        refine rd_tupOf (SqL.of upd_same) fun t ht => ?_
        exact k t _ (fun b o q => Same.new ht _ _ (e8 b o q)) (Same.free e8 ht) upd_same
    · rintro σ H Q Q' f ⟨v, e, kk, h, q⟩
      exact ⟨v, e, kk, h, f _ _ q⟩
def spClosed (C : Addr) : Sp := fun vs H Q _ => ∃ (a r : Addr) (w : Int) (es : List WRow), vs = [.ref a] ∧ WalkAt C H a w r es ∧ RowsOkW w es ∧
  ∀ l ts H', Same H H' → H l = none → SetsAt H' l ts → (∀ t ∈ ts, H t.1 = none) → ts.map Prod.snd = clsL (nsOf es) → Q (.ref l) H'
theorem rch_small {es : List WRow} (h : es.length ≤ 32) (x : Nat) : ∀ p ∈ rchL (nsOf es) x, p < 1000000 := fun p hp => by
  have := (mem_rchL.mp hp).1
  rw [List.length_map] at this
  omega
theorem sv_at {ts : List SRow} {i : Nat} {x : V} (h : (ts.map sv)[i]? = some x) : ∃ t, ts[i]? = some t ∧ x = .ref t.1 := by
  rw [List.getElem?_map] at h
  cases q : ts[i]? with
  | none =>
    rw [q] at h
    cases h
  | some r =>
    rw [q] at h
    exact ⟨r, rfl, (Option.some.inj h).symm⟩
/-- so many rows of places, each what one comes to from its number on -/
def RchAt (nss : List (List Int)) (n : Nat) (ts : List SRow) : Prop := ts.length = n ∧ ∀ i t, ts[i]? = some t → t.2 = rchL nss i
theorem RchAt.snoc {nss : List (List Int)} {n : Nat} {ts : List SRow} {t : SRow} (h : RchAt nss n ts) (e : t.2 = rchL nss n) : RchAt nss (n + 1) (ts ++ [t]) := by
  refine ⟨by rw [List.length_append, h.1]; rfl, fun i u hu => ?_⟩
  rcases Nat.lt_or_ge i ts.length with l | l
  · rw [List.getElem?_append_left l] at hu
    exact h.2 i u hu
  · have q := (List.getElem?_eq_some_iff.mp hu).1
    rw [List.length_append] at q
    have z : i = ts.length := by simp at q; omega
    subst z
    rw [List.getElem?_append_right (Nat.le_refl _)] at hu
    simp at hu
    rw [← hu, e, h.1]
theorem bl_map_snoc {α : Type} (f : α → Bool) (xs : List α) (x : α) : (xs.map f).map V.bl ++ [V.bl (f x)] = ((xs ++ [x]).map f).map V.bl := by
  rw [List.map_append, List.map_append]
  rfl
theorem take_snoc {α : Type} {xs : List α} {i : Nat} {x : α} (h : xs[i]? = some x) : xs.take (i + 1) = xs.take i ++ [x] := by
  rw [List.take_add_one, h]
  rfl
theorem nz_at {ps : List Nat} {i : Nat} {x : V} (h : ((nz ps).map V.int)[i]? = some x) : ∃ p, ps[i]? = some p ∧ x = .int (p : Int) := by
  unfold nz at h
  rw [List.getElem?_map, List.getElem?_map] at h
  cases q : ps[i]? with
  | none =>
    rw [q] at h
    cases h
  | some r =>
    rw [q] at h
    exact ⟨r, rfl, (Option.some.inj h).symm⟩
theorem all_cls (nss : List (List Int)) (x : Nat) : (((rchL nss x).map fun y => decide (rchL nss y = rchL nss x)).all id) = true ↔ ClsAt nss x := by
  rw [List.all_eq_true]
  constructor
  · intro h y hy
    have := h _ (List.mem_map_of_mem (f := fun y => decide (rchL nss y = rchL nss x)) hy)
    simpa using this
  · intro h b hb
    obtain ⟨y, hy, rfl⟩ := List.mem_map.mp hb
    simpa using h y hy
abbrev N_closed_sets : List Str := ["walk", "reached", "x", "sets", "places", "y"]
theorem sc_closed_sets : FnScope ["walk", "reached", "x", "sets", "places", "y"] ["walk"] (defScope s_closed_sets) := ⟨rfl, rfl, rfl, by decide +kernel, rfl, by decide +kernel, by decide +kernel⟩
theorem ok_closed {f C_Share C_NoShare C_Walk : Addr} {t1 t2 : Tok} {fd : FuncData} (F : Fun K "closed_sets" "closed_sets" s_closed_sets f fd) (T : TW K mg C_Share C_NoShare C_Walk t1 t2) (d_Walk___len__ : Mt P w K mg base 1 C_Walk "__len__" ["self"] (spWLen C_Walk))
    (d__reached : Df P w K mg base CX0 3 "_reached" ["walk", "start"] (spReached C_Walk)) : FnOk P w K mg base CX0 4 f fd ["walk"] (spClosed C_Walk) := by
  refine F.ok sc_closed_sets (fun vs H Q E h => ?_) (fun cdv A outer s H vs Q E hr h => ?_)
  · obtain ⟨a, r, w', es, rfl, _⟩ := h
    rfl
  · obtain ⟨a, r, w', es, rfl, hW, hok, k⟩ := h
    refine ⟨_, (pss_cons (ps_set (i := 1) sc_closed_sets.nd rfl (Or.inr rfl) (pe_lc (own := [("x", 2)]) (g := gName 2) (tt := tYes) (te := (tCall (spReached C_Walk) [] E0 (tCons (tVar 0) (tCons (tVar 2) tNil)))) (by rfl) sc_closed_sets.nd (pi_range1 (by rfl) T.n_range (pa_cons (pe_callB (cr_lenO d_Walk___len__ (hr.mono (by decide))) (by rfl) T.n_len PySem.boot_len (pa_cons (pv 0) pa_nil)) pa_nil)) (blkOk_by (own := [("x", 2)]) (N := N_closed_sets) (sc := defScope s_closed_sets) (by decide +kernel)) (fun _ _ _ _ _ => (pg_name (i := 2) sc_closed_sets.nd rfl (Or.inl rfl))) (fun _ _ _ _ _ => pts_nil) (fun _ _ _ _ _ => (pe_df d__reached (hr.mono (by decide)) pass0 (pa_cons (pv 0) (pa_cons (pv 2) pa_nil))))))
 (pss_cons (ps_set (i := 3) sc_closed_sets.nd rfl (Or.inl rfl) (pe_lst pa_nil))
 (pss_cons (ps_for PassesOwn.never rfl (pi_enum (by rfl) T.n_enumerate (pa_cons (pv 1) pa_nil)) (pg_tup (by rfl) (pgs_cons (pg_name (i := 2) sc_closed_sets.nd rfl (Or.inl rfl)) (pgs_cons (pg_name (i := 4) sc_closed_sets.nd rfl (Or.inr rfl)) pgs_nil)))
 (pss_one (ps_if (PW.pt (pw_and (pt_cmpR op_eq (pe_ix ix_tup (pv 4) pe_int (fun _ _ => rfl)) (pv 2) (nomark _)) (pw_and1 (pt_val (pe_callB (cr_all rfl) (by rfl) T.n_all (by decide +kernel) (pa_cons (pe_lc (own := [("y", 5)]) (g := gName 5) (tt := tYes) (te := (tOp (rEqD K) (tOp (rIxL K) (tVar 1) (tVar 5)) (tVar 4))) (by rfl) sc_closed_sets.nd (pi_tup (pv 4)) (blkOk_by (own := [("y", 5)]) (N := N_closed_sets) (sc := defScope s_closed_sets) (by decide +kernel)) (fun _ _ _ _ _ => (pg_name (i := 5) sc_closed_sets.nd rfl (Or.inl rfl))) (fun _ _ _ _ _ => pts_nil) (fun _ _ _ _ _ => (pe_cmpR (op_eqD hr.units) (pe_ix ix_list (pv 1) (pv 5) (fun _ _ => rfl)) (pv 4) (nomark _)))) pa_nil)))))) (pss_one (ps_expr (pe_bm PySem.F.plainAttrs_list PySem.F.slot_list_append PySem.F.type_list_append mt_append (pv 3) (pa_cons (pv 4) pa_nil)))) pss_nil)))
 (pss_one (ps_ret (pv 3)))))), ?_⟩
    have hsq := sq_of hok
    have hlen : (nsOf es).length = es.length := List.length_map ..
    obtain ⟨o1, o2, o3⟩ := id hok
    have small := rch_small o2
    repeat walk_at "rs"
    refine rd_wlen hW o2 ?_
    repeat walk_at "rs"
    refine ⟨_, rfl, by omega, by omega, rd_kLcN (fun i acc D H' => Same H H' ∧ ∃ ts : List SRow, acc = ts.map sv ∧ (∀ t ∈ ts, H' t.1 = some (.tup ((nz t.2).map V.int)) ∧ H t.1 = none) ∧ RchAt (nsOf es) i ts)
      (fun D hD => ⟨Same.new hD, [], rfl, (fun t ht => nomatch ht), rfl, fun i t h => nomatch h⟩) ?_ (g_mono _ _) ?_⟩
    · rintro i acc D H1 hD hi hacc hl ⟨e1, ts, rfl, hT, hR⟩
      have hi' : i < es.length := by omega
      repeat walk_at "rs"
      refine ⟨rfl, ?_⟩
      repeat walk_at "rs"
      rw [Int.zero_add]
      refine ⟨a, r, w', es, i, rfl, hW.same e1, hok, hi', fun t H2 e2 ht h2 => ?_⟩
      refine rd_lcEnd (e2 _ _ hacc) hl (by omega) ⟨Same.upN (fun b o q => e2 _ _ (e1 _ _ q)) hD, ts ++ [(t, rchL (nsOf es) i)], by rw [List.map_append]; rfl, fun u hu => ?_, hR.snoc rfl⟩
      rcases List.mem_append.mp hu with hu | hu
      · obtain ⟨z1, z2⟩ := hT u hu
        have nD : u.1 ≠ D := ne_of z1 hacc (fun y => nomatch y)
        exact ⟨by rw [upd_ne nD]; exact e2 _ _ z1, z2⟩
      · have z := List.mem_singleton.mp hu
        subst z
        have nD : t ≠ D := fun z => by
          rw [z, hacc] at ht
          cases ht
        exact ⟨by rw [upd_ne nD]; exact h2, Same.free e1 ht⟩
    · rintro acc D H1 hD hl hacc ⟨e1, ts, rfl, hT, hRn, hR⟩
      have hn : ts.length = es.length := by omega
      repeat walk_at "rs"
      refine rd_kLst rfl fun S hS => ?_
      have s2 := Same.new (o := .lst []) hS
      have hS2 := upd_same (H := H1) (a := S) (o := .lst [])
      have e2 : Same H (upd H1 S (.lst [])) := fun b o q => s2 _ _ (e1 _ _ q)
      have hSH : H S = none := Same.free e1 hS
      generalize upd H1 S (.lst []) = H2 at *
      have hD2 := s2 _ _ hacc
      have nSD : D ≠ S := ne_of_none hacc hS
      repeat walk_at "rs"
      refine rd_forE ?_
      repeat walk_at "rs"
      refine rd_kEnum (SqL.of hD2) (fun i σ H' => ∃ v2 v4 v5 us, σ = [some (.ref a), some (.ref D), v2, some (.ref S), v4, v5] ∧ Same H1 H' ∧ H' S = some (.lst (us.map sv)) ∧ (∀ u ∈ us, u ∈ ts) ∧ us.map Prod.snd = clsUp (nsOf es) i)
        ⟨_, _, _, [], rfl, s2, hS2, (fun u hu => nomatch hu), rfl⟩ (fun i σ H' _ ⟨_, _, _, _, _, e, _⟩ => SqL.of (e _ _ hacc)) ?_ ?_
      · rintro i x T0 σ H3 hx ⟨v2, v4, v5, us, rfl, e3, hS3, hus, hcls⟩ hT0
        obtain ⟨t, ht, rfl⟩ := sv_at hx
        have htm := List.mem_of_getElem? ht
        have et := hR i t ht
        have hi' : i < es.length := by
          have := (List.getElem?_eq_some_iff.mp ht).1
          omega
        have nST : S ≠ T0 := ne_of_none hS3 hT0
        have s4 := Same.new (o := .tup [.int (i : Nat), .ref t.1]) hT0
        have hT4 := upd_same (H := H3) (a := T0) (o := .tup [.int (i : Nat), .ref t.1])
        have e4 : Same H1 (upd H3 T0 (.tup [.int (i : Nat), .ref t.1])) := fun b o q => s4 _ _ (e3 _ _ q)
        have hS4 := s4 _ _ hS3
        generalize upd H3 T0 (.tup [.int (i : Nat), .ref t.1]) = H4 at *
        have stq : SqT K H4 T0 [.int (i : Nat), .ref t.1] := SqT.of hT4
        repeat walk_at "rs"
        have ht4 : H4 t.1 = some (.tup ((nz (rchL (nsOf es) i)).map V.int)) := by
          rw [← et]
          exact e4 _ _ (hT t htm).1
        have hself := self_rchL (nss := nsOf es) (x := i) (by omega)
        obtain ⟨h0, rest, ec⟩ : ∃ h0 rest, rchL (nsOf es) i = h0 :: rest := by
          cases q : rchL (nsOf es) i with
          | nil => rw [q] at hself; cases hself
          | cons a b => exact ⟨a, b, rfl⟩
        refine rd_ixT (v := .int (h0 : Int)) (SqT.of ht4) (by rw [ec]; exact atI_nat (j := 0) rfl) ?_
        repeat walk_at "rs"
        have no : ¬ ((rchL (nsOf es) i).head? = some i ∧ ClsAt (nsOf es) i) → ∀ (H' : Hp) (v4 v5 : Option V), Same H1 H' → H' S = some (.lst (us.map sv)) →
            ∃ (v2 v4' v5' : Option V) (us' : List SRow), [some (V.ref a), some (V.ref D), some (V.int (i : Nat)), some (V.ref S), v4, v5] = [some (V.ref a), some (V.ref D), v2, some (V.ref S), v4', v5'] ∧ Same H1 H' ∧ H' S = some (.lst (us'.map sv)) ∧ (∀ u ∈ us', u ∈ ts) ∧ us'.map Prod.snd = clsUp (nsOf es) (i + 1) := fun z H' _ _ eH hSH' =>
          ⟨_, _, _, us, rfl, eH, hSH', hus, by rw [clsUp_no z]; exact hcls⟩
        refine ite_d (fun c1 => ?_) (fun c1 => ?_)
        · have hh : (rchL (nsOf es) i).head? = some i := by
            rw [ec, List.head?_cons, show h0 = i by omega]
          repeat walk_at "rs"
          refine rd_lcU ?_
          repeat walk_at "rs"
          refine rd_kLcU (fun n acc D2 H' => Same H4 H' ∧ acc = (((rchL (nsOf es) i).take n).map fun y => decide (rchL (nsOf es) y = rchL (nsOf es) i)).map V.bl) (SqT.of ht4) (fun D2 hD2 => ⟨Same.new hD2, rfl⟩) (fun n acc D2 H' ⟨e, _⟩ => SqT.of (e _ _ ht4)) ?_ ?_
          · rintro n x acc D2 H5 hD2 hn hx2 hacc2 hl2 ⟨e5, rfl⟩
            obtain ⟨y, hy, rfl⟩ := nz_at hx2
            have hy' : y < ts.length := by
              have := (mem_rchL.mp (List.mem_of_getElem? hy)).1
              omega
            have hu : ts[y]? = some ts[y] := List.getElem?_eq_getElem hy'
            have eu := hR y _ hu
            have hu5 := e5 _ _ (e4 _ _ (hT _ (List.mem_of_getElem? hu)).1)
            rw [eu] at hu5
            repeat walk_at "rs"
            refine ⟨rfl, rd_yes ?_⟩
            repeat walk_at "rs"
            refine rd_ixL (v := .ref ts[y].1) (SqL.of (e5 _ _ (e4 _ _ hacc))) (atI_nat (by rw [List.getElem?_map, hu]; rfl)) ?_
            repeat walk_at "rs"
            refine rd_eqSet (dp_set (SqT.of hu5)) (dp_set (SqT.of (e5 _ _ ht4))) (small _) (small _) ?_
            refine rd_lcTE hacc2 hl2 (by rw [nz_len] at hn; have := rchL_len (nsOf es) i; omega) ⟨Same.upN e5 hD2, ?_⟩
            rw [bl_map_snoc (fun y => decide (rchL (nsOf es) y = rchL (nsOf es) i)), take_snoc hy]
          · rintro acc D2 H5 hD2 hl2 hacc2 ⟨e5, rfl⟩
            rw [nz_len, List.take_length] at hacc2
            have hS5 := e5 _ _ hS4
            have e6 : Same H1 H5 := fun b o q => e5 _ _ (e4 _ _ q)
            repeat walk_at "rs"
            refine rd_all (SqL.of hacc2) ?_
            have eb := all_cls (nsOf es) i
            refine rd_kB ?_
            refine ite_b (fun c2 => ?_) (fun c2 => ?_)
            · have hc : ClsAt (nsOf es) i := eb.mp c2
              repeat walk_at "rs"
              refine rd_kApp hS5 (by rw [List.length_map]; have := clsUp_len (nsOf es) i; rw [← hcls, List.length_map] at this; omega) ?_
              refine ⟨_, _, _, us ++ [t], rfl, Same.upN e6 hS, by rw [upd_same, List.map_append]; rfl, fun u hu => ?_, by rw [clsUp_yes hh hc, List.map_append, hcls, ← et]; rfl⟩
              rcases List.mem_append.mp hu with hu | hu
              · exact hus u hu
              · rw [List.mem_singleton.mp hu]
                exact htm
            · refine no (fun z => ?_) _ _ _ e6 hS5
              have hd := eb.mpr z.2
              rw [c2] at hd
              cases hd
        · refine no (fun z => c1 ?_) _ _ _ e4 hS4
          have := z.1
          rw [ec, List.head?_cons, Option.some.injEq] at this
          rw [this]
      · rintro σ H3 ⟨v2, v4, v5, us, rfl, e3, hS3, hus, hcls⟩
        repeat walk_at "rs"
        rw [List.length_map, hn, ← hlen] at hcls
        exact k S us H3 (fun b o q => e3 _ _ (e1 _ _ q)) hSH ⟨hS3, fun u hu => e3 _ _ (hT u (hus u hu)).1⟩ (fun u hu => (hT u (hus u hu)).2) hcls
structure Bfs (nss : List (List Int)) (x : Nat) (fs : List Nat) (at_ : Nat) : Prop where
  nd : fs.Nodup
  lt : ∀ p ∈ fs, p < nss.length
  st : x ∈ fs
  rc : ∀ p ∈ fs, Rch nss x p
  le : at_ ≤ fs.length
  cl : ∀ i p, i < at_ → fs[i]? = some p → ∀ y, Stp nss p y → y ∈ fs
theorem Bfs.len {nss : List (List Int)} {x : Nat} {fs : List Nat} {a : Nat} (h : Bfs nss x fs a) : fs.length ≤ nss.length := nodup_len h.nd h.lt
theorem Bfs.step {nss : List (List Int)} {x p a : Nat} {fs ext : List Nat} (h : Bfs nss x fs a) (hp : fs[a]? = some p) (hn : (fs ++ ext).Nodup) (hx : ∀ q ∈ ext, q < nss.length ∧ Rch nss x q) (hm : ∀ y, Stp nss p y → y ∈ fs ++ ext) : Bfs nss x (fs ++ ext) (a + 1) := by
  have la := (List.getElem?_eq_some_iff.mp hp).1
  refine ⟨hn, fun q hq => ?_, List.mem_append_left _ h.st, fun q hq => ?_, by rw [List.length_append]; omega, fun i q hi hq y hy => ?_⟩
  · rcases List.mem_append.mp hq with m | m
    · exact h.lt q m
    · exact (hx q m).1
  · rcases List.mem_append.mp hq with m | m
    · exact h.rc q m
    · exact (hx q m).2
  · rw [List.getElem?_append_left (by omega)] at hq
    rcases Nat.lt_or_ge i a with l | l
    · exact List.mem_append_left _ (h.cl i q l hq y hy)
    · have e : i = a := by omega
      subst e
      rw [hp] at hq
      cases hq
      exact hm y hy
theorem Bfs.done {nss : List (List Int)} {x : Nat} {fs : List Nat} {a : Nat} (h : Bfs nss x fs a) (e : fs.length ≤ a) (y : Nat) : y ∈ fs ↔ y < nss.length ∧ Rch nss x y :=
  ⟨fun m => ⟨h.lt y m, h.rc y m⟩, fun m => Rch.in_closed h.st (fun p hp z hz => by
    obtain ⟨i, hi, e'⟩ := List.getElem_of_mem hp
    exact h.cl i p (by omega) (by rw [List.getElem?_eq_getElem hi, e']) z hz) m.2⟩
def spLReached : Sp := fun vs H Q _ => ∃ (l : Addr) (w : Int) (es : List WRow) (x : Nat), vs = [.ref l, .int (x : Int)] ∧ RowsI H l es ∧ RowsOkW w es ∧ x < es.length ∧
  ∀ D ps H', Same H H' → H D = none → H' D = some (.lst ((nz ps).map V.int)) → ps.Nodup → (∀ y, y ∈ ps ↔ y < (nsOf es).length ∧ Rch (nsOf es) x y) → Q (.ref D) H'
abbrev N__law_reached : List Str := ["_law_rows", "_law_place", "_law_found", "_law_at", "_law_to", "_law_number"]
theorem sc__law_reached : FnScope ["_law_rows", "_law_place", "_law_found", "_law_at", "_law_to", "_law_number"] ["_law_rows", "_law_place"] (defScope s__law_reached) := ⟨rfl, rfl, rfl, by decide +kernel, rfl, by decide +kernel, by decide +kernel⟩
theorem ok_lreached {f : Addr} {fd : FuncData} (F : Fun K "_law_reached" "_law_reached" s__law_reached f fd) (T : Tx K mg) : FnOk P w K mg base CX0 1 f fd ["_law_rows", "_law_place"] spLReached := by
  refine F.ok sc__law_reached (fun vs H Q E h => ?_) (fun cdv A outer s H vs Q E hr h => ?_)
  · obtain ⟨l, w', es, x, rfl, _⟩ := h
    rfl
  · obtain ⟨l, w', es, x, rfl, hR, hok, hx, k⟩ := h
    refine ⟨_, (pss_cons (ps_set (i := 2) sc__law_reached.nd rfl (Or.inl rfl) (pe_lst (pa_cons (pv 1) pa_nil)))
 (pss_cons (ps_set (i := 3) sc__law_reached.nd rfl (Or.inl rfl) pe_int)
 (pss_cons (ps_while PassesOwn.never (pt_cmpR op_lt (pv 3) (pe_callB cr_len (by rfl) T.n_len PySem.boot_len (pa_cons (pv 2) pa_nil)) (nomark _)) (pss_cons (ps_for PassesOwn.never rfl (pi_enum (by rfl) T.n_enumerate (pa_cons (pe_ix ix_list (pv 0) (pe_ix ix_list (pv 2) (pv 3) (fun _ _ => rfl)) (fun _ _ => rfl)) pa_nil)) (pg_tup (by rfl) (pgs_cons (pg_name (i := 4) sc__law_reached.nd rfl (Or.inl rfl)) (pgs_cons (pg_name (i := 5) sc__law_reached.nd rfl (Or.inl rfl)) pgs_nil)))
 (pss_one (ps_if (PW.pt (pw_and (pt_cmpR op_gt (pv 5) pe_int (nomark _)) (pw_and1 (pt_cmpR op_notIn_seq (pv 4) (pv 2) (by rfl))))) (pss_one (ps_expr (pe_bm PySem.F.plainAttrs_list PySem.F.slot_list_append PySem.F.type_list_append mt_append (pv 2) (pa_cons (pv 4) pa_nil)))) pss_nil)))
 (pss_one (ps_set (i := 3) sc__law_reached.nd rfl (Or.inl rfl) (pe_op op_add (pv 3) pe_int)))))
 (pss_one (ps_ret (pv 2)))))), ?_⟩
    have hsq := sq_of hok
    have hlen : (nsOf es).length = es.length := List.length_map ..
    obtain ⟨o1, o2, o3⟩ := id hok
    repeat walk_at "rs"
    refine rd_kLst rfl fun l1 hl1 => ?_
    have e1 := Same.new (o := .lst [.int (x : Int)]) hl1
    have h1 : upd H l1 (.lst [.int (x : Int)]) l1 = some (.lst ((nz [x]).map V.int)) := upd_same
    generalize upd H l1 (.lst [.int (x : Int)]) = H1 at *
    repeat walk_at "rs"
    refine while_by (fun σ H' => ∃ v4 v5 fs at_, σ = [some (.ref l), some (.int (x : Int)), some (.ref l1), some (.int (at_ : Nat)), v4, v5] ∧ Same H H' ∧ H' l1 = some (.lst ((nz fs).map V.int)) ∧ Bfs (nsOf es) x fs at_)
      (fun σ H' => match σ with | [_, _, _, some (.int y), _, _] => es.length + 1 - y.toNat | _ => 0) ⟨_, _, [x], 0, rfl, e1, h1, ⟨by simp, by simpa [hlen] using hx, by simp, fun p hp => by rw [List.mem_singleton.mp hp]; exact .refl, Nat.zero_le _, fun i p hi => absurd hi (Nat.not_lt_zero _)⟩⟩ ?_ ?_
    · rintro σ H3 ⟨v4, v5, fs, at_, rfl, e3, q1, S⟩
      have sq1 : SqL K H3 l1 ((nz fs).map V.int) := SqL.of q1
      repeat walk_at "rs"
      rw [nz_len]
      refine ite_d (fun c => ?_) (fun c => ?_)
      · have hat : at_ < fs.length := by omega
        have hp : fs[at_]? = some fs[at_] := List.getElem?_eq_getElem hat
        have hpl : fs[at_] < es.length := by rw [← hlen]; exact S.lt _ (List.getElem_mem hat)
        have hR3 := hR.same e3
        have he : es[fs[at_]]? = some es[fs[at_]] := List.getElem?_eq_getElem hpl
        have hm := List.mem_of_getElem? he
        have hrow := o3 _ hm
        repeat walk_at "rs"
        refine rd_forE ?_
        repeat walk_at "rs"
        refine rd_ixL (SqL.of q1) (atI_nat (by unfold nz; rw [List.getElem?_map, List.getElem?_map, hp]; rfl)) ?_
        refine rd_ixL (SqL.of hR3.1) (atI_nat (by rw [List.getElem?_map, he]; rfl)) ?_
        repeat walk_at "rs"
        refine rd_kEnum (SqL.of (hR3.2 _ hm)) (fun i σ H' => ∃ v4 v5 ext, σ = [some (.ref l), some (.int (x : Int)), some (.ref l1), some (.int (at_ : Nat)), v4, v5] ∧ Same H H' ∧ H' l1 = some (.lst ((nz (fs ++ ext)).map V.int)) ∧ (fs ++ ext).Nodup ∧ (∀ q ∈ ext, q < (nsOf es).length ∧ Rch (nsOf es) x q) ∧ ∀ y, y < i → Stp (nsOf es) fs[at_] y → y ∈ fs ++ ext)
          ⟨_, _, [], rfl, e3, by rw [List.append_nil]; exact q1, by rw [List.append_nil]; exact S.nd, (fun q hq => nomatch hq), fun y hy => absurd hy (Nat.not_lt_zero _)⟩ (fun i σ H' _ ⟨_, _, _, _, e, _⟩ => SqL.of ((hR.same e).2 _ hm)) ?_ ?_
        · rintro i v T0 σ H4 hv ⟨v4, v5, ext, rfl, e4, q4, nd4, hx4, hm4⟩ hT0
          rw [List.getElem?_map] at hv
          obtain ⟨n, hn, rfl⟩ : ∃ n, es[fs[at_]].2[i]? = some n ∧ v = .int n := by
            cases q : es[fs[at_]].2[i]? with
            | none => rw [q] at hv; cases hv
            | some n => rw [q] at hv; exact ⟨n, rfl, (Option.some.inj hv).symm⟩
          have st := stp_iff he hn
          have hi' : i < es.length := by
            have := (List.getElem?_eq_some_iff.mp hn).1
            rw [hrow.1] at this
            exact this
          have s5 := Same.new (o := .tup [.int (i : Nat), .int n]) hT0
          have hT5 := upd_same (H := H4) (a := T0) (o := .tup [.int (i : Nat), .int n])
          have e5 : Same H (upd H4 T0 (.tup [.int (i : Nat), .int n])) := fun b o q => s5 _ _ (e4 _ _ q)
          have q5 := s5 _ _ q4
          generalize upd H4 T0 (.tup [.int (i : Nat), .int n]) = H5 at *
          have stq : SqT K H5 T0 [.int (i : Nat), .int n] := SqT.of hT5
          have lens : (fs ++ ext).length ≤ es.length := by
            rw [← hlen]
            refine nodup_len nd4 fun q hq => ?_
            rcases List.mem_append.mp hq with m | m
            · exact S.lt q m
            · exact (hx4 q m).1
          have no : (Stp (nsOf es) fs[at_] i → i ∈ fs ++ ext) → ∀ v4 v5 : Option V, ∃ (v4' v5' : Option V) (ext' : List Nat), [some (V.ref l), some (V.int (x : Int)), some (V.ref l1), some (V.int (at_ : Nat)), v4, v5] = [some (V.ref l), some (V.int (x : Int)), some (V.ref l1), some (V.int (at_ : Nat)), v4', v5'] ∧ Same H H5 ∧ H5 l1 = some (.lst ((nz (fs ++ ext')).map V.int)) ∧ (fs ++ ext').Nodup ∧ (∀ q ∈ ext', q < (nsOf es).length ∧ Rch (nsOf es) x q) ∧ ∀ y, y < i + 1 → Stp (nsOf es) fs[at_] y → y ∈ fs ++ ext' := fun z _ _ =>
            ⟨_, _, ext, rfl, e5, q5, nd4, hx4, fun y hy s => by
              rcases Nat.lt_or_ge y i with lt | ge
              · exact hm4 y lt s
              · have e : y = i := by omega
                subst e
                exact z s⟩
          repeat walk_at "rs"
          refine ite_d (fun c1 => ?_) (fun c1 => no (fun z => absurd (st.mp z) c1) _ _)
          repeat walk_at "rs"
          refine rd_notInNat (SqL.of q5) ?_
          repeat walk_at "rs"
          refine ite_nd (fun c2 => ?_) (fun c2 => no (fun _ => c2) _ _)
          repeat walk_at "rs"
          refine rd_kApp q5 (by rw [nz_len]; omega) ?_
          refine ⟨_, _, ext ++ [i], rfl, Same.upN e5 hl1, by rw [upd_same, ← List.append_assoc, nz_app (fs ++ ext), List.map_append]; rfl, ?_, fun q hq => ?_, fun y hy s => ?_⟩
          · rw [← List.append_assoc]
            exact List.nodup_append.mpr ⟨nd4, by simp, fun a ha b hb z => c2 (by rw [← List.mem_singleton.mp hb, ← z]; exact ha)⟩
          · rcases List.mem_append.mp hq with m | m
            · exact hx4 q m
            · rw [List.mem_singleton.mp m]
              exact ⟨by omega, (S.rc _ (List.getElem_mem hat)).tail (st.mpr c1)⟩
          · rw [← List.append_assoc]
            rcases Nat.lt_or_ge y i with lt | ge
            · exact List.mem_append_left _ (hm4 y lt s)
            · exact List.mem_append_right _ (by rw [show y = i by omega]; simp)
        · rintro σ H4 ⟨v4, v5, ext, rfl, e4, q4, nd4, hx4, hm4⟩
          rw [List.length_map, hrow.1] at hm4
          repeat walk_at "rs"
          have S2 := S.step hp nd4 hx4 fun y s => hm4 y (by rw [← hlen]; exact s.lt hsq) s
          have l2 := S2.len
          refine ⟨⟨_, _, fs ++ ext, at_ + 1, rfl, e4, q4, S2⟩, ?_⟩
          show es.length + 1 - ((at_ : Int) + 1).toNat < es.length + 1 - ((at_ : Nat) : Int).toNat
          have := S.len
          omega
      · repeat walk_at "rs"
        exact k l1 fs H3 e3 hl1 q1 S.nd (S.done (by omega))
    · rintro σ H Q Q' f ⟨v, e, v2, e2, p, ys, e3, hs, i, j, e4, e5, b, e6, q⟩
      exact ⟨v, e, v2, e2, p, ys, e3, hs, i, j, e4, e5, b, e6, f _ _ q⟩
theorem rch_ne {nss : List (List Int)} {x : Nat} (h : x < nss.length) : rchL nss x ≠ [] := fun z => by
  have := self_rchL h
  rw [z] at this
  cases this
def spLSets : Sp := fun vs H Q _ => ∃ (l : Addr) (w : Int) (es : List WRow), vs = [.ref l] ∧ RowsI H l es ∧ RowsOkW w es ∧
  ∀ D ts H', Same H H' → H D = none → SetsAt H' D ts → (∀ t ∈ ts, H t.1 = none) → ts.map Prod.snd = clsL (nsOf es) → Q (.ref D) H'
abbrev N__law_sets : List Str := ["_law_rows", "_law_reached_here", "_law_place", "_law_found", "_law_places"]
theorem sc__law_sets : FnScope ["_law_rows", "_law_reached_here", "_law_place", "_law_found", "_law_places"] ["_law_rows"] (defScope s__law_sets) := ⟨rfl, rfl, rfl, by decide +kernel, rfl, by decide +kernel, by decide +kernel⟩
theorem ok_lsets {f : Addr} {fd : FuncData} (F : Fun K "_law_sets" "_law_sets" s__law_sets f fd) (T : Tx K mg) (d__law_reached : Df P w K mg base CX0 1 "_law_reached" ["_law_rows", "_law_place"] spLReached) : FnOk P w K mg base CX0 2 f fd ["_law_rows"] spLSets := by
  refine F.ok sc__law_sets (fun vs H Q E h => ?_) (fun cdv A outer s H vs Q E hr h => ?_)
  · obtain ⟨l, w', es, rfl, _⟩ := h
    rfl
  · obtain ⟨l, w', es, rfl, hR, hok, k⟩ := h
    refine ⟨_, (pss_cons (ps_set (i := 1) sc__law_sets.nd rfl (Or.inr rfl) (pe_lc (own := [("_law_place", 2)]) (g := gName 2) (tt := tYes) (te := (tCB (rSorted K) (tCons (tCall (spLReached) [] E0 (tCons (tVar 0) (tCons (tVar 2) tNil))) tNil))) (by rfl) sc__law_sets.nd (pi_range1 (by rfl) T.n_range (pa_cons (pe_callB cr_len (by rfl) T.n_len PySem.boot_len (pa_cons (pv 0) pa_nil)) pa_nil)) (blkOk_by (own := [("_law_place", 2)]) (N := N__law_sets) (sc := defScope s__law_sets) (by decide +kernel)) (fun _ _ _ _ _ => (pg_name (i := 2) sc__law_sets.nd rfl (Or.inl rfl))) (fun _ _ _ _ _ => pts_nil) (fun _ _ _ _ _ => (pe_callB cr_sorted (by rfl) T.n_sorted (by decide +kernel) (pa_cons (pe_df d__law_reached (hr.mono (by decide)) pass0 (pa_cons (pv 0) (pa_cons (pv 2) pa_nil))) pa_nil)))))
 (pss_cons (ps_set (i := 3) sc__law_sets.nd rfl (Or.inl rfl) (pe_lst pa_nil))
 (pss_cons (ps_for PassesOwn.never rfl (pi_list (pv 1)) (pg_name (i := 4) sc__law_sets.nd rfl (Or.inr rfl))
 (pss_one (ps_if (PW.pt (pw_and (pt_cmpR (op_notInD hr.units65) (pe_callTy cr_tupOf (by rfl) T.n_tuple (by decide +kernel) (pa_cons (pv 4) pa_nil)) (pv 3) (by rfl)) (pw_and1 (pt_val (pe_callB (cr_all rfl) (by rfl) T.n_all (by decide +kernel) (pa_cons (pe_lc (own := [("_law_place", 2)]) (g := gName 2) (tt := tYes) (te := (tOp (rEqD K) (tOp (rIxL K) (tVar 1) (tVar 2)) (tVar 4))) (by rfl) sc__law_sets.nd (pi_list (pv 4)) (blkOk_by (own := [("_law_place", 2)]) (N := N__law_sets) (sc := defScope s__law_sets) (by decide +kernel)) (fun _ _ _ _ _ => (pg_name (i := 2) sc__law_sets.nd rfl (Or.inl rfl))) (fun _ _ _ _ _ => pts_nil) (fun _ _ _ _ _ => (pe_cmpR (op_eqD hr.units) (pe_ix ix_list (pv 1) (pv 2) (fun _ _ => rfl)) (pv 4) (nomark _)))) pa_nil)))))) (pss_one (ps_expr (pe_bm PySem.F.plainAttrs_list PySem.F.slot_list_append PySem.F.type_list_append mt_append (pv 3) (pa_cons (pe_callTy cr_tupOf (by rfl) T.n_tuple (by decide +kernel) (pa_cons (pv 4) pa_nil)) pa_nil)))) pss_nil)))
 (pss_one (ps_ret (pe_callB (cr_sortedTup hr.units) (by rfl) T.n_sorted (by decide +kernel) (pa_cons (pv 3) pa_nil))))))), ?_⟩
    have hsq := sq_of hok
    have hlen : (nsOf es).length = es.length := List.length_map ..
    obtain ⟨o1, o2, o3⟩ := id hok
    have small := rch_small o2
    have sl : SqL K H l (es.map wv) := SqL.of hR.1
    repeat walk_at "rs"
    rw [List.length_map]
    refine ⟨_, rfl, by omega, by omega, rd_kLcN (fun i acc D H' => Same H H' ∧ ∃ ts : List SRow, acc = ts.map sv ∧ (∀ t ∈ ts, H' t.1 = some (.lst ((nz t.2).map V.int)) ∧ H t.1 = none ∧ t.1 ≠ D) ∧ RchAt (nsOf es) i ts)
      (fun D hD => ⟨Same.new hD, [], rfl, (fun t ht => nomatch ht), rfl, fun i t h => nomatch h⟩) ?_ (g_mono _ _) ?_⟩
    · rintro i acc D H1 hD hi hacc hl ⟨e1, ts, rfl, hT, hRn⟩
      have hi' : i < es.length := by omega
      repeat walk_at "rs"
      refine ⟨rfl, ?_⟩
      repeat walk_at "rs"
      rw [Int.zero_add]
      refine ⟨l, w', es, i, rfl, hR.same e1, hok, hi', fun D1 ps H2 e2 hD1 h2 nd hm => ?_⟩
      have lps : ps.length ≤ es.length := by
        rw [← hlen]
        exact nodup_len nd fun q hq => ((hm q).mp hq).1
      refine rd_sorted (ns := nz ps) (SqL.of h2) (by rw [show (nz ps).length = ps.length from List.length_map ..]; omega) fun ks p hperm hs hp => ?_
      have ek := rchL_of hperm hs nd hm
      subst ek
      have e3 : Same H1 (upd H2 p (.lst ((nz (rchL (nsOf es) i)).map V.int))) := fun b o q => Same.new hp _ _ (e2 _ _ q)
      have hp1 : H1 p = none := Same.free e2 hp
      refine rd_lcEnd (e3 _ _ hacc) hl (by omega) ⟨Same.upN (fun b o q => e3 _ _ (e1 _ _ q)) hD, ts ++ [(p, rchL (nsOf es) i)], by rw [List.map_append]; rfl, fun u hu => ?_, hRn.snoc rfl⟩
      rcases List.mem_append.mp hu with hu | hu
      · obtain ⟨z1, z2, nD⟩ := hT u hu
        exact ⟨by rw [upd_ne nD]; exact e3 _ _ z1, z2, nD⟩
      · have z := List.mem_singleton.mp hu
        subst z
        have nD : p ≠ D := fun z => by
          rw [z, hacc] at hp1
          cases hp1
        exact ⟨by rw [upd_ne nD]; exact upd_same, Same.free e1 hp1, nD⟩
    · rintro acc D H1 hD hl hacc ⟨e1, ts, rfl, hT, hRn, hRt⟩
      have hn : ts.length = es.length := by omega
      repeat walk_at "rs"
      refine rd_kLst rfl fun S hS => ?_
      have s2 := Same.new (o := .lst []) hS
      have hS2 := upd_same (H := H1) (a := S) (o := .lst [])
      have hSH : H S = none := Same.free e1 hS
      generalize upd H1 S (.lst []) = H2 at *
      repeat walk_at "rs"
      refine rd_kFor (xs := ts.map sv) (fun i σ H' => ∃ v2 v4 us, σ = [some (.ref l), some (.ref D), v2, some (.ref S), v4] ∧ Same H1 H' ∧ SetsAt H' S us ∧ (∀ u ∈ us, H1 u.1 = none) ∧ us.map Prod.snd = clsUp (nsOf es) i)
        (SqL.of (s2 _ _ hacc)) ⟨_, _, [], rfl, s2, ⟨hS2, fun u hu => nomatch hu⟩, (fun u hu => nomatch hu), rfl⟩ (fun i σ H' _ ⟨_, _, _, _, e, _⟩ => SqL.of (e _ _ hacc)) ?_ ?_
      · rintro i x σ H3 hx ⟨v2, v4, us, rfl, e3, hS3, hus, hcls⟩
        obtain ⟨t, ht, rfl⟩ := sv_at hx
        have htm := List.mem_of_getElem? ht
        have et := hRt i t ht
        have hi' : i < es.length := by
          have := (List.getElem?_eq_some_iff.mp ht).1
          omega
        have hil : i < (nsOf es).length := by omega
        have ht1 := (hT t htm).1
        rw [et] at ht1
        have ht3 := e3 _ _ ht1
        have hlus : us.length ≤ i := by
          have := clsUp_len (nsOf es) i
          rw [← hcls, List.length_map] at this
          exact this
        have hus2 : ∀ t ∈ us, t.2.length ≤ 1000 ∧ ∀ p ∈ t.2, p < 1000000 := fun t ht => by
          have m : t.2 ∈ clsUp (nsOf es) i := by
            rw [← hcls]
            exact List.mem_map_of_mem ht
          obtain ⟨y, _, _, _, e⟩ := mem_clsUp.mp m
          rw [← e]
          exact ⟨by have := rchL_len (nsOf es) y; omega, small y⟩
        have no : ¬ ((rchL (nsOf es) i).head? = some i ∧ ClsAt (nsOf es) i) → ∀ (H' : Hp) (v2 v4 : Option V), Same H1 H' → SetsAt H' S us →
            ∃ (v2' v4' : Option V) (us' : List SRow), [some (V.ref l), some (V.ref D), v2, some (V.ref S), v4] = [some (V.ref l), some (V.ref D), v2', some (V.ref S), v4'] ∧ Same H1 H' ∧ SetsAt H' S us' ∧ (∀ u ∈ us', H1 u.1 = none) ∧ us'.map Prod.snd = clsUp (nsOf es) (i + 1) := fun z _ _ _ e h => ⟨_, _, us, rfl, e, h, hus, by rw [clsUp_no z]; exact hcls⟩
        repeat walk_at "rs"
        refine rd_tupOf (SqL.of ht3) fun T0 hT0 => ?_
        have s4 := Same.new (o := .tup ((nz (rchL (nsOf es) i)).map V.int)) hT0
        have hT4 := upd_same (H := H3) (a := T0) (o := .tup ((nz (rchL (nsOf es) i)).map V.int))
        have e4 : Same H1 (upd H3 T0 (.tup ((nz (rchL (nsOf es) i)).map V.int))) := fun b o q => s4 _ _ (e3 _ _ q)
        have hS4 := hS3.same s4
        generalize upd H3 T0 (.tup ((nz (rchL (nsOf es) i)).map V.int)) = H4 at *
        repeat walk_at "rs"
        refine rd_notInSet (dp_set (SqT.of hT4)) hS4 (small i) hus2 ?_
        rw [hcls]
        repeat walk_at "rs"
        refine ite_nd (fun c1 => ?_) (fun c1 => no (fun z => (cls_new hil z.2).mpr z.1 c1) _ _ _ e4 hS4)
        repeat walk_at "rs"
        refine rd_kLc (fun n acc D2 H' => Same H4 H' ∧ acc = (((rchL (nsOf es) i).take n).map fun y => decide (rchL (nsOf es) y = rchL (nsOf es) i)).map V.bl) (SqL.of (e4 _ _ ht1)) (fun D2 hD2 => ⟨Same.new hD2, rfl⟩) (fun n acc D2 H' ⟨e, _⟩ => SqL.of (e _ _ (e4 _ _ ht1))) ?_ (g_mono _ _) ?_
        · rintro n x acc D2 H5 hD2 hn' hx2 hacc2 hl2 ⟨e5, rfl⟩
          obtain ⟨y, hy, rfl⟩ := nz_at hx2
          have hy' : y < ts.length := by
            have := (mem_rchL.mp (List.mem_of_getElem? hy)).1
            omega
          have hu : ts[y]? = some ts[y] := List.getElem?_eq_getElem hy'
          have eu := hRt y _ hu
          have hu5 := e5 _ _ (e4 _ _ (hT _ (List.mem_of_getElem? hu)).1)
          rw [eu] at hu5
          repeat walk_at "rs"
          refine ⟨rfl, ?_⟩
          repeat walk_at "rs"
          refine rd_ixL (v := .ref ts[y].1) (SqL.of (e5 _ _ (e4 _ _ hacc))) (atI_nat (by rw [List.getElem?_map, hu]; rfl)) ?_
          repeat walk_at "rs"
          refine rd_eqList (dp_listD (SqL.of hu5)) (dp_listD (SqL.of (e5 _ _ (e4 _ _ ht1)))) (small _) (small _) ?_
          refine rd_lcEnd hacc2 hl2 (by rw [nz_len] at hn'; have := rchL_len (nsOf es) i; omega) ⟨Same.upN e5 hD2, ?_⟩
          rw [bl_map_snoc (fun y => decide (rchL (nsOf es) y = rchL (nsOf es) i)), take_snoc hy]
        · rintro acc D2 H5 hD2 hl2 hacc2 ⟨e5, rfl⟩
          rw [nz_len, List.take_length] at hacc2
          have hS5 := hS4.same e5
          have e6 : Same H1 H5 := fun b o q => e5 _ _ (e4 _ _ q)
          repeat walk_at "rs"
          refine rd_all (SqL.of hacc2) ?_
          have eb := all_cls (nsOf es) i
          refine rd_kB ?_
          refine ite_b (fun c2 => ?_) (fun c2 => ?_)
          · have hc : ClsAt (nsOf es) i := eb.mp c2
            have hh := (cls_new hil hc).mp c1
            repeat walk_at "rs"
            refine rd_app rfl hS5.1 ?_
            repeat walk_at "rs"
            refine rd_tupOf (SqL.of (e6 _ _ ht1)) fun T1 hT1 => ?_
            have s7 := Same.new (o := .tup ((nz (rchL (nsOf es) i)).map V.int)) hT1
            have hT7 := upd_same (H := H5) (a := T1) (o := .tup ((nz (rchL (nsOf es) i)).map V.int))
            have e7 : Same H1 (upd H5 T1 (.tup ((nz (rchL (nsOf es) i)).map V.int))) := fun b o q => s7 _ _ (e6 _ _ q)
            have hS7 := hS5.same s7
            generalize upd H5 T1 (.tup ((nz (rchL (nsOf es) i)).map V.int)) = H7 at *
            refine rd_kApp hS7.1 (by rw [List.length_map]; omega) ?_
            refine ⟨_, _, us ++ [(T1, rchL (nsOf es) i)], rfl, Same.upN e7 hS, ⟨by rw [upd_same, List.map_append]; rfl, fun u hu => ?_⟩, fun u hu => ?_, by rw [clsUp_yes hh hc, List.map_append, hcls]; rfl⟩
            · rcases List.mem_append.mp hu with hu | hu
              · rw [upd_ne (ne_of (hS7.2 u hu) hS7.1 (fun y => nomatch y))]
                exact hS7.2 u hu
              · have z := List.mem_singleton.mp hu
                subst z
                rw [upd_ne (ne_of hT7 hS7.1 (fun y => nomatch y))]
                exact hT7
            · rcases List.mem_append.mp hu with hu | hu
              · exact hus u hu
              · have z := List.mem_singleton.mp hu
                subst z
                exact Same.free e6 hT1
          · refine no (fun z => ?_) _ _ _ e6 hS5
            have hd := eb.mpr z.2
            rw [c2] at hd
            cases hd
      · rintro σ H3 ⟨v2, v4, us, rfl, e3, hS3, hus, hcls⟩
        rw [List.length_map, hn, ← hlen] at hcls
        repeat walk_at "rs"
        refine rd_sortedS hS3 (by rw [hcls]; exact clsUp_pw _ _) (fun u hu => ?_) fun p hp => ?_
        · have m : u.2 ∈ clsUp (nsOf es) (nsOf es).length := by
            rw [← hcls]
            exact List.mem_map_of_mem hu
          obtain ⟨y, hy, _, _, e⟩ := mem_clsUp.mp m
          rw [← e]
          exact rch_ne hy
        · have e4 : Same H (upd H3 p (.lst (us.map sv))) := fun b o q => Same.new hp _ _ (e3 _ _ (e1 _ _ q))
          have hpH : H p = none := Same.free e1 (Same.free e3 hp)
          exact k p us _ e4 hpH ⟨upd_same, fun u hu => Same.new hp _ _ (hS3.2 u hu)⟩ (fun u hu => Same.free e1 (hus u hu)) hcls
/-- from i to i alone -/
def unitRow (n : Nat) (w : Int) (i : Nat) : List Int := (List.range n).map fun t : Nat => w * (if decide ((t : Int) = (i : Int)) = true then 1 else 0)
theorem unit_sum (w : Int) (i : Nat) : ∀ n : Nat, (unitRow n w i).sum = if i < n then w else 0
  | 0 => by simp [unitRow]
  | n + 1 => by
    have ih := unit_sum w i n
    unfold unitRow at ih ⊢
    rw [List.range_succ, List.map_append, List.sum_append, ih]
    simp only [List.map_cons, List.map_nil, List.sum_cons, List.sum_nil, decide_eq_true_eq]
    rcases Nat.lt_trichotomy i n with h | h | h
    · rw [if_pos h, if_neg (by omega), if_pos (by omega)]
      omega
    · subst h
      rw [if_neg (by omega), if_pos rfl, if_pos (by omega)]
      omega
    · rw [if_neg (by omega), if_neg (by omega), if_neg (by omega)]
      omega
theorem unit_ok {n i : Nat} {w : Int} (h : i < n) (hw : 0 ≤ w) : RowOk n w (unitRow n w i) := by
  refine ⟨by unfold unitRow; rw [List.length_map, List.length_range], by rw [unit_sum, if_pos h], fun x hx => ?_⟩
  unfold unitRow at hx
  obtain ⟨t, _, rfl⟩ := List.mem_map.mp hx
  split
  · omega
  · omega
theorem cls_small {es : List WRow} (h : es.length ≤ 32) : ∀ ps ∈ clsL (nsOf es), ps.length ≤ 32 ∧ ∀ p ∈ ps, p < 1000000 := fun ps hps => by
  obtain ⟨x, _, _, _, rfl⟩ := mem_clsUp.mp hps
  have := rchL_len (nsOf es) x
  rw [List.length_map] at this
  exact ⟨by omega, rch_small h x⟩
theorem nice_cls {es : List WRow} (h : es.length ≤ 32) : ∃ k, k ≤ 1057 ∧ Nice (setsD (clsL (nsOf es))) k 2 := nice_sets (N := 32) (M := 1056) (cls_small h) (by
  have : (clsL (nsOf es)).length ≤ (nsOf es).length := clsUp_len _ _
  rw [List.length_map] at this
  omega)
abbrev N_law : List Str := ["_law_script", "_law_cell", "_law_well_here", "_law_whole", "_law_rows", "_law_place", "_law_to", "_law_walk_here", "_law_due", "_law_turn", "_law_found"]
theorem sc_law : FnScope ["_law_script", "_law_cell", "_law_well_here", "_law_whole", "_law_rows", "_law_place", "_law_to", "_law_walk_here", "_law_due", "_law_turn", "_law_found"] ["_law_script"] (defScope s_law) := ⟨rfl, rfl, rfl, by decide +kernel, rfl, by decide +kernel, by decide +kernel⟩
theorem ok_law {f C_Share C_NoShare C_Walk : Addr} {t1 t2 : Tok} {fd : FuncData} (F : Fun K "law" "law" s_law f fd) (T : TW K mg C_Share C_NoShare C_Walk t1 t2) (m_Walk : Md P w K mg base CX0 4 C_Walk ["self", "whole", "rows"] [] (spWalkInit K C_Walk))
    (d__law_well : Df P w K mg base CX0 1 "_law_well" ["_law_cell"] spWell) (d__law_draw : Df P w K mg base CX0 1 "_law_draw" ["_law_well_here", "_law_many"] spDraw) (d__law_one : Df P w K mg base CX0 2 "_law_one" ["_law_well_here", "_law_some"] (spOne K)) (d__law_walk : Df P w K mg base CX0 3 "_law_walk" ["_law_well_here", "_law_most"] spWalkD)
    (d__law_sets : Df P w K mg base CX0 2 "_law_sets" ["_law_rows"] spLSets) (d_closed_sets : Df P w K mg base CX0 4 "closed_sets" ["walk"] (spClosed C_Walk)) : FnG P w K mg base CX0 6 f fd ["_law_script"] (spLaw K) := by
  refine okG F sc_law (fun vs H Q E h => ?_) (fun cdv A outer s H vs Q E hg hr h => ?_)
  · obtain ⟨a, ns, rfl, _⟩ := h
    rfl
  · obtain ⟨a, ns, rfl, hS, hlen, k⟩ := h
    refine ⟨_, (pss_cons (ps_for PassesOwn.never rfl (pi_list (pe_op op_cat (pe_slice sl_list (pv 0) po_none (po_some pe_int)) (pe_lst (pa_cons pe_int (pa_cons pe_int pa_nil))))) (pg_name (i := 1) sc_law.nd rfl (Or.inl rfl))
 (pss_cons (ps_set (i := 2) sc_law.nd rfl (Or.inr rfl) (pe_df d__law_well (hr.mono (by decide)) pass0 (pa_cons (pv 1) pa_nil)))
 (pss_cons (ps_asg (pe_df d__law_walk (hr.mono (by decide)) pass0 (pa_cons (pv 2) (pa_cons (pe_df d__law_one (hr.mono (by decide)) pass0 (pa_cons (pv 2) (pa_cons (pe_lst (pa_cons pe_int (pa_cons pe_int (pa_cons pe_int (pa_cons pe_int pa_nil))))) pa_nil))) pa_nil))) (pg_tup (by rfl) (pgs_cons (pg_name (i := 3) sc_law.nd rfl (Or.inr rfl)) (pgs_cons (pg_name (i := 4) sc_law.nd rfl (Or.inr rfl)) pgs_nil))))
 (pss_cons (ps_if (pt_cmpR op_eq (pe_df d__law_draw (hr.mono (by decide)) pass0 (pa_cons (pv 2) (pa_cons pe_int pa_nil))) pe_int (nomark _)) (pss_one (ps_set (i := 4) sc_law.nd rfl (Or.inr rfl) (pe_lc (own := [("_law_place", 5)]) (g := gName 5) (tt := tYes) (te := (tIf (tTest (tOp (rI0 fun i j => V.bl (decide (j < i))) (tCall (spDraw) [] E0 (tCons (tVar 2) (tCons (tC (V.int (3))) tNil))) (tC (V.int (0))))) (tOp (rIxL K) (tVar 4) (tVar 5)) (tLc (iRng1 (tCons (tCB (rLen K) (tCons (tVar 4) tNil)) tNil)) (gName 6) tYes (tOp rMulA (tVar 3) (tCB rInt (tCons (tOp rEq (tVar 6) (tVar 5)) tNil))) [6]))) (by rfl) sc_law.nd (pi_range1 (by rfl) T.n_range (pa_cons (pe_callB cr_len (by rfl) T.n_len PySem.boot_len (pa_cons (pv 4) pa_nil)) pa_nil)) (blkOk_by (own := [("_law_place", 5)]) (N := N_law) (sc := defScope s_law) (by decide +kernel)) (fun _ _ _ _ _ => (pg_name (i := 5) sc_law.nd rfl (Or.inr rfl))) (fun _ _ _ _ _ => pts_nil) (fun _ _ _ _ _ => (pe_ifExp (pt_cmpR op_gt (pe_df d__law_draw (hr.mono (by decide)) pass0 (pa_cons (pv 2) (pa_cons pe_int pa_nil))) pe_int (nomark _)) (pe_ix ix_list (pv 4) (pv 5) (fun _ _ => rfl)) (pe_lc (own := [("_law_to", 6)]) (g := gName 6) (tt := tYes) (te := (tOp rMulA (tVar 3) (tCB rInt (tCons (tOp rEq (tVar 6) (tVar 5)) tNil)))) (by rfl) sc_law.nd (pi_range1 (by rfl) T.n_range (pa_cons (pe_callB cr_len (by rfl) T.n_len PySem.boot_len (pa_cons (pv 4) pa_nil)) pa_nil)) (blk_in (own := [("_law_to", 6)]) (N := N_law) (sc := defScope s_law) rfl (by decide +kernel)) (fun _ _ _ _ _ => (pg_name (i := 6) sc_law.nd rfl (Or.inl rfl))) (fun _ _ _ _ _ => pts_nil) (fun _ _ _ _ _ => (pe_op op_mulA (pv 3) (pe_callTy cr_int (by rfl) T.n_int (by decide +kernel) (pa_cons (pe_cmpR op_eq (pv 6) (pv 5) (nomark _)) pa_nil)))))))))) pss_nil)
 (pss_cons (ps_set (i := 7) sc_law.nd rfl (Or.inl rfl) (pe_mkd m_Walk (hr.mono (by decide)) T.g_Walk pass0 (pa_cons (pv 3) (pa_cons (pv 4) pa_nil))))
 (pss_cons (ps_set (i := 8) sc_law.nd rfl (Or.inl rfl) (pe_df d__law_sets (hr.mono (by decide)) pass0 (pa_cons (pv 4) pa_nil)))
 (pss_cons (ps_for PassesOwn.never rfl (pi_range1 (by rfl) T.n_range (pa_cons pe_int pa_nil)) (pg_name (i := 9) sc_law.nd rfl (Or.inl rfl))
 (pss_cons (ps_set (i := 10) sc_law.nd rfl (Or.inl rfl) (pe_df d_closed_sets (hr.mono (by decide)) pass0 (pa_cons (pv 7) pa_nil)))
 (pss_cons (ps_if (PW.pt (pw_or (pt_not (pt_val (pe_callB call_isi (by rfl) T.n_isinstance (by decide +kernel) (pa_cons (pv 10) (pa_cons (pe_bltn (v := .ty "list") (by rfl) T.n_list (by decide +kernel) rfl) pa_nil))))) (pw_or1 (pt_cmpR op_ne (pe_callB (cr_repr hr.units hg) (by rfl) T.n_repr (by decide +kernel) (pa_cons (pv 10) pa_nil)) (pe_callB (cr_repr hr.units hg) (by rfl) T.n_repr (by decide +kernel) (pa_cons (pv 8) pa_nil)) (nomark _))))) (pss_one (ps_ret pe_bl)) pss_nil)
 (pss_cons (ps_expr (pe_bm PySem.F.plainAttrs_list PySem.F.slot_list_append PySem.F.type_list_append mt_append (pv 10) (pa_cons (pe_tup (pa_cons pe_int pa_nil)) pa_nil)))
 (pss_one (ps_expr (pe_bm0 PySem.F.plainAttrs_list PySem.F.slot_list_reverse PySem.F.type_list_reverse mt_reverse (pv 10))))))))
 (pss_one (ps_if (pt_cmpR (op_neD hr.units) (pe_fld (pv 7) rfl) (pv 4) (nomark _)) (pss_one (ps_ret pe_bl)) pss_nil)))))))))
 (pss_one (ps_ret pe_bl))), ?_⟩
    repeat walk_at "rg"
    refine rd_slL hS fun l1 hl1 => ?_
    repeat walk_at "rg"
    refine rd_kLst rfl fun l2 hl2 => ?_
    have n12 : l1 ≠ l2 := ne_of_none upd_same hl2
    have hc : (cutV (ns.map V.int) none (some 12)).length ≤ 63 := Nat.le_trans (cutV_length _ _ _) (by rw [List.length_map]; exact hlen)
    refine rd_cat (by rw [upd_ne n12]; exact upd_same) upd_same (Nat.le_trans (Nat.add_le_add_right hc 2) (by decide)) fun l3 hl3 => ?_
    repeat walk_at "rg"
    refine rd_kFor (xs := cutV (ns.map V.int) none (some 12) ++ [.int 0, .int 1]) (fun i σ H' => ∃ v1 v2 v3 v4 v5 v6 v7 v8 v9 v10, σ = [some (.ref a), v1, v2, v3, v4, v5, v6, v7, v8, v9, v10] ∧ H' l3 = some (.lst (cutV (ns.map V.int) none (some 12) ++ [.int 0, .int 1])))
      (SqL.of upd_same) ⟨_, _, _, _, _, _, _, _, _, _, rfl, upd_same⟩ (fun i σ H' _ ⟨_, _, _, _, _, _, _, _, _, _, _, h⟩ => SqL.of h) ?_ ?_
    · rintro i x σ H' hi ⟨v1, v2, v3, v4, v5, v6, v7, v8, v9, v10, rfl, hL⟩
      obtain ⟨z, rfl⟩ := cells_int hi
      clear hi
      generalize cutV (ns.map V.int) none (some 12) ++ [V.int 0, V.int 1] = cells at hL
      repeat walk_at "rg"
      refine ⟨z, rfl, fun p H1 hp e1 w1 => ?_⟩
      have np : l3 ≠ p := ne_of_none hL hp
      replace hL := e1 _ _ hL
      repeat walk_at "rg"
      refine rd_kLst rfl fun m1 hm1 => ?_
      have s1 := Same.new (o := .lst [.int 7, .int 7, .int 7, .int 32]) hm1
      repeat walk_at "rg"
      refine ⟨p, m1, _, _, rfl, w1.same s1, by omega, SqL.of upd_same, w1.ne_new hm1, Nat.le_of_ble_eq_true rfl, Nat.le_of_ble_eq_true rfl, fun v H2 hv e2 w2 => ?_⟩
      replace hL := e2 _ _ np (s1 _ _ hL)
      obtain ⟨t, rfl, t0, tm⟩ : ∃ t : Int, v = .int t ∧ 1 ≤ t ∧ t ≤ 32 := by
        simp only [List.mem_cons, List.not_mem_nil, or_false] at hv
        rcases hv with rfl | rfl | rfl | rfl <;> exact ⟨_, rfl, by decide, by decide⟩
      repeat walk_at "rg"
      refine ⟨p, t, _, rfl, w2, by omega, t0, tm, fun T0 l w' es H3 e3 w3 hT hw1 hw2 hR hok hmost nl nes fl fes => ?_⟩
      replace hL := e3 _ _ np hL
      have st : SqT K H3 T0 [.int w', .ref l] := SqT.of hT
      obtain ⟨o1, o2, o3⟩ := id hok
      repeat walk_at "rg"
      refine rd_if2 (fun σ H4 => ∃ (v5 v6 v7 v8 v9 v10 : Option V) (l : Addr) (es : List WRow), σ = [some (.ref a), some (.int z), some (.ref p), some (.int w'), some (.ref l), v5, v6, v7, v8, v9, v10] ∧ RowsI H4 l es ∧ RowsOkW w' es ∧ H4 l3 = some (.lst cells)) ?_ fun rest => ?_
      · clear hR hok o1 o2 o3 hmost nes fes st hT e3 w3 hL e1 w1 s1 hm1 e2 w2 hv
        rintro σ H5 ⟨v5, v6, v7, v8, v9, v10, l, es, rfl, hR, hok, hL⟩
        obtain ⟨o1, o2, o3⟩ := id hok
        obtain ⟨kn, hkn, hNice⟩ := nice_cls (es := es) o2
        repeat walk_at "rf"
        refine rd_walk hw1 hw2 hR hok fun W r es' H6 hW e6 hWk hS6 hr6 hE6 => ?_
        replace hL := e6 _ _ hL
        replace hR := hR.same e6
        clear e6 hW hr6 hE6
        repeat walk_at "rf"
        refine ⟨l, w', es, rfl, hR, hok, fun D ts H7 e7 hD hT7 _ hts => ?_⟩
        replace hL := e7 _ _ hL
        replace hR := hR.same e7
        replace hWk := hWk.same e7
        clear e7 hD
        have nsE : nsOf es' = nsOf es := hS6
        repeat walk_at "rf"
        refine rd_kRng1 (by omega) (by omega) (fun i σ H' => ∃ v9 v10, σ = [some (.ref a), some (.int z), some (.ref p), some (.int w'), some (.ref l), v5, v6, some (.ref W), some (.ref D), v9, v10] ∧ Same H7 H') ⟨_, _, rfl, fun b o q => q⟩ ?_ ?_
        · rintro i σ H8 hi ⟨v9, v10, rfl, e8⟩
          repeat walk_at "rf"
          refine ⟨W, r, w', es', rfl, hWk.same e8, rows_ok_of hok hS6, fun L us H9 e9 hL9 hU _ hus => ?_⟩
          have hL7 : H7 L = none := Same.free e8 hL9
          have e10 : Same H7 H9 := fun b o q => e9 _ _ (e8 _ _ q)
          repeat walk_at "rf"
          refine rd_isi (b := true) (ClsV.ty _) (.base (.lst hU.1)) (kit_same (by rfl)) ?_
          repeat walk_at "rf"
          refine iteF ?_
          repeat walk_at "rf"
          refine rd_reprN (dp_sets hU) (by rw [hus, nsE]; exact hNice) (by omega) (by omega) ?_
          repeat walk_at "rf"
          refine rd_reprN (dp_sets (hT7.same e10)) (by rw [hts]; exact hNice) (by omega) (by omega) ?_
          refine rd_ne rfl ?_
          rw [hus, hts, nsE, decide_eq_true rfl]
          repeat walk_at "rf"
          refine iteF ?_
          repeat walk_at "rf"
          have lus : us.length ≤ 32 := by
            have : us.length = (clsL (nsOf es')).length := by rw [← hus, List.length_map]
            have g : (clsL (nsOf es')).length ≤ (nsOf es').length := clsUp_len _ _
            rw [nsE, List.length_map] at g
            rw [nsE] at this
            omega
          refine rd_app rfl hU.1 ?_
          repeat walk_at "rf"
          refine rd_kTup rfl fun T1 hT1 => ?_
          have s11 := Same.new (o := .tup [.int 0]) hT1
          have e11 : Same H7 (upd H9 T1 (.tup [.int 0])) := fun b o q => s11 _ _ (e10 _ _ q)
          have hU11 := s11 _ _ hU.1
          generalize upd H9 T1 (.tup [.int 0]) = H11 at *
          refine rd_kApp hU11 (by rw [List.length_map]; omega) ?_
          have e12 := Same.upN (o := .lst (us.map sv ++ [.ref T1])) e11 hL7
          have hU12 := upd_same (H := H11) (a := L) (o := .lst (us.map sv ++ [.ref T1]))
          generalize upd H11 L (.lst (us.map sv ++ [.ref T1])) = H12 at *
          repeat walk_at "rf"
          refine ⟨.ref L, rfl, .inl ⟨rfl, _, SqL.of hU12⟩, L, _, rfl, rfl, hU12, ?_⟩
          exact ⟨_, _, rfl, Same.upN e12 hL7⟩
        · rintro σ H8 ⟨v9, v10, rfl, e8⟩
          obtain ⟨⟨dx, hA⟩, hWR⟩ := hWk.same e8
          obtain ⟨kr, hkr, hNr⟩ := nice_rowsD hw2 hok
          repeat walk_at "rf"
          refine rd_kFld hA T.cl_Walk T.nRows (wF_rows _ _) ?_
          repeat walk_at "rf"
          refine rd_neDs (dp_rows hWR) (by rw [hS6]; exact dp_rows (hR.same e8)) (by rw [hS6]; exact hNr) (by omega) ?_
          repeat walk_at "rf"
          refine iteF ?_
          exact ⟨_, _, _, _, _, _, _, _, _, _, rfl, e8 _ _ hL⟩
      · repeat walk_at "rg"
        refine ⟨p, 3, _, rfl, w3, by omega, by decide, by decide, fun r H4 r0 r1 e4 w4 => ?_⟩
        have hR4 : RowsI H4 l es := ⟨e4 _ _ nl hR.1, fun e he => e4 _ _ (nes e he) (hR.2 e he)⟩
        replace hL := e4 _ _ np hL
        clear st hT hR
        repeat walk_at "rg"
        refine ite_d (fun c => ?_) (fun c => ?_)
        · have sl4 : SqL K H4 l (es.map wv) := SqL.of hR4.1
          repeat walk_at "rg"
          rw [List.length_map]
          refine ⟨_, rfl, by omega, by omega, rd_kLcN (fun i acc D H' => ∃ rs : List WRow, acc = rs.map wv ∧ But p H4 H' ∧ WellAt H' p (0 + 1 + 500 + 1 + i) ∧ D ≠ p ∧ ∀ e ∈ rs, H' e.1 = some (.lst (e.2.map V.int)) ∧ e.1 ≠ p ∧ e.1 ≠ D ∧ RowOk es.length w' e.2)
            (fun D hD => ⟨[], rfl, sbut (Same.new hD), w4.same (Same.new hD), w4.ne_new hD, fun e he => nomatch he⟩) ?_ (g_mono _ _) ?_⟩
          · rintro i acc D H5 hD hi hacc hl ⟨rs, rfl, b5, w5, nD, hE⟩
            have hi' : i < es.length := by omega
            have npD : D ≠ p := nD
            repeat walk_at "rg"
            refine ⟨rfl, ?_⟩
            refine (show tTest _ _ _ _ from ?_)
            repeat walk_at "rg"
            refine ⟨p, 3, _, rfl, w5, by omega, by decide, by decide, fun q H6 q0 q1 e6 w6 => ?_⟩
            have b6 := b5.trans e6
            have hacc6 := e6 _ _ nD hacc
            have done : ∀ (y : WRow) (H7 : Hp), Same H6 H7 → H7 y.1 = some (.lst (y.2.map V.int)) → y.1 ≠ p → y.1 ≠ D → RowOk es.length w' y.2 → kLcEnd (fun i acc D H' => ∃ rs : List WRow, acc = rs.map wv ∧ But p H4 H' ∧ WellAt H' p (0 + 1 + 500 + 1 + i) ∧ D ≠ p ∧ ∀ e ∈ rs, H' e.1 = some (.lst (e.2.map V.int)) ∧ e.1 ≠ p ∧ e.1 ≠ D ∧ RowOk es.length w' e.2) D i (.ref y.1) H7 := fun y H7 e7 hy ny nyD oy =>
              rd_lcEnd (e7 _ _ hacc6) hl (by omega) ⟨rs ++ [y], by rw [List.map_append]; rfl, (b6.trans (sbut e7)).updS hD, (w6.same e7).off nD, nD, fun e he => by
                rcases List.mem_append.mp he with he | he
                · obtain ⟨a1, a2, a3, a4⟩ := hE e he
                  exact ⟨by rw [upd_ne a3]; exact e7 _ _ (e6 _ _ a2 a1), a2, a3, a4⟩
                · rw [List.mem_singleton.mp he]
                  exact ⟨by rw [upd_ne nyD]; exact hy, ny, nyD, oy⟩⟩
            repeat walk_at "rg"
            refine ite_d (fun c2 => ?_) (fun c2 => ?_)
            · have he : es[i]? = some es[i] := List.getElem?_eq_getElem hi'
              have hm := List.mem_of_getElem? he
              repeat walk_at "rg"
              rw [Int.zero_add]
              refine rd_ixL (v := .ref es[i].1) (SqL.of (b6 _ _ nl hR4.1)) (atI_nat (by rw [List.getElem?_map, he]; rfl)) ?_
              exact done es[i] H6 (fun b o q => q) (b6 _ _ (nes _ hm) (hR4.2 _ hm)) (nes _ hm) (ne_of_none (hR4.2 _ hm) hD) (o3 _ hm)
            · have sl6 : SqL K H6 l (es.map wv) := SqL.of (b6 _ _ nl hR4.1)
              repeat walk_at "rg"
              rw [List.length_map]
              refine ⟨_, rfl, by omega, by omega, rd_kLcN (fun n acc D2 H' => Same H6 H' ∧ acc = ((List.range n).map fun t : Nat => w' * (if decide ((t : Int) = (i : Int)) = true then 1 else 0)).map V.int)
                (fun D2 hD2 => ⟨Same.new hD2, rfl⟩) ?_ (g_mono _ _) ?_⟩
              · rintro n acc D2 H7 hD2 hn hacc2 hl2 ⟨e7, rfl⟩
                repeat walk_at "rg"
                refine ⟨rfl, ?_⟩
                repeat walk_at "rg"
                rw [Int.zero_add, Int.zero_add]
                refine rd_lcEnd hacc2 hl2 (by omega) ⟨Same.upN e7 hD2, ?_⟩
                rw [List.range_succ, List.map_append, List.map_append]
                rfl
              · rintro acc D2 H7 hD2 hl2 hacc2 ⟨e7, rfl⟩
                have en : ((es.length : Nat) : Int).toNat = es.length := by omega
                rw [en] at hacc2
                exact done (D2, unitRow es.length w' i) H7 e7 hacc2 (w6.ne_new hD2) (ne_of_none hacc6 hD2).symm (unit_ok hi' (by omega))
          · rintro acc D H5 hD hl hacc ⟨rs, rfl, b5, w5, nD, hE⟩
            rw [List.length_map] at hl
            have en : rs.length = es.length := by omega
            exact rest _ _ ⟨_, _, _, _, _, _, D, rs, rfl, ⟨hacc, fun e he => (hE e he).1⟩, ⟨by omega, by omega, fun e he => by rw [en]; exact (hE e he).2.2.2⟩, b5 _ _ np hL⟩
        · exact rest _ _ ⟨_, _, _, _, _, _, l, es, rfl, hR4, hok, hL⟩
    · rintro σ H' ⟨v1, v2, v3, v4, v5, v6, v7, v8, v9, v10, rfl, hL⟩
      repeat walk_at "rg"
      exact k H'
end
theorem all_mk {P : Program} {w : World} {K : PySem.W.Frag} {h : Heap} {mg : Str → Option Value} {fa : Addr} (X : K.In h) (G : h.Ns mainGlobals mg) (hfa : mg "law" = some (.ref fa))
    {C_Walk : Addr} {t1 : Tok} {f_is_whole : Addr} {oc_is_whole kV_is_whole dc_is_whole pm_is_whole cd_is_whole ct_is_whole : Value} {od_is_whole an_is_whole : Option Addr} {sl_is_whole : Array (Option Value)} {f_is_whole_within : Addr} {oc_is_whole_within kV_is_whole_within dc_is_whole_within pm_is_whole_within cd_is_whole_within ct_is_whole_within : Value} {od_is_whole_within an_is_whole_within : Option Addr} {sl_is_whole_within : Array (Option Value)} {f__is_row : Addr} {oc__is_row kV__is_row dc__is_row pm__is_row cd__is_row ct__is_row : Value} {od__is_row an__is_row : Option Addr} {sl__is_row : Array (Option Value)} {f__are_rows : Addr} {oc__are_rows kV__are_rows dc__are_rows pm__are_rows cd__are_rows ct__are_rows : Value} {od__are_rows an__are_rows : Option Addr} {sl__are_rows : Array (Option Value)} {f_Walk___init__ : Addr} {oc_Walk___init__ kV_Walk___init__ dc_Walk___init__ pm_Walk___init__ cd_Walk___init__ ct_Walk___init__ : Value} {od_Walk___init__ an_Walk___init__ : Option Addr} {sl_Walk___init__ : Array (Option Value)} {f_Walk___len__ : Addr} {oc_Walk___len__ kV_Walk___len__ dc_Walk___len__ pm_Walk___len__ cd_Walk___len__ ct_Walk___len__ : Value} {od_Walk___len__ an_Walk___len__ : Option Addr} {sl_Walk___len__ : Array (Option Value)} {f__reached : Addr} {oc__reached kV__reached dc__reached pm__reached cd__reached ct__reached : Value} {od__reached an__reached : Option Addr} {sl__reached : Array (Option Value)} {f_closed_sets : Addr} {oc_closed_sets kV_closed_sets dc_closed_sets pm_closed_sets cd_closed_sets ct_closed_sets : Value} {od_closed_sets an_closed_sets : Option Addr} {sl_closed_sets : Array (Option Value)} {f__law_well : Addr} {oc__law_well kV__law_well dc__law_well pm__law_well cd__law_well ct__law_well : Value} {od__law_well an__law_well : Option Addr} {sl__law_well : Array (Option Value)} {f__law_draw : Addr} {oc__law_draw kV__law_draw dc__law_draw pm__law_draw cd__law_draw ct__law_draw : Value} {od__law_draw an__law_draw : Option Addr} {sl__law_draw : Array (Option Value)} {f__law_one : Addr} {oc__law_one kV__law_one dc__law_one pm__law_one cd__law_one ct__law_one : Value} {od__law_one an__law_one : Option Addr} {sl__law_one : Array (Option Value)} {f__law_row : Addr} {oc__law_row kV__law_row dc__law_row pm__law_row cd__law_row ct__law_row : Value} {od__law_row an__law_row : Option Addr} {sl__law_row : Array (Option Value)} {f__law_walk : Addr} {oc__law_walk kV__law_walk dc__law_walk pm__law_walk cd__law_walk ct__law_walk : Value} {od__law_walk an__law_walk : Option Addr} {sl__law_walk : Array (Option Value)} {f__law_reached : Addr} {oc__law_reached kV__law_reached dc__law_reached pm__law_reached cd__law_reached ct__law_reached : Value} {od__law_reached an__law_reached : Option Addr} {sl__law_reached : Array (Option Value)} {f__law_sets : Addr} {oc__law_sets kV__law_sets dc__law_sets pm__law_sets cd__law_sets ct__law_sets : Value} {od__law_sets an__law_sets : Option Addr} {sl__law_sets : Array (Option Value)} {f_law : Addr} {oc_law kV_law dc_law pm_law cd_law ct_law : Value} {od_law an_law : Option Addr} {sl_law : Array (Option Value)}
    (n_int : PySem.W.nsIn K mainGlobals "int" = some none)
    (n_len : PySem.W.nsIn K mainGlobals "len" = some none)
    (n_abs : PySem.W.nsIn K mainGlobals "abs" = some none)
    (n_repr : PySem.W.nsIn K mainGlobals "repr" = some none)
    (n_isinstance : PySem.W.nsIn K mainGlobals "isinstance" = some none)
    (n_bool : PySem.W.nsIn K mainGlobals "bool" = some none)
    (n_str : PySem.W.nsIn K mainGlobals "str" = some none)
    (n_list : PySem.W.nsIn K mainGlobals "list" = some none)
    (n_tuple : PySem.W.nsIn K mainGlobals "tuple" = some none)
    (n_range : PySem.W.nsIn K mainGlobals "range" = some none)
    (n_zip : PySem.W.nsIn K mainGlobals "zip" = some none)
    (n_enumerate : PySem.W.nsIn K mainGlobals "enumerate" = some none)
    (n_sum : PySem.W.nsIn K mainGlobals "sum" = some none)
    (n_any : PySem.W.nsIn K mainGlobals "any" = some none)
    (n_all : PySem.W.nsIn K mainGlobals "all" = some none)
    (n_min : PySem.W.nsIn K mainGlobals "min" = some none)
    (n_max : PySem.W.nsIn K mainGlobals "max" = some none)
    (n_sorted : PySem.W.nsIn K mainGlobals "sorted" = some none)
    (aW : PySem.W.nsIn K mainGlobals "Walk" = some (some (.ref C_Walk)))
    (pgW : PySem.W.plainGet K C_Walk Str.empty = true)
    (hdW : PySem.W.hasDictIn K C_Walk = true)
    (poW : PySem.W.plainOver K C_Walk = true)
    (saW : PySem.W.findIn K (.ref C_Walk) "__setattr__" = some (some (.builtin "object.__setattr__")))
    (mk_Walk : PySem.W.makesIn K C_Walk = true)
    (kc_Walk : PySem.W.keepIn K (.ref C_Walk) = true)
    (nWh : PySem.W.findIn K (.ref C_Walk) "whole" = some none)
    (nRo : PySem.W.findIn K (.ref C_Walk) "rows" = some none)
    (vMP : PySem.W.nsIn K mainGlobals "_MOST_PLACES" = some (some (.int 32 t1)))
    (vMW : ∃ t, mg "_MOST_WHOLE" = some (.int 1000000 t))
    (a_is_whole : PySem.W.nsIn K mainGlobals "is_whole" = some (some (.ref f_is_whole)))
    (l_is_whole : K.lookup f_is_whole = some ⟨oc_is_whole, od_is_whole, .func (PySem.W.fnOf "is_whole" "is_whole" (defArgs s_is_whole) (defBody s_is_whole) (defScope s_is_whole) .none kV_is_whole dc_is_whole pm_is_whole an_is_whole cd_is_whole ct_is_whole), sl_is_whole⟩)
    (c_is_whole : PySem.W.codeIn K cd_is_whole "is_whole" = true)
    (k_is_whole : PySem.W.keepIn K (.ref f_is_whole) = true)
    (a_is_whole_within : PySem.W.nsIn K mainGlobals "is_whole_within" = some (some (.ref f_is_whole_within)))
    (l_is_whole_within : K.lookup f_is_whole_within = some ⟨oc_is_whole_within, od_is_whole_within, .func (PySem.W.fnOf "is_whole_within" "is_whole_within" (defArgs s_is_whole_within) (defBody s_is_whole_within) (defScope s_is_whole_within) .none kV_is_whole_within dc_is_whole_within pm_is_whole_within an_is_whole_within cd_is_whole_within ct_is_whole_within), sl_is_whole_within⟩)
    (c_is_whole_within : PySem.W.codeIn K cd_is_whole_within "is_whole_within" = true)
    (k_is_whole_within : PySem.W.keepIn K (.ref f_is_whole_within) = true)
    (a__is_row : PySem.W.nsIn K mainGlobals "_is_row" = some (some (.ref f__is_row)))
    (l__is_row : K.lookup f__is_row = some ⟨oc__is_row, od__is_row, .func (PySem.W.fnOf "_is_row" "_is_row" (defArgs s__is_row) (defBody s__is_row) (defScope s__is_row) .none kV__is_row dc__is_row pm__is_row an__is_row cd__is_row ct__is_row), sl__is_row⟩)
    (c__is_row : PySem.W.codeIn K cd__is_row "_is_row" = true)
    (k__is_row : PySem.W.keepIn K (.ref f__is_row) = true)
    (a__are_rows : PySem.W.nsIn K mainGlobals "_are_rows" = some (some (.ref f__are_rows)))
    (l__are_rows : K.lookup f__are_rows = some ⟨oc__are_rows, od__are_rows, .func (PySem.W.fnOf "_are_rows" "_are_rows" (defArgs s__are_rows) (defBody s__are_rows) (defScope s__are_rows) .none kV__are_rows dc__are_rows pm__are_rows an__are_rows cd__are_rows ct__are_rows), sl__are_rows⟩)
    (c__are_rows : PySem.W.codeIn K cd__are_rows "_are_rows" = true)
    (k__are_rows : PySem.W.keepIn K (.ref f__are_rows) = true)
    (a_Walk___init__ : PySem.W.findIn K (.ref C_Walk) "__init__" = some (some (.ref f_Walk___init__)))
    (l_Walk___init__ : K.lookup f_Walk___init__ = some ⟨oc_Walk___init__, od_Walk___init__, .func (PySem.W.fnOf "__init__" "Walk.__init__" (defArgs s_Walk___init__) (defBody s_Walk___init__) (defScope s_Walk___init__) .none kV_Walk___init__ dc_Walk___init__ pm_Walk___init__ an_Walk___init__ cd_Walk___init__ ct_Walk___init__), sl_Walk___init__⟩)
    (c_Walk___init__ : PySem.W.codeIn K cd_Walk___init__ "Walk.__init__" = true)
    (k_Walk___init__ : PySem.W.keepIn K (.ref f_Walk___init__) = true)
    (i_Walk___init__ : PySem.W.isFn K (.ref f_Walk___init__) = true)
    (a_Walk___len__ : PySem.W.findIn K (.ref C_Walk) "__len__" = some (some (.ref f_Walk___len__)))
    (l_Walk___len__ : K.lookup f_Walk___len__ = some ⟨oc_Walk___len__, od_Walk___len__, .func (PySem.W.fnOf "__len__" "Walk.__len__" (defArgs s_Walk___len__) (defBody s_Walk___len__) (defScope s_Walk___len__) .none kV_Walk___len__ dc_Walk___len__ pm_Walk___len__ an_Walk___len__ cd_Walk___len__ ct_Walk___len__), sl_Walk___len__⟩)
    (c_Walk___len__ : PySem.W.codeIn K cd_Walk___len__ "Walk.__len__" = true)
    (k_Walk___len__ : PySem.W.keepIn K (.ref f_Walk___len__) = true)
    (i_Walk___len__ : PySem.W.isFn K (.ref f_Walk___len__) = true)
    (a__reached : PySem.W.nsIn K mainGlobals "_reached" = some (some (.ref f__reached)))
    (l__reached : K.lookup f__reached = some ⟨oc__reached, od__reached, .func (PySem.W.fnOf "_reached" "_reached" (defArgs s__reached) (defBody s__reached) (defScope s__reached) .none kV__reached dc__reached pm__reached an__reached cd__reached ct__reached), sl__reached⟩)
    (c__reached : PySem.W.codeIn K cd__reached "_reached" = true)
    (k__reached : PySem.W.keepIn K (.ref f__reached) = true)
    (a_closed_sets : PySem.W.nsIn K mainGlobals "closed_sets" = some (some (.ref f_closed_sets)))
    (l_closed_sets : K.lookup f_closed_sets = some ⟨oc_closed_sets, od_closed_sets, .func (PySem.W.fnOf "closed_sets" "closed_sets" (defArgs s_closed_sets) (defBody s_closed_sets) (defScope s_closed_sets) .none kV_closed_sets dc_closed_sets pm_closed_sets an_closed_sets cd_closed_sets ct_closed_sets), sl_closed_sets⟩)
    (c_closed_sets : PySem.W.codeIn K cd_closed_sets "closed_sets" = true)
    (k_closed_sets : PySem.W.keepIn K (.ref f_closed_sets) = true)
    (a__law_well : PySem.W.nsIn K mainGlobals "_law_well" = some (some (.ref f__law_well)))
    (l__law_well : K.lookup f__law_well = some ⟨oc__law_well, od__law_well, .func (PySem.W.fnOf "_law_well" "_law_well" (defArgs s__law_well) (defBody s__law_well) (defScope s__law_well) .none kV__law_well dc__law_well pm__law_well an__law_well cd__law_well ct__law_well), sl__law_well⟩)
    (c__law_well : PySem.W.codeIn K cd__law_well "_law_well" = true)
    (k__law_well : PySem.W.keepIn K (.ref f__law_well) = true)
    (a__law_draw : PySem.W.nsIn K mainGlobals "_law_draw" = some (some (.ref f__law_draw)))
    (l__law_draw : K.lookup f__law_draw = some ⟨oc__law_draw, od__law_draw, .func (PySem.W.fnOf "_law_draw" "_law_draw" (defArgs s__law_draw) (defBody s__law_draw) (defScope s__law_draw) .none kV__law_draw dc__law_draw pm__law_draw an__law_draw cd__law_draw ct__law_draw), sl__law_draw⟩)
    (c__law_draw : PySem.W.codeIn K cd__law_draw "_law_draw" = true)
    (k__law_draw : PySem.W.keepIn K (.ref f__law_draw) = true)
    (a__law_one : PySem.W.nsIn K mainGlobals "_law_one" = some (some (.ref f__law_one)))
    (l__law_one : K.lookup f__law_one = some ⟨oc__law_one, od__law_one, .func (PySem.W.fnOf "_law_one" "_law_one" (defArgs s__law_one) (defBody s__law_one) (defScope s__law_one) .none kV__law_one dc__law_one pm__law_one an__law_one cd__law_one ct__law_one), sl__law_one⟩)
    (c__law_one : PySem.W.codeIn K cd__law_one "_law_one" = true)
    (k__law_one : PySem.W.keepIn K (.ref f__law_one) = true)
    (a__law_row : PySem.W.nsIn K mainGlobals "_law_row" = some (some (.ref f__law_row)))
    (l__law_row : K.lookup f__law_row = some ⟨oc__law_row, od__law_row, .func (PySem.W.fnOf "_law_row" "_law_row" (defArgs s__law_row) (defBody s__law_row) (defScope s__law_row) .none kV__law_row dc__law_row pm__law_row an__law_row cd__law_row ct__law_row), sl__law_row⟩)
    (c__law_row : PySem.W.codeIn K cd__law_row "_law_row" = true)
    (k__law_row : PySem.W.keepIn K (.ref f__law_row) = true)
    (a__law_walk : PySem.W.nsIn K mainGlobals "_law_walk" = some (some (.ref f__law_walk)))
    (l__law_walk : K.lookup f__law_walk = some ⟨oc__law_walk, od__law_walk, .func (PySem.W.fnOf "_law_walk" "_law_walk" (defArgs s__law_walk) (defBody s__law_walk) (defScope s__law_walk) .none kV__law_walk dc__law_walk pm__law_walk an__law_walk cd__law_walk ct__law_walk), sl__law_walk⟩)
    (c__law_walk : PySem.W.codeIn K cd__law_walk "_law_walk" = true)
    (k__law_walk : PySem.W.keepIn K (.ref f__law_walk) = true)
    (a__law_reached : PySem.W.nsIn K mainGlobals "_law_reached" = some (some (.ref f__law_reached)))
    (l__law_reached : K.lookup f__law_reached = some ⟨oc__law_reached, od__law_reached, .func (PySem.W.fnOf "_law_reached" "_law_reached" (defArgs s__law_reached) (defBody s__law_reached) (defScope s__law_reached) .none kV__law_reached dc__law_reached pm__law_reached an__law_reached cd__law_reached ct__law_reached), sl__law_reached⟩)
    (c__law_reached : PySem.W.codeIn K cd__law_reached "_law_reached" = true)
    (k__law_reached : PySem.W.keepIn K (.ref f__law_reached) = true)
    (a__law_sets : PySem.W.nsIn K mainGlobals "_law_sets" = some (some (.ref f__law_sets)))
    (l__law_sets : K.lookup f__law_sets = some ⟨oc__law_sets, od__law_sets, .func (PySem.W.fnOf "_law_sets" "_law_sets" (defArgs s__law_sets) (defBody s__law_sets) (defScope s__law_sets) .none kV__law_sets dc__law_sets pm__law_sets an__law_sets cd__law_sets ct__law_sets), sl__law_sets⟩)
    (c__law_sets : PySem.W.codeIn K cd__law_sets "_law_sets" = true)
    (k__law_sets : PySem.W.keepIn K (.ref f__law_sets) = true)
    (a_law : PySem.W.nsIn K mainGlobals "law" = some (some (.ref f_law)))
    (l_law : K.lookup f_law = some ⟨oc_law, od_law, .func (PySem.W.fnOf "law" "law" (defArgs s_law) (defBody s_law) (defScope s_law) .none kV_law dc_law pm_law an_law cd_law ct_law), sl_law⟩)
    (c_law : PySem.W.codeIn K cd_law "law" = true)
    (k_law : PySem.W.keepIn K (.ref f_law) = true)
    : ∃ fd : FuncData, (∀ (s : Shared) (v : Value), BindsTo s fd ⟨[v], []⟩ [("_law_script", v)]) ∧ ∀ base : Heap, K.In base → base.Ns mainGlobals mg → FnG P w K mg base CX0 6 fa fd ["_law_script"] (spLaw K) := by
  have e := hfa.symm.trans (PySem.W.mg_of X G a_law)
  cases e
  have T0 : Tx K mg := ⟨PySem.W.mg_none_of X G n_int, PySem.W.mg_none_of X G n_len, PySem.W.mg_none_of X G n_abs, PySem.W.mg_none_of X G n_repr, PySem.W.mg_none_of X G n_isinstance, PySem.W.mg_none_of X G n_bool, PySem.W.mg_none_of X G n_str, PySem.W.mg_none_of X G n_list, PySem.W.mg_none_of X G n_tuple, PySem.W.mg_none_of X G n_range, PySem.W.mg_none_of X G n_zip, PySem.W.mg_none_of X G n_enumerate, PySem.W.mg_none_of X G n_sum, PySem.W.mg_none_of X G n_any, PySem.W.mg_none_of X G n_all, PySem.W.mg_none_of X G n_min, PySem.W.mg_none_of X G n_max, PySem.W.mg_none_of X G n_sorted⟩
  obtain ⟨t2, vMW⟩ := vMW
  have TW0 : TW K mg C_Walk C_Walk C_Walk t1 t2 := ⟨T0, ⟨pgW, hdW, poW, saW⟩, nWh, nRo, PySem.W.mg_of X G aW, PySem.W.mg_of X G vMP, vMW⟩
  have F_is_whole := fun_mk (st := s_is_whole) l_is_whole c_is_whole k_is_whole
  have b_is_whole := F_is_whole.binds (ps := ["thing"]) fun _ _ _ _ _ _ us hl => match us, hl with | [_], _ => rfl
  have d_is_whole : ∀ base : Heap, Df P w K mg base CX0 1 "is_whole" ["thing"] (spWhole K) := fun base => ⟨⟨_, _, PySem.W.mg_of X G a_is_whole, k_is_whole, ok_whole F_is_whole T0, b_is_whole⟩⟩
  have F_is_whole_within := fun_mk (st := s_is_whole_within) l_is_whole_within c_is_whole_within k_is_whole_within
  have b_is_whole_within := F_is_whole_within.binds (ps := ["thing", "least", "most"]) fun _ _ _ _ _ _ us hl => match us, hl with | [_, _, _], _ => rfl
  have d_is_whole_within : ∀ base : Heap, Df P w K mg base CX0 2 "is_whole_within" ["thing", "least", "most"] (spWithin) := fun base => ⟨⟨_, _, PySem.W.mg_of X G a_is_whole_within, k_is_whole_within, ok_within F_is_whole_within T0 (d_is_whole base), b_is_whole_within⟩⟩
  have F__is_row := fun_mk (st := s__is_row) l__is_row c__is_row k__is_row
  have b__is_row := F__is_row.binds (ps := ["thing", "many", "whole"]) fun _ _ _ _ _ _ us hl => match us, hl with | [_, _, _], _ => rfl
  have d__is_row : ∀ base : Heap, Df P w K mg base CX0 2 "_is_row" ["thing", "many", "whole"] (spIsRow) := fun base => ⟨⟨_, _, PySem.W.mg_of X G a__is_row, k__is_row, ok_isrow F__is_row T0 (d_is_whole base), b__is_row⟩⟩
  have F__are_rows := fun_mk (st := s__are_rows) l__are_rows c__are_rows k__are_rows
  have b__are_rows := F__are_rows.binds (ps := ["thing", "whole"]) fun _ _ _ _ _ _ us hl => match us, hl with | [_, _], _ => rfl
  have d__are_rows : ∀ base : Heap, Df P w K mg base CX0 3 "_are_rows" ["thing", "whole"] (spAreRows) := fun base => ⟨⟨_, _, PySem.W.mg_of X G a__are_rows, k__are_rows, ok_arerows F__are_rows TW0 (d__is_row base), b__are_rows⟩⟩
  have F_Walk___init__ := fun_mk (st := s_Walk___init__) l_Walk___init__ c_Walk___init__ k_Walk___init__
  have b_Walk___init__ := F_Walk___init__.binds (ps := ["self", "whole", "rows"]) fun _ _ _ _ _ _ us hl => match us, hl with | [_, _, _], _ => rfl
  have m_Walk : ∀ base : Heap, Md P w K mg base CX0 4 C_Walk ["self", "whole", "rows"] [] (spWalkInit K C_Walk) := fun base => ⟨⟨_, _, [], ⟨mk_Walk, a_Walk___init__, i_Walk___init__, kc_Walk⟩, ok_winit F_Walk___init__ TW0 (d_is_whole_within base) (d__are_rows base), b_Walk___init__, b_Walk___init__, .nil⟩⟩
  have F_Walk___len__ := fun_mk (st := s_Walk___len__) l_Walk___len__ c_Walk___len__ k_Walk___len__
  have b_Walk___len__ := F_Walk___len__.binds (ps := ["self"]) fun _ _ _ _ _ _ us hl => match us, hl with | [_], _ => rfl
  have d_Walk___len__ : ∀ base : Heap, Mt P w K mg base 1 C_Walk "__len__" ["self"] (spWLen C_Walk) := fun base => ⟨_, _, a_Walk___len__, i_Walk___len__, k_Walk___len__, ok_wlen F_Walk___len__ TW0, b_Walk___len__⟩
  have F__reached := fun_mk (st := s__reached) l__reached c__reached k__reached
  have b__reached := F__reached.binds (ps := ["walk", "start"]) fun _ _ _ _ _ _ us hl => match us, hl with | [_, _], _ => rfl
  have d__reached : ∀ base : Heap, Df P w K mg base CX0 3 "_reached" ["walk", "start"] (spReached C_Walk) := fun base => ⟨⟨_, _, PySem.W.mg_of X G a__reached, k__reached, ok_reached F__reached TW0 (d_Walk___len__ base), b__reached⟩⟩
  have F_closed_sets := fun_mk (st := s_closed_sets) l_closed_sets c_closed_sets k_closed_sets
  have b_closed_sets := F_closed_sets.binds (ps := ["walk"]) fun _ _ _ _ _ _ us hl => match us, hl with | [_], _ => rfl
  have d_closed_sets : ∀ base : Heap, Df P w K mg base CX0 4 "closed_sets" ["walk"] (spClosed C_Walk) := fun base => ⟨⟨_, _, PySem.W.mg_of X G a_closed_sets, k_closed_sets, ok_closed F_closed_sets TW0 (d_Walk___len__ base) (d__reached base), b_closed_sets⟩⟩
  have F__law_well := fun_mk (st := s__law_well) l__law_well c__law_well k__law_well
  have b__law_well := F__law_well.binds (ps := ["_law_cell"]) fun _ _ _ _ _ _ us hl => match us, hl with | [_], _ => rfl
  have d__law_well : ∀ base : Heap, Df P w K mg base CX0 1 "_law_well" ["_law_cell"] (spWell) := fun base => ⟨⟨_, _, PySem.W.mg_of X G a__law_well, k__law_well, ok_well F__law_well T0, b__law_well⟩⟩
  have F__law_draw := fun_mk (st := s__law_draw) l__law_draw c__law_draw k__law_draw
  have b__law_draw := F__law_draw.binds (ps := ["_law_well_here", "_law_many"]) fun _ _ _ _ _ _ us hl => match us, hl with | [_, _], _ => rfl
  have d__law_draw : ∀ base : Heap, Df P w K mg base CX0 1 "_law_draw" ["_law_well_here", "_law_many"] (spDraw) := fun base => ⟨⟨_, _, PySem.W.mg_of X G a__law_draw, k__law_draw, ok_draw F__law_draw T0, b__law_draw⟩⟩
  have F__law_one := fun_mk (st := s__law_one) l__law_one c__law_one k__law_one
  have b__law_one := F__law_one.binds (ps := ["_law_well_here", "_law_some"]) fun _ _ _ _ _ _ us hl => match us, hl with | [_, _], _ => rfl
  have d__law_one : ∀ base : Heap, Df P w K mg base CX0 2 "_law_one" ["_law_well_here", "_law_some"] (spOne K) := fun base => ⟨⟨_, _, PySem.W.mg_of X G a__law_one, k__law_one, ok_one F__law_one T0 (d__law_draw base), b__law_one⟩⟩
  have F__law_row := fun_mk (st := s__law_row) l__law_row c__law_row k__law_row
  have b__law_row := F__law_row.binds (ps := ["_law_well_here", "_law_many", "_law_whole"]) fun _ _ _ _ _ _ us hl => match us, hl with | [_, _, _], _ => rfl
  have d__law_row : ∀ base : Heap, Df P w K mg base CX0 2 "_law_row" ["_law_well_here", "_law_many", "_law_whole"] (spRow) := fun base => ⟨⟨_, _, PySem.W.mg_of X G a__law_row, k__law_row, ok_row F__law_row T0 (d__law_draw base), b__law_row⟩⟩
  have F__law_walk := fun_mk (st := s__law_walk) l__law_walk c__law_walk k__law_walk
  have b__law_walk := F__law_walk.binds (ps := ["_law_well_here", "_law_most"]) fun _ _ _ _ _ _ us hl => match us, hl with | [_, _], _ => rfl
  have d__law_walk : ∀ base : Heap, Df P w K mg base CX0 3 "_law_walk" ["_law_well_here", "_law_most"] (spWalkD) := fun base => ⟨⟨_, _, PySem.W.mg_of X G a__law_walk, k__law_walk, ok_walkd F__law_walk T0 (d__law_draw base) (d__law_one base) (d__law_row base), b__law_walk⟩⟩
  have F__law_reached := fun_mk (st := s__law_reached) l__law_reached c__law_reached k__law_reached
  have b__law_reached := F__law_reached.binds (ps := ["_law_rows", "_law_place"]) fun _ _ _ _ _ _ us hl => match us, hl with | [_, _], _ => rfl
  have d__law_reached : ∀ base : Heap, Df P w K mg base CX0 1 "_law_reached" ["_law_rows", "_law_place"] (spLReached) := fun base => ⟨⟨_, _, PySem.W.mg_of X G a__law_reached, k__law_reached, ok_lreached F__law_reached T0, b__law_reached⟩⟩
  have F__law_sets := fun_mk (st := s__law_sets) l__law_sets c__law_sets k__law_sets
  have b__law_sets := F__law_sets.binds (ps := ["_law_rows"]) fun _ _ _ _ _ _ us hl => match us, hl with | [_], _ => rfl
  have d__law_sets : ∀ base : Heap, Df P w K mg base CX0 2 "_law_sets" ["_law_rows"] (spLSets) := fun base => ⟨⟨_, _, PySem.W.mg_of X G a__law_sets, k__law_sets, ok_lsets F__law_sets T0 (d__law_reached base), b__law_sets⟩⟩
  have F_law := fun_mk (st := s_law) l_law c_law k_law
  exact ⟨_, fun s v => .of_eq rfl, fun base _ _ => ok_law F_law TW0 (m_Walk base) (d__law_well base) (d__law_draw base) (d__law_one base) (d__law_walk base) (d__law_sets base) (d_closed_sets base)⟩
end My
open PySem PySem.W PyProof.Rows in
set_option maxRecDepth 100000 in
set_option maxHeartbeats 0 in
theorem PySem.Challenge.cw_elderdraw_k10_closed_sets_holds : PySem.Challenge.rw_elderdraw_k10_closed_sets.Holds := by
  w_on; o_law; k_head; (case hw => w_witness2)
  k_fill
  refine My.walk_ofGK (l := PySem.Challenge.rw_elderdraw_k10_closed_sets) (sp := My.spLaw) (k := 6) (n := 63) (x := "_law_script") rfl (by decide) rfl ⟨rfl, by decide, by decide⟩ (fun w h Y => PySem.W.kIn_of Y) (fun K H a ns hl hb _ hS => ⟨a, ns, rfl, hS, hl, fun _ => rfl⟩) ?F
  case F =>
    intro w mg fa h KX G XQ hmg
    refine' My.all_mk KX G hmg ?n_int ?n_len ?n_abs ?n_repr ?n_isinstance ?n_bool ?n_str ?n_list ?n_tuple ?n_range ?n_zip ?n_enumerate ?n_sum ?n_any ?n_all ?n_min ?n_max ?n_sorted ?aW ?pgW ?hdW ?poW ?saW ?mk_Walk ?kc_Walk ?nWh ?nRo ?vMP ?vMW ?a_is_whole ?l_is_whole ?c_is_whole ?k_is_whole ?a_is_whole_within ?l_is_whole_within ?c_is_whole_within ?k_is_whole_within ?a__is_row ?l__is_row ?c__is_row ?k__is_row ?a__are_rows ?l__are_rows ?c__are_rows ?k__are_rows ?a_Walk___init__ ?l_Walk___init__ ?c_Walk___init__ ?k_Walk___init__ ?i_Walk___init__ ?a_Walk___len__ ?l_Walk___len__ ?c_Walk___len__ ?k_Walk___len__ ?i_Walk___len__ ?a__reached ?l__reached ?c__reached ?k__reached ?a_closed_sets ?l_closed_sets ?c_closed_sets ?k_closed_sets ?a__law_well ?l__law_well ?c__law_well ?k__law_well ?a__law_draw ?l__law_draw ?c__law_draw ?k__law_draw ?a__law_one ?l__law_one ?c__law_one ?k__law_one ?a__law_row ?l__law_row ?c__law_row ?k__law_row ?a__law_walk ?l__law_walk ?c__law_walk ?k__law_walk ?a__law_reached ?l__law_reached ?c__law_reached ?k__law_reached ?a__law_sets ?l__law_sets ?c__law_sets ?k__law_sets ?a_law ?l_law ?c_law ?k_law
    (case n_int => k_is)
    (case n_len => k_is)
    (case n_abs => k_is)
    (case n_repr => k_is)
    (case n_isinstance => k_is)
    (case n_bool => k_is)
    (case n_str => k_is)
    (case n_list => k_is)
    (case n_tuple => k_is)
    (case n_range => k_is)
    (case n_zip => k_is)
    (case n_enumerate => k_is)
    (case n_sum => k_is)
    (case n_any => k_is)
    (case n_all => k_is)
    (case n_min => k_is)
    (case n_max => k_is)
    (case n_sorted => k_is)
    (case aW => k_is)
    (case pgW => k_is)
    (case hdW => k_is)
    (case poW => k_is)
    (case saW => k_is)
    (case mk_Walk => k_is)
    (case kc_Walk => k_is)
    (case nWh => k_is)
    (case nRo => k_is)
    (case vMP => k_is)
    (case vMW => exact My.loose_int XQ.2 (by rfl))
    (case a_is_whole => k_is)
    (case l_is_whole => k_is)
    (case c_is_whole => k_is)
    (case k_is_whole => k_is)
    (case a_is_whole_within => k_is)
    (case l_is_whole_within => k_is)
    (case c_is_whole_within => k_is)
    (case k_is_whole_within => k_is)
    (case a__is_row => k_is)
    (case l__is_row => k_is)
    (case c__is_row => k_is)
    (case k__is_row => k_is)
    (case a__are_rows => k_is)
    (case l__are_rows => k_is)
    (case c__are_rows => k_is)
    (case k__are_rows => k_is)
    (case a_Walk___init__ => k_is)
    (case l_Walk___init__ => k_is)
    (case c_Walk___init__ => k_is)
    (case k_Walk___init__ => k_is)
    (case i_Walk___init__ => k_is)
    (case a_Walk___len__ => k_is)
    (case l_Walk___len__ => k_is)
    (case c_Walk___len__ => k_is)
    (case k_Walk___len__ => k_is)
    (case i_Walk___len__ => k_is)
    (case a__reached => k_is)
    (case l__reached => k_is)
    (case c__reached => k_is)
    (case k__reached => k_is)
    (case a_closed_sets => k_is)
    (case l_closed_sets => k_is)
    (case c_closed_sets => k_is)
    (case k_closed_sets => k_is)
    (case a__law_well => k_is)
    (case l__law_well => k_is)
    (case c__law_well => k_is)
    (case k__law_well => k_is)
    (case a__law_draw => k_is)
    (case l__law_draw => k_is)
    (case c__law_draw => k_is)
    (case k__law_draw => k_is)
    (case a__law_one => k_is)
    (case l__law_one => k_is)
    (case c__law_one => k_is)
    (case k__law_one => k_is)
    (case a__law_row => k_is)
    (case l__law_row => k_is)
    (case c__law_row => k_is)
    (case k__law_row => k_is)
    (case a__law_walk => k_is)
    (case l__law_walk => k_is)
    (case c__law_walk => k_is)
    (case k__law_walk => k_is)
    (case a__law_reached => k_is)
    (case l__law_reached => k_is)
    (case c__law_reached => k_is)
    (case k__law_reached => k_is)
    (case a__law_sets => k_is)
    (case l__law_sets => k_is)
    (case c__law_sets => k_is)
    (case k__law_sets => k_is)
    (case a_law => k_is)
    (case l_law => k_is)
    (case c_law => k_is)
    (case k_law => k_is)
