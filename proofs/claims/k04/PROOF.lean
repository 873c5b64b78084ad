import PyProof.Rows.All
import Wide.All
import OpenK.AllK
import Wide.FinOn
import HandS.ForMost
import HandS.ForExc
import HandS.Wide
import HandS.WideBits
import HandS.Gcd
import HandS.IsInst
import HandS.FStr
import HandS.OwnEq
import HandS.ExcIs
import HandS.ExcInit
import HandS.ExcValue
import HandS.Defaults
import HandS.RaiseMore
import HandS.Flow
import HandS.Style
import HandS.Zip
import HandS.StrMore
import HandS.CallSlots
import HandS.SlotsOwn
import HandS.Evl
import HandS.TryOnly
import HandS.EndBits
import HandS.Deep
import HandS.Strs
import HandS.TryMany
import HandS.ExcField
import HandS.Hot
import HandS.HotCalls
import HandS.ExcInitHot
import KE.GoesNew
import KE.KExcIs
import KE.GoesMore
import KE.SortData
import PySem.Challenge.RW_elderdraw_k04_less_and_sums
set_option Elab.async false
set_option linter.all false
set_option maxRecDepth 100000
set_option maxHeartbeats 4000000
namespace My
open PySem PySem.Spec PyProof.Rows L2
/-! ### numbers: operators for ints of any size that the model takes -/
section
variable {X : Cx}
def CMulA (i j : Int) : Prop := IntMulOk i j
def CDivA (_ j : Int) : Prop := j ≠ 0 ∧ j.natAbs.log2 < 9000
def rMulA : R2 := rI CMulA fun i j => .int (i * j)
def rDivA : R2 := rI CDivA fun i j => .int (i.fdiv j)
theorem op_mulA : OpR X (binaryOp .Mult) rMulA := opI fun _ _ _ _ _ _ _ hc q => mul_int q hc
theorem op_fdivA : OpR X (binaryOp .FloorDiv) rDivA := opI fun i j _ _ _ _ _ hc q => floordiv_int hc.1 q (.inl (PyProof.noPylong_of_log2 hc.2))
def rModA : R2 := rI (fun _ j => j ≠ 0) fun i j => .int (i.fmod j)
def rPowA : R2 := rI CPow fun i j => .int (i ^ j.toNat)
theorem op_modA : OpR X (binaryOp .Mod) rModA := op_modN
theorem op_powA : OpR X (binaryOp .Pow) rPowA := op_pow
def rInt : List V → Hp → VK → Prop := fun xs H Q => (∃ i, xs = [.int i] ∧ Q (.int i) H) ∨ ∃ k, xs = [.bl k] ∧ Q (.int (if k then 1 else 0)) H
theorem cr_int : CallR X (.type "int") rInt := call_int1
def rAbs : List V → Hp → VK → Prop := fun xs H Q => ∃ i, xs = [.int i] ∧ Q (.int (if i < 0 then -i else i)) H
theorem cr_abs : CallR X (.builtin "abs") rAbs := call_abs
theorem mul_r {i j : Int} (h : -(2 ^ 63) < j) (h' : j < 2 ^ 63) : CMulA i j := (show CMul i j from .inr ⟨by omega, by omega⟩).ok
theorem mul_l {i j : Int} (h : -(2 ^ 63) < i) (h' : i < 2 ^ 63) : CMulA i j := (show CMul i j from .inl ⟨by omega, by omega⟩).ok
theorem mul_b {i j : Int} {a b : Nat} (ha : i.natAbs < 2 ^ a) (hb : j.natAbs < 2 ^ b) (h : a + b ≤ 134217728) : CMulA i j := (mulx_ok ha hb h).ok
theorem div_b {i j : Int} {b : Nat} (h : j ≠ 0) (hb : j.natAbs < 2 ^ b) (h9 : b ≤ 9000) (h0 : 0 < b) : CDivA i j := ⟨h, Nat.lt_of_lt_of_le (PySem.Flt.log2_lt_of h0 hb) h9⟩
theorem div_s {i j : Int} (h : 0 < j) (h' : j < 2 ^ 63) : CDivA i j := div_b (b := 64) (by omega) (by omega) (by decide) (by decide)
theorem fdiv_pos {i j : Int} (h : 0 < j) : i.fdiv j = i / j := Int.fdiv_eq_ediv_of_nonneg i (by omega)
theorem fmod_pos {i j : Int} (h : 0 < j) : i.fmod j = i % j := Int.fmod_eq_emod_of_nonneg i (by omega)
end
section
variable {X : Cx}
def rLen (K : PySem.W.Frag) : List V → Hp → VK → Prop := fun xs H Q => ∃ p ys, xs = [.ref p] ∧ (SqL K H p ys ∨ SqT K H p ys) ∧ Q (.int ys.length) H
theorem cr_len : CallR X (.builtin "len") (rLen X.K) := call_len_seq
def rListOf (K : PySem.W.Frag) : List V → Hp → VK → Prop := fun xs H Q => ∃ p ys, xs = [.ref p] ∧ (SqL K H p ys ∨ SqT K H p ys) ∧ ∀ l, H l = none → Q (.ref l) (upd H l (.lst ys))
theorem cr_listOf : CallR X (.type "list") (rListOf X.K) := call_list_of
end
/-! ### a def that stands behind the top, and its promise -/
structure Df (P : Program) (w : World) (K : PySem.W.Frag) (mg : Str → Option Value) (base : Heap) (CX : CXT) (k : Nat) (x : Str) (ps : List Str) (sp : Sp) : Prop where
  ex : ∃ (f : Addr) (fd : FuncData), mg x = some (.ref f) ∧ PySem.W.keepIn K (.ref f) = true ∧ FnOk P w K mg base CX k f fd ps sp ∧ Binds K fd ps []
/-- a class C with an __init__: sp its promise, dvs its defaults -/
structure Md (P : Program) (w : World) (K : PySem.W.Frag) (mg : Str → Option Value) (base : Heap) (CX : CXT) (k : Nat) (C : Addr) (ps : List Str) (dvs : List V) (sp : Sp) : Prop where
  ex : ∃ (f : Addr) (fd : FuncData) (ds : List Value), Mk K C f ∧ FnOk P w K mg base CX k f fd ps sp ∧ Binds K fd ps ds ∧ Binds K fd ps [] ∧ Vals dvs ds
section
variable {X : Cx} {CX : CXT} {k : Nat} {x : Str} {ps : List Str} {sp : Sp} {E : XK} {p pos : Pos} {e : Expr} {es : List Expr} {t : TA} {C : Addr} {dvs : List V}
theorem pe_df (D : Df X.prog X.w X.K X.mg X.base CX k x ps sp) (hr : Room k X.A) (hx : Passes CX X E) (ha : PA X (e :: es) t) (hg : Gl X x := by rfl) (hdb : (x == ("__debug__" : Str)) = false := by decide)
    (he : starEach (e :: es) X.env = (false, eval e X.env) :: starEach es X.env := by rfl) (hpl : (backTo pos (starEach es X.env)).any (·.1) = false := by rfl) :
    PE X (.Call (.Name x p) (e :: es) [] pos) (tCall sp [] E t) := by
  obtain ⟨f, fd, h1, h2, h3, h4⟩ := D.ex
  exact pe_call h3 hr hg h1 h2 h4 .nil hx ha hdb he hpl
theorem pe_df0 (D : Df X.prog X.w X.K X.mg X.base CX k x ps sp) (hr : Room k X.A) (hx : Passes CX X E) (hg : Gl X x := by rfl) (hdb : (x == ("__debug__" : Str)) = false := by decide) :
    PE X (.Call (.Name x p) [] [] pos) (tCall sp [] E tNil) := by
  obtain ⟨f, fd, h1, h2, h3, h4⟩ := D.ex
  exact pe_call0 h3 hr hg h1 h2 h4 .nil hx hdb
theorem pe_dfS {ES : L2.St → XK} (D : Df X.prog X.w X.K X.mg X.base CX k x ps sp) (hr : Room k X.A) (hx : ∀ σ, PassesAt CX X σ (ES σ)) (ha : PA X (e :: es) t) (hg : Gl X x := by rfl) (hdb : (x == ("__debug__" : Str)) = false := by decide)
    (he : starEach (e :: es) X.env = (false, eval e X.env) :: starEach es X.env := by rfl) (hpl : (backTo pos (starEach es X.env)).any (·.1) = false := by rfl) :
    PE X (.Call (.Name x p) (e :: es) [] pos) (tCallS sp ES t) := by
  obtain ⟨f, fd, h1, h2, h3, h4⟩ := D.ex
  exact pe_callS h3 hr hg h1 h2 h4 hx ha hdb he hpl
theorem pe_mkd (D : Md X.prog X.w X.K X.mg X.base CX k C ps dvs sp) (hr : Room (k + 1) X.A) (hm : X.mg x = some (.ref C)) (hx : Passes CX X E) (ha : PA X (e :: es) t) (hg : Gl X x := by rfl) (hdb : (x == ("__debug__" : Str)) = false := by decide)
    (he : starEach (e :: es) X.env = (false, eval e X.env) :: starEach es X.env := by rfl) (hpl : (backTo pos (starEach es X.env)).any (·.1) = false := by rfl) :
    PE X (.Call (.Name x p) (e :: es) [] pos) (tMake C sp [] E t) := by
  obtain ⟨f, fd, ds, h1, h2, h3, h4, h5⟩ := D.ex
  exact pe_make h1 h2 hr hg hm h4 .nil hx ha hdb he hpl
/-- with its defaults -/
theorem pe_mkd1 (D : Md X.prog X.w X.K X.mg X.base CX k C ps dvs sp) (hr : Room (k + 1) X.A) (hm : X.mg x = some (.ref C)) (hx : Passes CX X E) (ha : PA X (e :: es) t) (hg : Gl X x := by rfl) (hdb : (x == ("__debug__" : Str)) = false := by decide)
    (he : starEach (e :: es) X.env = (false, eval e X.env) :: starEach es X.env := by rfl) (hpl : (backTo pos (starEach es X.env)).any (·.1) = false := by rfl) :
    PE X (.Call (.Name x p) (e :: es) [] pos) (tMake C sp dvs E t) := by
  obtain ⟨f, fd, ds, h1, h2, h3, h4, h5⟩ := D.ex
  exact pe_make h1 h2 hr hg hm h3 h5 hx ha hdb he hpl
end
/-- all parameters of a def with defaults are given -/
theorem binds_all {K : PySem.W.Frag} {x qual : Str} {params : Arguments} {body : List Stmt} {scope : Scope} {dvs : List V} {kws : List (Str × V)} {f : Addr} {fd : FuncData} {ps : List Str} (F : FunD K x qual params body scope dvs kws f fd)
    (h : ∀ (dV kV doc pm : Value) (an : Option Addr) (cdv ct : Value) (us : List Value), us.length = ps.length → bindArgs (PySem.W.fnOf x qual params body scope dV kV doc pm an cdv ct) ⟨us, []⟩ = pure (ps.zip us)) : Binds K fd ps [] := by
  obtain ⟨oc, od, dV, kV, doc, pm, an, cdv, ct, osl, rfl, _⟩ := F.ex
  exact .all fun us hl => h dV kV doc pm an cdv ct us hl
/-! ### readings, step by step -/
section
variable {D : Ends} {σ : L2.St} {H : Hp} {Q : VK} {QB : Bool → Hp → Prop} {QL : List V → Hp → Prop} {t u : TS} {te ta tb : TE} {c c1 c2 : TT} {g : TG} {tr : TA} {i j : Nat} {v x y : V} {r : R2} {K : PySem.W.Frag}
theorem rd_seq (h : t { D with nx := u D } σ H) : tSeq t u D σ H := h
theorem rd_next (h : D.nx σ H) : tNext D σ H := h
theorem rd_asg (h : te σ H fun x H1 => g x σ H1 D.nx) : tAsg te g D σ H := h
theorem rd_drop (h : te σ H fun _ H1 => D.nx σ H1) : tDrop te D σ H := h
theorem rd_ret (h : te σ H D.rt) : tRet te D σ H := h
theorem rd_retN (h : D.rt .non H) : tRetN D σ H := h
theorem rd_ifS (h : c σ H fun b H1 => if b = true then t D σ H1 else u D σ H1) : tIfS c t u D σ H := h
/-- an if whose ways meet: M holds behind it -/
theorem rd_if2 (M : L2.St → Hp → Prop) (rest : ∀ σ' H', M σ' H' → D.nx σ' H') (h : (∀ σ' H', M σ' H' → D.nx σ' H') → c σ H fun b H1 => if b = true then t D σ H1 else u D σ H1) : tIfS c t u D σ H := h rest
theorem rd_par (h : ta σ H fun x H1 => tb σ H1 fun y H2 => D.nx ((σ.set i (some x)).set j (some y)) H2) : tPar i j (tCons ta (tCons tb tNil)) D σ H := by
  refine (show ta σ H (fun x H1 => tb σ H1 fun y H2 => ∃ v w, [x, y] = [v, w] ∧ D.nx ((σ.set i (some v)).set j (some w)) H2) from ?_)
  have e : (fun (x : V) (H1 : Hp) => tb σ H1 fun y H2 => ∃ v w, [x, y] = [v, w] ∧ D.nx ((σ.set i (some v)).set j (some w)) H2) = (fun x H1 => tb σ H1 fun y H2 => D.nx ((σ.set i (some x)).set j (some y)) H2) := by
    funext x H1
    congr 1
    funext y H2
    apply propext
    constructor
    · rintro ⟨v, w, q, z⟩
      cases q
      exact z
    · intro z
      exact ⟨x, y, rfl, z⟩
  rw [e]
  exact h
theorem rd_name {Qs : L2.St → Hp → Prop} (h : Qs (σ.set i (some v)) H) : gName i v σ H Qs := h
theorem rd_var (e : σ[i]? = some (some v)) (h : Q v H) : tVar i σ H Q := ⟨v, e, h⟩
theorem rd_c (h : Q v H) : tC v σ H Q := h
theorem rd_op (h : ta σ H fun x H1 => tb σ H1 fun y H2 => r x y H2 Q) : tOp r ta tb σ H Q := h
theorem rd_un {r : V → Hp → VK → Prop} (h : ta σ H fun x H1 => r x H1 Q) : tUn r ta σ H Q := h
theorem rd_U {f : Int → V} {n : Int} (h : Q (f n) H) : rU f (.int n) H Q := ⟨n, rfl, h⟩
theorem rd_I0 {f : Int → Int → V} {a b : Int} (h : Q (f a b) H) : rI0 f (.int a) (.int b) H Q := ⟨a, b, rfl, rfl, h⟩
theorem rd_I {C : Int → Int → Prop} {f : Int → Int → V} {a b : Int} (hc : C a b) (h : Q (f a b) H) : rI C f (.int a) (.int b) H Q := ⟨a, b, rfl, rfl, hc, h⟩
def kB (Q : Bool → Hp → Prop) : VK := fun x H1 => ∃ k, x = .bl k ∧ Q k H1
theorem rd_kB {b : Bool} (h : QB b H) : kB QB (.bl b) H := ⟨b, rfl, h⟩
theorem rd_test (h : te σ H (kB QB)) : tTest te σ H QB := h
theorem rd_B (h : te σ H (kB QB)) : tB te σ H QB := h
theorem rd_and (h : c1 σ H fun b H1 => if b = true then c2 σ H1 QB else QB false H1) : tAnd c1 c2 σ H QB := h
theorem rd_or (h : c1 σ H fun b H1 => if b = true then QB true H1 else c2 σ H1 QB) : tOr c1 c2 σ H QB := h
theorem rd_not (h : c σ H fun b H1 => QB (!b) H1) : tNot c σ H QB := h
theorem rd_andV (h : ta σ H (kB fun b H1 => if b = true then tb σ H1 Q else Q (.bl false) H1)) : tAndV ta tb σ H Q := h
theorem rd_orV (h : ta σ H (kB fun b H1 => if b = true then Q (.bl true) H1 else tb σ H1 Q)) : tOrV ta tb σ H Q := h
theorem rd_notV (h : ta σ H (kB fun b H1 => Q (.bl (!b)) H1)) : tNotV ta σ H Q := h
theorem rd_if (h : c σ H fun b H1 => if b = true then ta σ H1 Q else tb σ H1 Q) : tIf c ta tb σ H Q := h
theorem rd_eq (hs : scal x y = true) (h : Q (.bl (decide (x = y))) H) : rEq x y H Q := ⟨hs, h⟩
theorem rd_ne (hs : scal x y = true) (h : Q (.bl (!decide (x = y))) H) : rNe x y H Q := ⟨hs, h⟩
theorem rd_eqI {a b : Int} (h : Q (.bl (decide (a = b))) H) : rEq (.int a) (.int b) H Q := by
  refine ⟨rfl, ?_⟩
  have e : decide (V.int a = V.int b) = decide (a = b) := by by_cases q : a = b <;> simp [q]
  rw [e]
  exact h
theorem rd_neI {a b : Int} (h : Q (.bl (!decide (a = b))) H) : rNe (.int a) (.int b) H Q := by
  refine ⟨rfl, ?_⟩
  have e : decide (V.int a = V.int b) = decide (a = b) := by by_cases q : a = b <;> simp [q]
  rw [e]
  exact h
theorem rd_cons (h : ta σ H fun x H1 => tr σ H1 fun xs H2 => QL (x :: xs) H2) : tCons ta tr σ H QL := h
theorem rd_nil (h : QL [] H) : tNil σ H QL := h
theorem rd_call {sp : Sp} {dvs : List V} {E : XK} (h : tr σ H fun vs H1 => sp (vs ++ dvs) H1 Q E) : tCall sp dvs E tr σ H Q := h
theorem rd_callS {sp : Sp} {ES : L2.St → XK} (h : tr σ H fun vs H1 => sp vs H1 Q (ES σ)) : tCallS sp ES tr σ H Q := h
def kMake (C : Addr) (sp : Sp) (dvs : List V) (E : XK) (Q : VK) : List V → Hp → Prop := fun vs H1 => ∀ x dx, H1 x = none → H1 dx = none → dx ≠ x → sp (.ref x :: (vs ++ dvs)) (upd (upd H1 dx (.own x)) x (.ins C dx [])) (fun v H2 => v = .non ∧ Q (.ref x) H2) E
theorem rd_make {sp : Sp} {dvs : List V} {E : XK} {C : Addr} (h : tr σ H (kMake C sp dvs E Q)) : tMake C sp dvs E tr σ H Q := h
theorem rd_CB {r : List V → Hp → VK → Prop} (h : tr σ H fun vs H1 => r vs H1 Q) : tCB r tr σ H Q := h
def kTup (Q : VK) : List V → Hp → Prop := fun xs H1 => xs.length ≤ sizeLine ∧ ∀ p, H1 p = none → Q (.ref p) (upd H1 p (.tup xs))
def kLst (Q : VK) : List V → Hp → Prop := fun xs H1 => xs.length ≤ sizeLine ∧ ∀ p, H1 p = none → Q (.ref p) (upd H1 p (.lst xs))
theorem rd_tup (h : tr σ H (kTup Q)) : tTup tr σ H Q := h
theorem rd_lst (h : tr σ H (kLst Q)) : tLst tr σ H Q := h
theorem rd_kTup {xs : List V} (hl : Nat.ble xs.length 1000 = true) (h : ∀ p, H p = none → Q (.ref p) (upd H p (.tup xs))) : kTup Q xs H := ⟨Nat.le_trans (Nat.le_of_ble_eq_true hl) (by decide), h⟩
theorem rd_kLst {xs : List V} (hl : Nat.ble xs.length 1000 = true) (h : ∀ p, H p = none → Q (.ref p) (upd H p (.lst xs))) : kLst Q xs H := ⟨Nat.le_trans (Nat.le_of_ble_eq_true hl) (by decide), h⟩
theorem rd_ixL {p : Addr} {xs : List V} {n : Int} (hl : SqL K H p xs) (ha : atI xs n = some v) (h : Q v H) : rIxL K (.ref p) (.int n) H Q := ⟨p, xs, n, v, rfl, rfl, hl, ha, h⟩
theorem rd_ixT {p : Addr} {xs : List V} {n : Int} (hl : SqT K H p xs) (ha : atI xs n = some v) (h : Q v H) : rIxT K (.ref p) (.int n) H Q := ⟨p, xs, n, v, rfl, rfl, hl, ha, h⟩
theorem rd_mul {a b : Int} (hc : CMulA a b) (h : Q (.int (a * b)) H) : rMulA (.int a) (.int b) H Q := ⟨a, b, rfl, rfl, hc, h⟩
theorem rd_div {a b : Int} (hc : CDivA a b) (h : Q (.int (a.fdiv b)) H) : rDivA (.int a) (.int b) H Q := ⟨a, b, rfl, rfl, hc, h⟩
theorem rd_divP {a b : Int} (h0 : 0 < b) (hc : CDivA a b) (h : Q (.int (a / b)) H) : rDivA (.int a) (.int b) H Q := ⟨a, b, rfl, rfl, hc, (show Q (.int (a.fdiv b)) H by rw [fdiv_pos h0]; exact h)⟩
theorem rd_mod {a b : Int} (hc : b ≠ 0) (h : Q (.int (a.fmod b)) H) : rModA (.int a) (.int b) H Q := ⟨a, b, rfl, rfl, hc, h⟩
theorem rd_modP {a b : Int} (h0 : 0 < b) (h : Q (.int (a % b)) H) : rModA (.int a) (.int b) H Q := ⟨a, b, rfl, rfl, (by omega : b ≠ 0), (show Q (.int (a.fmod b)) H by rw [fmod_pos h0]; exact h)⟩
theorem rd_pow {a b : Int} (h0 : 0 ≤ b) (h1 : b ≤ 1000000) (h2 : a.natAbs < 2 ^ 64) (h : Q (.int (a ^ b.toNat)) H) : rPowA (.int a) (.int b) H Q := ⟨a, b, rfl, rfl, ⟨h0, h1, h2⟩, h⟩
theorem rd_int {a : Int} (h : Q (.int a) H) : rInt [.int a] H Q := .inl ⟨a, rfl, h⟩
theorem rd_intB {b : Bool} (h : Q (.int (if b then 1 else 0)) H) : rInt [.bl b] H Q := .inr ⟨b, rfl, h⟩
theorem rd_abs {a : Int} (h : Q (.int (if a < 0 then -a else a)) H) : rAbs [.int a] H Q := ⟨a, rfl, h⟩
theorem ite_d {p : Prop} [Decidable p] {A B : Prop} (h1 : p → A) (h2 : ¬ p → B) : if decide p = true then A else B := by
  by_cases h : p
  · rw [if_pos (decide_eq_true h)]; exact h1 h
  · rw [if_neg (by simp [h])]; exact h2 h
theorem ite_nd {p : Prop} [Decidable p] {A B : Prop} (h1 : ¬ p → A) (h2 : p → B) : if (!decide p) = true then A else B := by
  by_cases h : p
  · rw [if_neg (by simp [h])]; exact h2 h
  · rw [if_pos (by simp [h])]; exact h1 h
theorem ite_b {b : Bool} {A B : Prop} (h1 : b = true → A) (h2 : b = false → B) : if b = true then A else B := by
  cases b with
  | true => exact iteT (h1 rfl)
  | false => exact iteF (h2 rfl)
theorem rd_len {p : Addr} {ys : List V} (h : SqL K H p ys) (q : Q (.int ys.length) H) : rLen K [.ref p] H Q := ⟨p, ys, rfl, .inl h, q⟩
theorem rd_lenT {p : Addr} {ys : List V} (h : SqT K H p ys) (q : Q (.int ys.length) H) : rLen K [.ref p] H Q := ⟨p, ys, rfl, .inr h, q⟩
theorem rd_listOf {p : Addr} {ys : List V} (h : SqL K H p ys) (k : ∀ l, H l = none → Q (.ref l) (upd H l (.lst ys))) : rListOf K [.ref p] H Q := ⟨p, ys, rfl, .inl h, k⟩
theorem rd_sum {p : Addr} {ns : List Int} (h : SqL K H p (ns.map V.int)) (hz : ns.length ≤ 100000) (k : Q (.int ns.sum) H) : rSum K [.ref p] H Q := by
  refine ⟨p, ns, rfl, ?_⟩
  first | exact ⟨.inl h, k⟩ | exact ⟨h, k⟩ | exact ⟨h, Nat.le_trans hz (by decide), k⟩ | exact ⟨.inl h, Nat.le_trans hz (by decide), k⟩
def kFld (K : PySem.W.Frag) (f : Str) (Q : VK) : VK := fun x H1 => ∃ a C dx fs v, x = .ref a ∧ H1 a = some (.ins C dx fs) ∧ Cls K C ∧ NoAttr K C f ∧ fs.lookup f = some v ∧ Q v H1
theorem rd_fld {f : Str} (h : ta σ H (kFld K f Q)) : tFld K ta f σ H Q := h
theorem rd_kFld {f : Str} {a C dx : Addr} {fs : List (Str × V)} (ho : H a = some (.ins C dx fs)) (c : Cls K C) (n : NoAttr K C f) (l : fs.lookup f = some v) (q : Q v H) : kFld K f Q (.ref a) H := ⟨a, C, dx, fs, v, rfl, ho, c, n, l, q⟩
def kSet (K : PySem.W.Frag) (f : Str) (y : V) (N : Hp → Prop) : VK := fun x H2 => ∃ a C dx fs, x = .ref a ∧ H2 a = some (.ins C dx fs) ∧ Cls K C ∧ NoAttr K C f ∧ fs.length < 1000 ∧ N (upd H2 a (.ins C dx (putF f y fs)))
theorem rd_sfld {f : Str} {tv : TE} (h : tv σ H fun y H1 => ta σ H1 (kSet K f y (D.nx σ))) : sFld K ta tv f D σ H := h
theorem rd_kSet {f : Str} {N : Hp → Prop} {a C dx : Addr} {fs : List (Str × V)} (ho : H a = some (.ins C dx fs)) (c : Cls K C) (n : NoAttr K C f) (l : Nat.blt fs.length 1000 = true) (q : N (upd H a (.ins C dx (putF f y fs)))) : kSet K f y N (.ref a) H := ⟨a, C, dx, fs, rfl, ho, c, n, (by have z : fs.length + 1 ≤ 1000 := Nat.le_of_ble_eq_true l; exact z), q⟩
theorem rd_isi {z c : V} {tt uu : Value} {b : Bool} (k : ClsV c uu) (ty : TyX K H z tt) (e : PySem.W.kitOne K tt uu = some b) (q : Q (.bl b) H) : rIsi K [z, c] H Q := ⟨z, c, tt, uu, b, rfl, k, ty, e, q⟩
theorem rd_gcd {a b : Int} (q : Q (.int ((Nat.gcd a.natAbs b.natAbs : Nat) : Int)) H) : rGcd [.int a, .int b] H Q := ⟨a, b, rfl, q⟩
theorem rd_powC {a b n : Int} (h0 : 0 ≤ b) (h1 : b ≤ 1000000) (h2 : a.natAbs < 2 ^ 64) (e : a ^ b.toNat = n) (h : Q (.int n) H) : rPowA (.int a) (.int b) H Q := ⟨a, b, rfl, rfl, ⟨h0, h1, h2⟩, by subst e; exact h⟩
theorem rd_gtup {ts : TGs} {n : Nat} {Qs : L2.St → Hp → Prop} {p : Addr} {xs : List V} (hs : SqT K H p xs) (hn : xs.length = n) (h : ts xs σ H Qs) : gTup K n ts (.ref p) σ H Qs := ⟨p, xs, rfl, hs, hn, h⟩
theorem rd_gcons {ts : TGs} {xs : List V} {Qs : L2.St → Hp → Prop} (h : g x σ H fun σ' H' => ts xs σ' H' Qs) : gCons g ts (x :: xs) σ H Qs := ⟨x, xs, rfl, h⟩
theorem rd_gnil {Qs : L2.St → Hp → Prop} (h : Qs σ H) : gNil [] σ H Qs := ⟨rfl, h⟩
theorem kit_same {t : Value} (h : (t == t) = true := by rfl) : PySem.W.kitOne K t t = some true := if_pos h
theorem rd_cat {l b : Addr} {xs zs : List V} (h1 : H l = some (.lst xs)) (h2 : H b = some (.lst zs)) (hz : xs.length + zs.length ≤ 100000) (k : ∀ p, H p = none → Q (.ref p) (upd H p (.lst (xs ++ zs)))) : rCat (.ref l) (.ref b) H Q :=
  ⟨l, b, xs, zs, rfl, rfl, h1, h2, Nat.le_trans hz (by decide), k⟩
theorem rd_sl {r : V → Option Int → Option Int → Hp → VK → Prop} {tl th : TO} (h : te σ H fun x H1 => tl σ H1 fun l H2 => th σ H2 fun u H3 => r x l u H3 Q) : tSl r te tl th σ H Q := h
theorem rd_noPart {QO : Option Int → Hp → Prop} (h : QO none H) : tNoPart σ H QO := h
def kPart (QO : Option Int → Hp → Prop) : VK := fun x H1 => ∃ i, x = .int i ∧ QO (some i) H1
theorem rd_part {QO : Option Int → Hp → Prop} (h : te σ H (kPart QO)) : tPart te σ H QO := h
theorem rd_kPart {QO : Option Int → Hp → Prop} {n : Int} (h : QO (some n) H) : kPart QO (.int n) H := ⟨n, rfl, h⟩
theorem rd_slL {a : Addr} {xs : List V} {lo hi : Option Int} (hs : SqL K H a xs) (k : ∀ p, H p = none → Q (.ref p) (upd H p (.lst (cutV xs lo hi)))) : rSlL K (.ref a) lo hi H Q := ⟨a, xs, rfl, hs, k⟩
def kFor (K : PySem.W.Frag) (g : TG) (tb : TS) (D : Ends) (σ : L2.St) : VK := fun x H1 => ∃ a, x = .ref a ∧ (∃ xs, SqL K H1 a xs) ∧ ∃ W : Nat → Nat → L2.St → Hp → Prop, (∃ m, W 0 m σ H1) ∧ ∀ i m σ H, W i m σ H →
  ((Itl K a).stop i H ∧ D.nx σ H) ∨ ((Itl K a).go i H ∧ ∃ N : L2.St → Hp → Prop, (∀ σ' H', N σ' H' → ∃ m', m' < m ∧ W (i + 1) m' σ' H') ∧ ∀ x H', (Itl K a).yld i H x H' → g x σ H' fun σ2 H2 => tb { D with nx := N, ct := N, bk := D.nx } σ2 H2)
theorem rd_for {tb : TS} (h : te σ H (kFor K g tb D σ)) : tFor (iList K te) g tb D σ H := h
theorem rd_kFor {tb : TS} {a : Addr} {xs : List V} (Pv : Nat → L2.St → Hp → Prop) (hq : SqL K H a xs) (h0 : Pv 0 σ H) (hl : ∀ i σ H, i ≤ xs.length → Pv i σ H → SqL K H a xs)
    (hs : ∀ i x σ H, xs[i]? = some x → Pv i σ H → g x σ H fun σ2 H2 => tb { D with nx := Pv (i + 1), ct := Pv (i + 1), bk := D.nx } σ2 H2) (hd : ∀ σ H, Pv xs.length σ H → D.nx σ H) : kFor K g tb D σ (.ref a) H := ⟨a, rfl, ⟨xs, hq⟩, for_list Pv h0 hl hs hd⟩
/-- a list made item by item, without a test; J i acc D H: i items are done, acc stands at D -/
def kLc (K : PySem.W.Frag) (g : TG) (te : TE) (vs : List Nat) (σ : L2.St) (Q : VK) : VK := fun x H1 => ∃ a, x = .ref a ∧ (∃ xs, SqL K H1 a xs) ∧ ∀ D, H1 D = none → ∃ W : Nat → Nat → Hp → Prop, (∃ m, W 0 m (upd H1 D (.lst []))) ∧ ∀ i m H, W i m H →
  ((Itl K a).stop i H ∧ Q (.ref D) H) ∨ ((Itl K a).go i H ∧ ∃ Nx : Hp → Prop, (∀ H', Nx H' → ∃ m', m' < m ∧ W (i + 1) m' H') ∧ ∀ x H', (Itl K a).yld i H x H' → g x (wipe σ vs) H' fun σ2 H2 => wipe σ2 vs = wipe σ vs ∧ tYes σ2 H2 fun b H3 =>
    if b = true then te σ2 H3 fun y H4 => ∃ acc, H4 D = some (.lst acc) ∧ acc.length < sizeLine ∧ Nx (upd H4 D (.lst (acc ++ [y]))) else Nx H3)
theorem rd_lc {vs : List Nat} (h : ta σ H (kLc K g te vs σ Q)) : tLc (iList K ta) g tYes te vs σ H Q := h
def kLcEnd (J : Nat → List V → Addr → Hp → Prop) (D : Addr) (i : Nat) : VK := fun y H4 => ∃ acc, H4 D = some (.lst acc) ∧ acc.length < sizeLine ∧ ∃ acc2, acc2.length = i + 1 ∧ upd H4 D (.lst (acc ++ [y])) D = some (.lst acc2) ∧ J (i + 1) acc2 D (upd H4 D (.lst (acc ++ [y])))
theorem rd_lcEnd {J : Nat → List V → Addr → Hp → Prop} {D : Addr} {i : Nat} {acc : List V} {y : V} (h1 : H D = some (.lst acc)) (h2 : acc.length = i) (hz : i < 200000) (h3 : J (i + 1) (acc ++ [y]) D (upd H D (.lst (acc ++ [y])))) : kLcEnd J D i y H :=
  ⟨acc, h1, by rw [h2]; exact Nat.lt_trans hz (by decide), acc ++ [y], by rw [List.length_append, h2]; rfl, upd_same, h3⟩
theorem rd_kLc {vs : List Nat} {a : Addr} {xs : List V} (J : Nat → List V → Addr → Hp → Prop) (hq : SqL K H a xs) (h0 : ∀ D, H D = none → J 0 [] D (upd H D (.lst []))) (hl : ∀ i acc D H', J i acc D H' → SqL K H' a xs)
    (hs : ∀ i x acc D H', H D = none → i < xs.length → xs[i]? = some x → H' D = some (.lst acc) → acc.length = i → J i acc D H' → g x (wipe σ vs) H' fun σ2 H2 => wipe σ2 vs = wipe σ vs ∧ te σ2 H2 (kLcEnd J D i))
    (mono : ∀ x H' (Q1 Q2 : L2.St → Hp → Prop), (∀ s h, Q1 s h → Q2 s h) → g x (wipe σ vs) H' Q1 → g x (wipe σ vs) H' Q2)
    (hd : ∀ acc D H', H D = none → acc.length = xs.length → H' D = some (.lst acc) → J xs.length acc D H' → Q (.ref D) H') : kLc K g te vs σ Q (.ref a) H := by
  refine ⟨a, rfl, ⟨xs, hq⟩, fun D hD => ?_⟩
  refine lc_list (fun i H' => ∃ acc, acc.length = i ∧ H' D = some (.lst acc) ∧ J i acc D H') ⟨[], rfl, upd_same, h0 D hD⟩ (fun i H' _ ⟨acc, _, _, j⟩ => hl i acc D H' j) ?_ fun H' ⟨acc, e, h, j⟩ => hd acc D H' hD e h j
  rintro i x H' hx ⟨acc, e, h, j⟩
  refine mono x H' _ _ (fun s h' z => ?_) (hs i x acc D H' hD (List.getElem?_eq_some_iff.mp hx).1 hx h e j)
  refine ⟨z.1, ?_⟩
  unfold tYes
  dsimp only
  rw [if_pos rfl]
  exact z.2
theorem g_mono (i : Nat) (vs : List Nat) : ∀ x H' (Q1 Q2 : L2.St → Hp → Prop), (∀ s h, Q1 s h → Q2 s h) → gName i x (wipe σ vs) H' Q1 → gName i x (wipe σ vs) H' Q2 := fun _ _ _ _ f q => f _ _ q
def rRevL (K : PySem.W.Frag) (Q : VK) : VK := fun x H1 => ∃ a xs, x = .ref a ∧ SqL K H1 a xs ∧ ∀ p, H1 p = none → Q (.ref p) (upd H1 p (.lst xs.reverse))
theorem rd_rev (h : te σ H (rRevL K Q)) : tRevL K te σ H Q := h
theorem rd_kRev {a : Addr} {xs : List V} (hq : SqL K H a xs) (k : ∀ p, H p = none → Q (.ref p) (upd H p (.lst xs.reverse))) : rRevL K Q (.ref a) H := ⟨a, xs, rfl, hq, k⟩
def kRng1 (g : TG) (tb : TS) (D : Ends) (σ : L2.St) : List V → Hp → Prop := fun vs H1 => ∃ j : Int, vs = [.int j] ∧ -(2 ^ 62) ≤ j ∧ j < 2 ^ 62 ∧ ∃ W : Nat → Nat → L2.St → Hp → Prop, (∃ m, W 0 m σ H1) ∧ ∀ i m σ H, W i m σ H →
  ((Itr 0 j.toNat).stop i H ∧ D.nx σ H) ∨ ((Itr 0 j.toNat).go i H ∧ ∃ N : L2.St → Hp → Prop, (∀ σ' H', N σ' H' → ∃ m', m' < m ∧ W (i + 1) m' σ' H') ∧ ∀ x H', (Itr 0 j.toNat).yld i H x H' → g x σ H' fun σ2 H2 => tb { D with nx := N, ct := N, bk := D.nx } σ2 H2)
theorem rd_forR {tb : TS} (h : tr σ H (kRng1 g tb D σ)) : tFor (iRng1 tr) g tb D σ H := h
theorem rd_kRng1 {tb : TS} {j : Int} (h1 : -(2 ^ 62) ≤ j) (h2 : j < 2 ^ 62) (Pv : Nat → L2.St → Hp → Prop) (h0 : Pv 0 σ H)
    (hs : ∀ i σ H, i < j.toNat → Pv i σ H → g (.int (0 + i)) σ H fun σ2 H2 => tb { D with nx := Pv (i + 1), ct := Pv (i + 1), bk := D.nx } σ2 H2) (hd : ∀ σ H, Pv j.toNat σ H → D.nx σ H) : kRng1 g tb D σ [.int j] H := ⟨j, rfl, h1, h2, for_range (lo := 0) (n := j.toNat) Pv h0 hs hd⟩
def kRng2 (g : TG) (tb : TS) (D : Ends) (σ : L2.St) : List V → Hp → Prop := fun vs H1 => ∃ i j : Int, vs = [.int i, .int j] ∧ (-(2 ^ 62) ≤ i ∧ i < 2 ^ 62 ∧ -(2 ^ 62) ≤ j ∧ j < 2 ^ 62) ∧ ∃ W : Nat → Nat → L2.St → Hp → Prop, (∃ m, W 0 m σ H1) ∧ ∀ k m σ H, W k m σ H →
  ((Itr i (j - i).toNat).stop k H ∧ D.nx σ H) ∨ ((Itr i (j - i).toNat).go k H ∧ ∃ N : L2.St → Hp → Prop, (∀ σ' H', N σ' H' → ∃ m', m' < m ∧ W (k + 1) m' σ' H') ∧ ∀ x H', (Itr i (j - i).toNat).yld k H x H' → g x σ H' fun σ2 H2 => tb { D with nx := N, ct := N, bk := D.nx } σ2 H2)
theorem rd_forR2 {tb : TS} (h : tr σ H (kRng2 g tb D σ)) : tFor (iRng2 tr) g tb D σ H := h
theorem rd_kRng2 {tb : TS} {a b : Int} (h1 : -(2 ^ 62) ≤ a ∧ a < 2 ^ 62 ∧ -(2 ^ 62) ≤ b ∧ b < 2 ^ 62) (Pv : Nat → L2.St → Hp → Prop) (h0 : Pv 0 σ H)
    (hs : ∀ i σ H, i < (b - a).toNat → Pv i σ H → g (.int (a + i)) σ H fun σ2 H2 => tb { D with nx := Pv (i + 1), ct := Pv (i + 1), bk := D.nx } σ2 H2) (hd : ∀ σ H, Pv (b - a).toNat σ H → D.nx σ H) : kRng2 g tb D σ [.int a, .int b] H := ⟨a, b, rfl, h1, for_range (lo := a) (n := (b - a).toNat) Pv h0 hs hd⟩
theorem rd_glst {ts : TGs} {n : Nat} {Qs : L2.St → Hp → Prop} {p : Addr} {xs : List V} (hs : SqL K H p xs) (hn : xs.length = n) (h : ts xs σ H Qs) : gLst K n ts (.ref p) σ H Qs := ⟨p, xs, rfl, hs, hn, h⟩
theorem rd_rep {l : Addr} {xs : List V} {k : Int} (h : H l = some (.lst xs)) (h1 : 0 ≤ k) (h2 : k ≤ 100000) (h3 : xs.length * k.toNat ≤ 1000000) (q : ∀ p, H p = none → Q (.ref p) (upd H p (.lst (List.replicate k.toNat xs).flatten))) : rRep (.ref l) (.int k) H Q :=
  ⟨l, k, xs, rfl, rfl, h, by omega, by omega, Nat.le_trans h3 (by decide), q⟩
def kApp (l : Addr) (Q : VK) : VK := fun y H2 => ∃ xs, H2 l = some (.lst xs) ∧ xs.length < sizeLine ∧ Q .non (upd H2 l (.lst (xs ++ [y])))
theorem rd_app {i : Nat} {l : Addr} {xs : List V} (e : σ[i]? = some (some (.ref l))) (hl : H l = some (.lst xs)) (h : te σ H (kApp l Q)) : tBM K "list" rAppend (tVar i) (tCons te tNil) σ H Q := by
  refine ⟨.ref l, e, .inl ⟨rfl, _, SqL.of hl⟩, ?_⟩
  have q : (fun (x : V) (H1 : Hp) => rAppend (.ref l) [x] H1 Q) = kApp l Q := by
    funext y H2
    apply propext
    constructor
    · rintro ⟨l', xs, y', e1, e2, a, b, c⟩
      cases e1
      cases e2
      exact ⟨xs, a, b, c⟩
    · rintro ⟨xs, a, b, c⟩
      exact ⟨l, xs, y, rfl, rfl, a, b, c⟩
  show te σ H (fun (x : V) (H1 : Hp) => rAppend (.ref l) [x] H1 Q)
  rw [q]
  exact h
theorem rd_kApp {l : Addr} {xs : List V} {y : V} (h : H l = some (.lst xs)) (hz : xs.length < 100000) (k : Q .non (upd H l (.lst (xs ++ [y])))) : kApp l Q y H := ⟨xs, h, Nat.lt_trans hz (by decide), k⟩
theorem rd_int1 {a : Int} (h : Q (.int a) H) : (∃ i, [V.int a] = [.int i] ∧ Q (.int i) H) ∨ ∃ k, [V.int a] = [.bl k] ∧ Q (.int (if k then 1 else 0)) H := .inl ⟨a, rfl, h⟩
theorem rd_int1b {b : Bool} (h : Q (.int (if b then 1 else 0)) H) : (∃ i, [V.bl b] = [.int i] ∧ Q (.int i) H) ∨ ∃ k, [V.bl b] = [.bl k] ∧ Q (.int (if k then 1 else 0)) H := .inr ⟨b, rfl, h⟩
theorem rd_sub {to ti : TE} {ts : TSet} {Qs : L2.St → Hp → Prop} (h : to σ H fun o H1 => ti σ H1 fun i H2 => ts o i v H2 fun H3 => Qs σ H3) : gSub to ti ts v σ H Qs := h
theorem rd_setL {p : Addr} {xs : List V} {n : Int} {j : Nat} {QH : Hp → Prop} (hl : H p = some (.lst xs)) (hj : ixN xs.length n = some j) (h : QH (upd H p (.lst (xs.set j v)))) : rSetL (.ref p) (.int n) v H QH := ⟨p, xs, n, j, rfl, rfl, hl, hj, h⟩
end
/-- a step of a reading -/
local macro_rules | `(tactic| walk_at "rd") => `(tactic| with_reducible (first
  | refine rd_seq ?_ | refine rd_var rfl ?_ | refine rd_op ?_ | refine rd_c ?_ | refine rd_asg ?_ | refine rd_name ?_ | refine rd_I0 ?_ | refine rd_ifS ?_ | refine rd_test ?_ | refine rd_kB ?_
  | refine rd_ret ?_ | refine rd_cons ?_ | refine rd_nil ?_ | refine rd_call ?_ | refine rd_make ?_ | refine rd_CB ?_ | refine rd_par ?_ | refine rd_lst ?_ | refine rd_tup ?_ | refine rd_un ?_ | refine rd_U ?_
  | refine rd_eqI ?_ | refine rd_neI ?_ | refine rd_and ?_ | refine rd_or ?_ | refine rd_not ?_ | refine rd_B ?_ | refine rd_andV ?_ | refine rd_orV ?_ | refine rd_notV ?_ | refine rd_if ?_ | refine rd_drop ?_ | refine rd_next ?_ | refine rd_retN ?_ | refine rd_sub ?_))
end My
set_option Elab.async false
set_option linter.all false
namespace My
open PySem PySem.Spec PyProof.Rows L2
/-! ### defs whose promise wants that no repr is under way (guards) -/
theorem deeper_guards (A : Around) (env : Env) : (A.deeper env).guards = A.guards := rfl
structure FnG (P : Program) (w : World) (K : PySem.W.Frag) (mg : Str → Option Value) (base : Heap) (CX : CXT) (k : Nat) (f : Addr) (fd : FuncData) (ps : List Str) (sp : Sp) : Prop where
  many : ∀ vs H Q E, sp vs H Q E → vs.length = ps.length
  goes : ∀ A : Around, A.guards = some [] → Room k A → ∀ (outer : List Env) (s : Shared) (H : Hp), Env0 P w K mg base A outer s H → ∀ (given : Args) (us : List Value) (vs : List V), BindsTo s fd given (ps.zip us) → Vals vs us → ∀ (Q : VK) (E : XK), sp vs H Q E →
    codeAny (model P w) A (.call (.ref f) given) (CR CX outer P w H s Q E) s
section
variable {P : Program} {w : World} {K : PySem.W.Frag} {mg : Str → Option Value} {base : Heap} {CX : CXT} {k : Nat} {f : Addr} {fd : FuncData} {ps : List Str} {sp : Sp}
theorem FnG.of (F : FnOk P w K mg base CX k f fd ps sp) : FnG P w K mg base CX k f fd ps sp :=
  ⟨F.len, fun A _ hr outer s H e0 given us vs hb hv Q E h => F.run A outer s H given us vs Q E hr e0 hb hv h⟩
/-- the rule for a def, its body as a term, with the guards told -/
theorem okG_any {x qual : Str} {st : Stmt} {N : List Str} (F : Fun K x qual st f fd) (S : FnScope N ps (defScope st)) (many : ∀ vs H Q E, sp vs H Q E → vs.length = ps.length)
    (hb : ∀ (cdv : Value) (A : Around) (outer : List Env) (s : Shared) (H : Hp) (vs : List V) (Q : VK) (E : XK), A.guards = some [] → Room k (A.deeper (envOfC qual (defScope st) s.heap.objs.size f cdv)) → sp vs H Q E →
      ∃ t, PSs (cxOf CX P w K mg base N qual (defScope st) f cdv A outer s H E) (defBody st) t ∧ t { nx := fun _ H' => Q .non H', rt := Q } (start N vs) H) : FnG P w K mg base CX (k + 1) f fd ps sp := by
  obtain ⟨oc, od, kV, doc, pm, an, cdv, ct, osl, rfl, lk, hcd⟩ := F.ex
  constructor
  · exact many
  intro A hgu hr outer s H e0 given us vs hbd r Q E hsp
  have inK : K.In s.heap := e0.mod.kin.keeps (fun b o q => (e0.bs b o q).1)
  have noL : s.heap.NoLimit := e0.mod.nolimit.keeps (fun b o q => (e0.bs b o q).1)
  have kinds : ∀ y ∈ ps.zip us, (defScope st).names.lookup y.1 = some .local ∨ ((defScope st).names.lookup y.1 = some .cell ∧ ((cellsFrom (s.heap.objs.size + 1) (defScope st).names []).lookup y.1).isSome = true) := by
    rintro ⟨n, v⟩ hy
    cases S.par n (List.of_mem_zip hy).1 with
    | inl q => exact Or.inl q
    | inr q => exact Or.inr ⟨q, PySem.W.cellsFrom_some _ _ _ (Or.inl q)⟩
  apply codeAny_call_function hr.depth (inK _ _ lk) rfl S.co S.gen rfl (PySem.W.codeRec_of inK hcd) (hbd _ _ _ _ _)
  apply wpAny_newFunctionEnv_cells S.kind kinds
  intro env he s1 z
  subst he
  refine And.intro (noL.keeps z.toInCall.keep) (codeAny_func ?_)
  obtain ⟨t, ht, hq⟩ := hb cdv A outer s H vs Q E hgu (hr.deeper _) hsp
  have I0 := inv_start (CX := CX) (E := E) S hr.hd e0 (many _ _ _ _ hsp) r z
  refine wpAny_mono (ht.run [] s1 (start N vs) H _ I0 hq) ?_ (fun _ _ q => q)
  intro fl s' hs
  cases fl with
  | brk => exact hs.elim fun _ a => a.elim fun _ b => (b.2 : False).elim
  | cont => exact hs.elim fun _ a => a.elim fun _ b => (b.2 : False).elim
  | next =>
    obtain ⟨σ', H', J, q⟩ := hs
    exact (⟨V.non, H', J.os, J.bare, J.base, J.hok, rfl, q⟩ : CE outer P w H s Q Value.none s')
  | ret u =>
    obtain ⟨v, σ', H', J, rv, q⟩ := hs
    exact (⟨v, H', J.os, J.bare, J.base, J.hok, rv, q⟩ : CE outer P w H s Q u s')
/-- .. that lets nothing out -/
theorem okG {x qual : Str} {st : Stmt} {N : List Str} (F : Fun K x qual st f fd) (S : FnScope N ps (defScope st)) (many : ∀ vs H Q E, sp vs H Q E → vs.length = ps.length)
    (hb : ∀ (cdv : Value) (A : Around) (outer : List Env) (s : Shared) (H : Hp) (vs : List V) (Q : VK) (E : XK), A.guards = some [] → Room k (A.deeper (envOfC qual (defScope st) s.heap.objs.size f cdv)) → sp vs H Q E →
      ∃ t, PSs (cxOf CX P w K mg base N qual (defScope st) f cdv A outer s H E).nox (defBody st) t ∧ t { nx := fun _ H' => Q .non H', rt := Q } (start N vs) H) : FnG P w K mg base CX (k + 1) f fd ps sp :=
  okG_any F S many fun cdv A outer s H vs Q E hg hr h => by
    obtain ⟨t, a, b⟩ := hb cdv A outer s H vs Q E hg hr h
    exact ⟨t, a.nox, b⟩
end
structure Dg (P : Program) (w : World) (K : PySem.W.Frag) (mg : Str → Option Value) (base : Heap) (CX : CXT) (k : Nat) (x : Str) (ps : List Str) (sp : Sp) : Prop where
  ex : ∃ (f : Addr) (fd : FuncData), mg x = some (.ref f) ∧ PySem.W.keepIn K (.ref f) = true ∧ FnG P w K mg base CX k f fd ps sp ∧ Binds K fd ps []
section
variable {X : Cx} {CX : CXT} {k : Nat} {x : Str} {f : Addr} {fd : FuncData} {ps : List Str} {sp : Sp} {E : XK} {p pos : Pos} {e : Expr} {es : List Expr} {t : TA}
theorem run_G {pins : List (Addr × Obj)} {σ : L2.St} {H : Hp} {s : Shared} {Q : VK} {us : List Value} {vs : List V} (F : FnG X.prog X.w X.K X.mg X.base CX k f fd ps sp) (hr : Room k X.A) (hg : X.A.guards = some []) (hb : Binds X.K fd ps []) (hx : Passes CX X E)
    (I : Inv X pins σ H s) (r : Vals vs us) (h : sp vs H Q E) : wpAny (model X.prog X.w) X.A (call (.ref f) us) (EP X pins σ Q) X.xe s := by
  have n : us.length = ps.length := r.length.symm.trans (F.many _ _ _ _ h)
  have bd := hb s us I.kIn (by rw [List.append_nil]; exact n)
  rw [List.append_nil] at bd
  refine wpAny_call (codeAny_mono (F.goes X.A hg hr X.stack s H I.env0 _ us vs bd r Q E h) ?_)
  intro r s' hq
  match r, hq with
  | .error e, hq => exact hx pins σ H s e s' I hq
  | .ok (.ret u), hq => exact I.after hq
  | .ok .next, hq => exact (hq : False).elim
  | .ok .brk, hq => exact (hq : False).elim
  | .ok .cont, hq => exact (hq : False).elim
theorem pe_dg (D : Dg X.prog X.w X.K X.mg X.base CX k x ps sp) (hr : Room k X.A) (hgu : X.A.guards = some []) (hx : Passes CX X E) (ha : PA X (e :: es) t) (hg : Gl X x := by rfl) (hdb : (x == ("__debug__" : Str)) = false := by decide)
    (he : starEach (e :: es) X.env = (false, eval e X.env) :: starEach es X.env := by rfl) (hpl : (backTo pos (starEach es X.env)).any (·.1) = false := by rfl) :
    PE X (.Call (.Name x p) (e :: es) [] pos) (tCall sp [] E t) := by
  obtain ⟨f, fd, hm, hk, F, hb⟩ := D.ex
  constructor
  intro pins s σ H Q I h
  apply wpAny_Call_Name_kw (ld_glob I hg hm _ hdb)
  apply PySem.W.callWith_K (h₀ := X.base) I.ok.mod.kin hk _ he hpl
  apply thn (ha.run pos pins s σ H _ I h)
  rintro us s1 ⟨vs, H1, I1, r, q⟩
  rw [List.append_nil] at q
  exact ⟨I1.kIn, run_G F hr hgu hb hx I1 r q⟩
/-- repr of data -/
def rRepr (K : PySem.W.Frag) : List V → Hp → VK → Prop := fun vs H Q => ∃ (a : Addr) (d : PyData), vs = [.ref a] ∧ Dp K H (.ref a) d ∧ d.showable = true ∧ d.hasDict = false ∧ d.depth ≤ 30 ∧ d.shown.length ≤ sizeLine ∧ Q (.str d.shown) H
theorem cr_repr (hu : X.A.units + 64 < cLine) (hg : X.A.guards = some []) : CallR X (.builtin "repr") (rRepr X.K) := by
  intro pins s σ H vs us Q I r h
  obtain ⟨a, d, rfl, hd, h1, h2, h3, h4, q⟩ := h
  obtain ⟨u, rfl, ru⟩ := vals1 r
  cases (show u = Value.ref a from ru)
  obtain ⟨as, rd⟩ := Dp.reads I d _ _ hd rfl
  exact repr_of_reads' rd h1 (fun z => by rw [h2] at z; cases z) hg (by omega) (fun _ _ z => z) (fun h' u tk hk => ⟨.str d.shown, H, I.kept hk, ⟨_, rfl⟩, q⟩) h4
end
/-! ### the law's own call -/
/-- the law's promise, told of a list of its ints, of at most 2 ^ 20 bits each -/
theorem script_run {P : Program} {w : World} {K : PySem.W.Frag} {mg mb : Str → Option Value} {k : Nat} {fa a : Addr} {fd : FuncData} {x : Str} {sp : Sp} {s₁ : Shared} {vs : List Value} {ns : List Int} (KX : K.In s₁.heap) (hns : s₁.heap.Ns mainGlobals mg)
    (hb : s₁.heap.Ns builtinsNs mb) (hbb : ∀ x : Str, x ≠ "__name__" → mb x = bootBuiltins x) (hlim : s₁.heap.NoLimit) (hg : s₁.gens = #[]) (ha : s₁.heap.get? a = some { cls := .type "list", data := .seq vs.toArray }) (hi : IntsAre vs ns) (hl : ns.length ≤ sizeLine)
    (hr : Room k callerA) (F : ∀ base : Heap, K.In base → base.Ns mainGlobals mg → FnG P w K mg base CX0 k fa fd [x] sp) (hbind : ∀ (s : Shared) (u : Value), BindsTo s fd ⟨[u], []⟩ [(x, u)])
    (hsp : ∀ H : Hp, Only H → SqL K H a (ns.map V.int) → sp [.ref a] H (fun v _ => v = .bl true) E0) :
    codeAny (model P w) callerA (.call (.ref fa) ⟨[.ref a], []⟩) (fun r s' => r = .ok (.ret (.bool true)) ∧ OldK s₁.heap s'.heap ∧ s'.os = s₁.os ∧ AllBare s'.gens) s₁ := by
  have main : ∀ H : Hp, (∀ b, H b ≠ none → b = a) → (H a ≠ none → K.lookup a = none) → Only H → HOk P w H s₁.heap → SqL K H a (ns.map V.int) →
      codeAny (model P w) callerA (.call (.ref fa) ⟨[.ref a], []⟩) (fun r s' => r = .ok (.ret (.bool true)) ∧ OldK s₁.heap s'.heap ∧ s'.os = s₁.os ∧ AllBare s'.gens) s₁ := by
    intro H alone apart hO hok hS
    have hidden : ∀ b o, s₁.heap.get? b = some o → (∀ u, H b = some u → False) → (hidT s₁.heap H).get? b = some o := fun b o q n => hidT_get q (by
      cases z : H b with
      | none => rfl
      | some u => exact (n u z).elim)
    have dicts : ∀ {b : Addr} {m : Str → Option Value}, s₁.heap.Ns b m → (hidT s₁.heap H).Ns b m := by
      rintro b m ⟨o, es, ep, q, d, r⟩
      refine ⟨o, es, ep, hidden b o q fun u z => ?_, d, r⟩
      have ab : b = a := alone b (by rw [z]; exact fun y => nomatch y)
      rw [ab, ha] at q
      cases q
      exact nomatch d
    have hK : K.In (hidT s₁.heap H) := fun b o q => hidden b o (KX b o q) fun u z => by
      have ab : b = a := alone b (by rw [z]; exact fun y => nomatch y)
      rw [ab] at z q
      rw [apart (by rw [z]; exact fun y => nomatch y)] at q
      cases q
    obtain ⟨mc, l1, l2⟩ := hlim
    have M : Mod K mg (hidT s₁.heap H) := { kin := hK, glob := dicts hns, blt := ⟨mb, dicts hb, hbb⟩, nolimit := ⟨mc, dicts l1, l2⟩ }
    have e0 : Env0 P w K mg (hidT s₁.heap H) callerA [] s₁ H :=
      { frames := rfl, mod := M, bs := fun _ _ q => of_hidT q, bsz := Nat.le_of_eq (hidT_size _ _), funs := trivial, frf := fun b z => (nomatch (show b ∈ ([] : List Addr) from z)), hok := hok, bare := .of_eq hg }
    have G := (F _ hK (dicts hns)).goes callerA rfl hr [] s₁ H e0 ⟨[.ref a], []⟩ [.ref a] [.ref a] (hbind s₁ (.ref a)) (.cons rfl .nil) _ _ (hsp H hO hS)
    refine codeAny_mono G ?_
    intro r s' h
    match r, h with
    | .error e, h => exact (h : False).elim
    | .ok .next, h => exact (h : False).elim
    | .ok .brk, h => exact (h : False).elim
    | .ok .cont, h => exact (h : False).elim
    | .ok (.ret u), ⟨v, H', os, bare, un, hok', rv, q⟩ =>
      have q : v = V.bl true := q
      rw [q] at rv
      have rv : u = Value.bool true := rv
      subst rv
      refine ⟨rfl, OldK.of_keep (fun b o z => ?_), os, bare⟩
      cases y : H b with
      | none => exact un.keep b o z y (fun m => (nomatch (show b ∈ ([] : List Addr) from m))) (fun m => nomatch m)
      | some u =>
        rcases hO b with n | ⟨ob, xs, n⟩
        · rw [n] at y
          exact nomatch y
        · have l1 := (hok b _ n).1
          have l2 := (hok' b _ (un.frzs b ob _ n)).1
          rw [z] at l1
          cases l1
          exact l2
  have rv := vals_ints hi
  cases q : K.lookup a with
  | none =>
    let one : HO := .frz { cls := .type "list", data := .seq vs.toArray } (.lst (ns.map V.int))
    have at_a : (fun b => if b = a then some one else none : Hp) a = some one := if_pos rfl
    have off_a : ∀ b, b ≠ a → (fun b => if b = a then some one else none : Hp) b = none := fun b n => if_neg n
    refine main (fun b => if b = a then some one else none) (fun b n => ?_) (fun _ => q) (fun b => ?_) (fun b u z => ?_) (Or.inl (Or.inr ⟨_, at_a⟩))
    · exact Classical.byContradiction fun y => n (off_a b y)
    · rcases Classical.em (b = a) with y | y
      · subst y
        exact Or.inr ⟨_, _, at_a⟩
      · exact Or.inl (off_a b y)
    · rcases Classical.em (b = a) with y | y
      · subst y
        rw [at_a] at z
        cases z
        exact ⟨ha, ⟨by simpa using hl, vs, _, rv, ha⟩⟩
      · rw [off_a b y] at z
        cases z
  | some o =>
    have z := KX a o q
    rw [ha] at z
    cases z
    refine main (fun _ => none) (fun b n => (n rfl).elim) (fun n => (n rfl).elim) (fun _ => Or.inl rfl) (fun b u z => nomatch (z : (none : Option HO) = some u)) (Or.inr ⟨_, vs.toArray, _, q, rfl, rfl, rfl, ?_, ?_⟩)
    · rw [List.size_toArray, hi.length]
      exact hl
    · simpa using rv
theorem walk_ofG {l : PySem.W.OpenLaw} {n k : Nat} {q : Program} {loose : List Str} {XP : (Str → Option Value) → Heap → Prop} {YP : World → Heap → Prop} {d : DefRec} {K : Params → PySem.W.Frag} {sp : World → Sp} {x : Str} (hn : l.most = some n) (hn2 : n ≤ sizeLine) (hdf : d.params.defaults = [])
    (hr : Room k callerA) (hY : ∀ (w : World) (h : Heap), YP w h → (K w.params).In h) (F : ∀ (w : World) (mg : Str → Option Value) (fa : Addr) (h : Heap), (K w.params).In h → h.Ns mainGlobals mg → XP mg h → mg d.name = some (.ref fa) →
      ∃ fd : FuncData, (∀ (s : Shared) (u : Value), BindsTo s fd ⟨[u], []⟩ [(x, u)]) ∧ ∀ base : Heap, (K w.params).In base → base.Ns mainGlobals mg → FnG l.prog w (K w.params) mg base CX0 k fa fd [x] (sp w))
    (hsp : ∀ (w : World) (H : Hp) (a : Addr) (ns : List Int), ns.length ≤ n → (∀ z ∈ ns, Builtin.Int.intBits z ≤ 1048576) → Only H → SqL (K w.params) H a (ns.map V.int) → sp w [.ref a] H (fun v _ => v = .bl true) E0) :
    PySem.W.WalkO q loose XP YP l.row.toRowW d [] (fun f vs => PySem.call f vs) := by
  apply Att.attach_callB hn hdf
  intro w s₀ s₁ mg mb fa o pm cd doc a vs ns G Y ho hd hcd hmg hobj hints hlen hbits hg
  obtain ⟨fd, hb, hF⟩ := F w mg fa _ (hY w _ Y) G.T.g G.X hmg
  exact script_run (hY w _ Y) G.T.g G.T.b G.T.builtins G.T.nolimit hg hobj hints (Nat.le_trans hlen hn2) hr hF hb (fun H hO hS => hsp w H a ns hlen hbits hO hS)
/-- .. where the promise hangs on the written part alone -/
theorem walk_ofGK {l : PySem.W.OpenLaw} {n k : Nat} {q : Program} {loose : List Str} {XP : (Str → Option Value) → Heap → Prop} {YP : World → Heap → Prop} {d : DefRec} {K : Params → PySem.W.Frag} {sp : PySem.W.Frag → Sp} {x : Str} (hn : l.most = some n) (hn2 : n ≤ sizeLine)
    (hdf : d.params.defaults = []) (hr : Room k callerA) (hY : ∀ (w : World) (h : Heap), YP w h → (K w.params).In h) (hsp : ∀ (K : PySem.W.Frag) (H : Hp) (a : Addr) (ns : List Int), ns.length ≤ n → (∀ z ∈ ns, Builtin.Int.intBits z ≤ 1048576) → Only H → SqL K H a (ns.map V.int) → sp K [.ref a] H (fun v _ => v = .bl true) E0)
    (F : ∀ (w : World) (mg : Str → Option Value) (fa : Addr) (h : Heap), (K w.params).In h → h.Ns mainGlobals mg → XP mg h → mg d.name = some (.ref fa) →
      ∃ fd : FuncData, (∀ (s : Shared) (u : Value), BindsTo s fd ⟨[u], []⟩ [(x, u)]) ∧ ∀ base : Heap, (K w.params).In base → base.Ns mainGlobals mg → FnG l.prog w (K w.params) mg base CX0 k fa fd [x] (sp (K w.params))) :
    PySem.W.WalkO q loose XP YP l.row.toRowW d [] (fun f vs => PySem.call f vs) :=
  walk_ofG (K := K) (sp := fun w => sp (K w.params)) hn hn2 hdf hr hY F fun w H a ns h1 h2 h3 h4 => hsp (K w.params) H a ns h1 h2 h3 h4
end My
namespace My
/-! ### fractions -/
def com (a b : Int) : Int := if b < 0 then -((Nat.gcd a.natAbs b.natAbs : Nat) : Int) else ((Nat.gcd a.natAbs b.natAbs : Nat) : Int)
theorem gcd_pos {a b : Int} (h : b ≠ 0) : 0 < Nat.gcd a.natAbs b.natAbs := Nat.gcd_pos_of_pos_right _ (by omega)
theorem com_ne {a b : Int} (h : b ≠ 0) : com a b ≠ 0 := by
  have := gcd_pos (a := a) h
  unfold com
  split <;> omega
theorem com_abs {a b : Int} : (com a b).natAbs = Nat.gcd a.natAbs b.natAbs := by
  unfold com
  split <;> omega
theorem com_le {a b : Int} (h : b ≠ 0) : (com a b).natAbs ≤ b.natAbs := by
  rw [com_abs]
  exact Nat.gcd_le_right _ (by omega)
theorem int_gcd (a b : Int) : b.gcd a = Nat.gcd a.natAbs b.natAbs := Nat.gcd_comm _ _
theorem fdiv_com {a b c : Int} (hb : b ≠ 0) (hc : ((Nat.gcd a.natAbs b.natAbs : Nat) : Int) ∣ c) : c.fdiv (com a b) = b.sign * c / ((Nat.gcd a.natAbs b.natAbs : Nat) : Int) := by
  have g0 := gcd_pos (a := a) hb
  generalize eg : Nat.gcd a.natAbs b.natAbs = g at *
  obtain ⟨k, rfl⟩ := hc
  have gi : (g : Int) ≠ 0 := by omega
  unfold com
  rw [eg]
  by_cases h : b < 0
  · rw [if_pos h, Int.sign_eq_neg_one_of_neg h]
    have e1 : (g : Int) * k = (-k) * (-(g : Int)) := by rw [Int.neg_mul_neg, Int.mul_comm]
    have e2 : -1 * ((g : Int) * k) = (g : Int) * (-k) := by rw [Int.neg_mul, Int.one_mul, Int.mul_neg]
    rw [e2, Int.mul_ediv_cancel_left _ gi, e1, Int.mul_fdiv_cancel _ (by omega)]
  · rw [if_neg h, Int.sign_eq_one_of_pos (by omega), Int.one_mul, Int.mul_ediv_cancel_left _ gi, Int.mul_comm, Int.mul_fdiv_cancel _ gi]
theorem low_num {a b : Int} (hb : b ≠ 0) : a.fdiv (com a b) = (Rat.divInt a b).num := by
  rw [Rat.num_divInt, int_gcd]
  exact fdiv_com hb (Int.ofNat_dvd_left.mpr (Nat.gcd_dvd_left _ _))
theorem low_den {a b : Int} (hb : b ≠ 0) : b.fdiv (com a b) = ((Rat.divInt a b).den : Int) := by
  rw [Rat.den_divInt, int_gcd, if_neg hb, fdiv_com hb (Int.ofNat_dvd_left.mpr (Nat.gcd_dvd_right _ _)), Int.natCast_ediv, Int.sign_mul_self]
theorem num_le {a b : Int} (hb : b ≠ 0) : (Rat.divInt a b).num.natAbs ≤ a.natAbs := by
  rw [Rat.num_divInt, int_gcd]
  have g0 := gcd_pos (a := a) hb
  have d1 : ((Nat.gcd a.natAbs b.natAbs : Nat) : Int) ∣ a := Int.ofNat_dvd_left.mpr (Nat.gcd_dvd_left _ _)
  generalize Nat.gcd a.natAbs b.natAbs = g at *
  obtain ⟨k, rfl⟩ := d1
  have e : b.sign * ((g : Int) * k) = (g : Int) * (b.sign * k) := by rw [← Int.mul_assoc, Int.mul_comm b.sign, Int.mul_assoc]
  rw [e, Int.mul_ediv_cancel_left _ (by omega), Int.natAbs_mul, Int.natAbs_mul, Int.natAbs_sign_of_ne_zero hb, Nat.one_mul]
  exact Nat.le_mul_of_pos_left _ (by omega)
theorem den_le {a b : Int} (hb : b ≠ 0) : (Rat.divInt a b).den ≤ b.natAbs := by
  rw [Rat.den_divInt, if_neg hb]
  exact Nat.div_le_self _ _
end My
namespace My
/-- a number's top and bottom have at most B bits -/
def Sz (B : Nat) (q : Rat) : Prop := q.num.natAbs < 2 ^ B ∧ q.den < 2 ^ B
theorem Sz.mono {B B' : Nat} {q : Rat} (h : Sz B q) (l : B ≤ B') : Sz B' q :=
  ⟨Nat.lt_of_lt_of_le h.1 (Nat.pow_le_pow_right (by decide) l), Nat.lt_of_lt_of_le h.2 (Nat.pow_le_pow_right (by decide) l)⟩
theorem Sz.of {B : Nat} {a b : Int} (hb : b ≠ 0) (h1 : a.natAbs < 2 ^ B) (h2 : b.natAbs < 2 ^ B) : Sz B (Rat.divInt a b) := ⟨Nat.lt_of_le_of_lt (num_le hb) h1, Nat.lt_of_le_of_lt (den_le hb) h2⟩
theorem q_eq (q : Rat) : q = Rat.divInt q.num (q.den : Int) := (Rat.num_divInt_den q).symm
theorem den_ne (q : Rat) : (q.den : Int) ≠ 0 := by have := q.den_nz; omega
theorem add_is (q r : Rat) : Rat.divInt (q.num * (r.den : Int) + r.num * (q.den : Int)) ((q.den : Int) * (r.den : Int)) = q + r := by
  rw [← Rat.divInt_add_divInt _ _ (den_ne q) (den_ne r), ← q_eq, ← q_eq]
theorem sub_is (q r : Rat) : Rat.divInt (q.num * (r.den : Int) - r.num * (q.den : Int)) ((q.den : Int) * (r.den : Int)) = q - r := by
  rw [← Rat.divInt_sub_divInt _ _ (den_ne q) (den_ne r), ← q_eq, ← q_eq]
theorem mul_is (q r : Rat) : Rat.divInt (q.num * r.num) ((q.den : Int) * (r.den : Int)) = q * r := by
  rw [← Rat.divInt_mul_divInt, ← q_eq, ← q_eq]
theorem inv_divInt {a b : Int} (ha : a ≠ 0) (hb : b ≠ 0) : (Rat.divInt a b)⁻¹ = Rat.divInt b a := by
  have h : Rat.divInt a b * Rat.divInt b a = 1 := by
    rw [Rat.divInt_mul_divInt, Int.mul_comm b a]
    exact Rat.divInt_self' (Int.mul_ne_zero ha hb)
  have n : Rat.divInt a b ≠ 0 := fun z => by
    rw [z, Rat.zero_mul] at h
    exact absurd h (by decide)
  have h2 := Rat.inv_mul_cancel (Rat.divInt a b) n
  rw [← Rat.mul_one ((Rat.divInt a b)⁻¹), ← h, ← Rat.mul_assoc, h2, Rat.one_mul]
theorem div_is (q r : Rat) (h : r.num ≠ 0) : Rat.divInt (q.num * (r.den : Int)) ((q.den : Int) * r.num) = q / r := by
  rw [← Rat.divInt_mul_divInt, ← q_eq, Rat.div_def]
  congr 1
  have e := inv_divInt h (den_ne r)
  rw [← q_eq] at e
  exact e.symm
theorem num_zero {q : Rat} : q.num = 0 ↔ q = 0 := by
  constructor
  · intro h
    rw [q_eq q, h]
    simp
  · rintro rfl
    rfl
theorem div_divInt {a b c d : Int} (hc : c ≠ 0) (hd : d ≠ 0) : Rat.divInt a b / Rat.divInt c d = Rat.divInt (a * d) (b * c) := by
  rw [Rat.div_def, inv_divInt hc hd, Rat.divInt_mul_divInt]
theorem lt94 {n : Nat} (h : n < 10 ^ 28) : n < 2 ^ 94 := Nat.lt_trans h (by decide)
end My
namespace My
theorem lcm_pos' : ∀ (qs : List Rat) (n : Nat), 0 < n → 0 < qs.foldl (fun n q => Nat.lcm n q.den) n
  | [], n, h => h
  | q :: r, n, h => lcm_pos' r _ (Nat.lcm_pos h (Nat.pos_of_ne_zero q.den_nz))
theorem lcm_dvd' : ∀ (qs : List Rat) (n : Nat), n ∣ qs.foldl (fun n q => Nat.lcm n q.den) n
  | [], n => Nat.dvd_refl n
  | q :: r, n => Nat.dvd_trans (Nat.dvd_lcm_left n q.den) (lcm_dvd' r _)
def lcmAll (qs : List Rat) : Nat := qs.foldl (fun n q => Nat.lcm n q.den) 1
theorem lcm_pos (qs : List Rat) : 0 < lcmAll qs := lcm_pos' qs 1 (by decide)
theorem lcm_take (qs : List Rat) (n : Nat) : (qs.take n).foldl (fun n q => Nat.lcm n q.den) 1 ≤ lcmAll qs := by
  have e : lcmAll qs = (qs.drop n).foldl (fun n q => Nat.lcm n q.den) ((qs.take n).foldl (fun n q => Nat.lcm n q.den) 1) := by
    rw [← List.foldl_append, List.take_append_drop]
    rfl
  rw [e]
  refine Nat.le_of_dvd ?_ (lcm_dvd' _ _)
  rw [← e]
  exact lcm_pos qs
theorem den_dvd' : ∀ (qs : List Rat) (n : Nat) (q : Rat), q ∈ qs → q.den ∣ qs.foldl (fun n q => Nat.lcm n q.den) n
  | p :: r, n, q, h => by
    rcases List.mem_cons.mp h with e | e
    · subst e
      exact Nat.dvd_trans (Nat.dvd_lcm_right n q.den) (lcm_dvd' r _)
    · exact den_dvd' r _ q e
theorem den_dvd {qs : List Rat} {q : Rat} (h : q ∈ qs) : q.den ∣ lcmAll qs := den_dvd' qs 1 q h
def topsOf (qs : List Rat) : List Int := qs.map fun q => q.num * (((lcmAll qs : Nat) : Int) / (q.den : Int))
theorem top_is {q : Rat} {B : Nat} (hB : 0 < B) (h : q.den ∣ B) : Rat.divInt (q.num * ((B : Int) / (q.den : Int))) (B : Int) = q := by
  obtain ⟨k, rfl⟩ := h
  have hd := q.den_nz
  have kn : (k : Int) ≠ 0 := by
    intro z
    have : k = 0 := by omega
    subst this
    exact absurd hB (by simp)
  rw [Int.natCast_mul, Int.mul_ediv_cancel_left _ (by omega), Rat.divInt_mul_right kn]
  exact (q_eq q).symm
theorem sum_divInt (B : Int) (hB : B ≠ 0) : ∀ l : List Int, Rat.divInt l.sum B = (l.map fun n => Rat.divInt n B).sum
  | [] => by
    rw [List.map_nil, List.sum_nil, List.sum_nil]
    simp
  | n :: r => by
    rw [List.map_cons, List.sum_cons, List.sum_cons, ← sum_divInt B hB r, Rat.divInt_add_divInt _ _ hB hB, ← Int.add_mul, Rat.divInt_mul_right hB]
theorem tops_sum (qs : List Rat) : Rat.divInt (topsOf qs).sum ((lcmAll qs : Nat) : Int) = qs.sum := by
  have hB := lcm_pos qs
  rw [sum_divInt _ (by omega)]
  unfold topsOf
  rw [List.map_map]
  congr 1
  conv => rhs; rw [← List.map_id qs]
  apply List.map_congr_left
  intro q hq
  exact top_is hB (den_dvd hq)
end My
namespace My
open PySem PySem.Spec PyProof.Rows L2
/-! ### a class with its own ==, str, len -/
theorem ns_some_of {K : PySem.W.Frag} {h : Heap} {N : Addr} {mg : Str → Option Value} {n : Str} {v : Value} (X : K.In h) (G : h.Ns N mg) (e : PySem.W.nsIn K N n = some (some v)) : mg n = some v := by
  obtain ⟨o, es, ep, ho, hd, _, hf⟩ := G
  unfold PySem.W.nsIn at e
  split at e
  · rename_i c d es' n' sl q
    have z := X _ _ q
    rw [z] at ho
    injection ho with ho
    subst ho
    injection hd with h1 h2
    subst h1
    split at e
    · rename_i en he
      injection e with e
      rw [← hf, ← e]
      simp only [nsFind, findBy]
      rw [← Array.find?_toList, he]
      rfl
    · split at e <;> exact nomatch e
  · exact nomatch e
/-- a method m of the class at C -/
structure Mt (P : Program) (w : World) (K : PySem.W.Frag) (mg : Str → Option Value) (base : Heap) (k : Nat) (C : Addr) (m : Str) (ps : List Str) (sp : Sp) : Prop where
  ex : ∃ (f : Addr) (fd : FuncData), PySem.W.findIn K (.ref C) m = some (some (.ref f)) ∧ PySem.W.isFn K (.ref f) = true ∧ PySem.W.keepIn K (.ref f) = true ∧ FnOk P w K mg base CX0 k f fd ps sp ∧ Binds K fd ps []
/-- the class at C has an own == and no own != -/
structure EqC (P : Program) (w : World) (K : PySem.W.Frag) (mg : Str → Option Value) (base : Heap) (k : Nat) (C : Addr) (sp : Sp) : Prop where
  nf : PySem.W.notFirst K C (.ref C) = true
  ex : ∃ (f : Addr) (fd : FuncData), PySem.W.findIn K (.ref C) "__eq__" = some (some (.ref f)) ∧ PySem.W.isFn K (.ref f) = true ∧ FnOk P w K mg base CX0 k f fd ["self", "other"] sp ∧ Binds K fd ["self", "other"] [] ∧
    (∃ o, K.lookup f = some o ∧ o.cls = .type "function") ∧ ∃ (nm qn : Str) (N : Addr) (bs : List Value) (hdct : Bool) (sn : List Str) (sub : List Value) (ab : Bool) (col : Option Bool) (dd : Option Addr) (k0 k1 k2 k3 k5 : Option Value) (newId : String),
      K.lookup C = some (excClassObj nm qn C N bs [.type "object"] hdct sn sub ab col dd k0 k1 k2 k3 k5 newId) ∧ PySem.W.nsOkIn K N = true ∧ PySem.W.nsIn K N "__eq__" = some (some (.ref f)) ∧ PySem.W.nsIn K N "__ne__" = some none
section
variable {X : Cx} {k : Nat} {C : Addr} {sp : Sp}
/-- a method's def called by the machine, within A' -/
theorem run_in {A' : Around} {f : Addr} {fd : FuncData} {ps : List Str} {pins : List (Addr × Obj)} {σ : L2.St} {H : Hp} {s : Shared} {Q : VK} {us : List Value} {vs : List V} (F : FnOk X.prog X.w X.K X.mg X.base CX0 k f fd ps sp) (hr : Room k A') (e0 : Env0 X.prog X.w X.K X.mg X.base A' X.stack s H)
    (hb : Binds X.K fd ps []) (I : Inv X pins σ H s) (r : Vals vs us) (h : sp vs H Q E0) : wpAny (model X.prog X.w) A' (call (.ref f) us) (EP X pins σ Q) X.xe s := by
  have n : us.length = ps.length := r.length.symm.trans (F.len _ _ _ _ h)
  have bd := hb s us I.kIn (by rw [List.append_nil]; exact n)
  rw [List.append_nil] at bd
  refine wpAny_call (codeAny_mono (F.run A' X.stack s H ⟨us, []⟩ us vs Q E0 hr e0 bd r h) ?_)
  intro r s' hq
  match r, hq with
  | .error e, hq => exact (hq : False).elim
  | .ok (.ret u), hq => exact I.after hq
  | .ok .next, hq => exact (hq : False).elim
  | .ok .brk, hq => exact (hq : False).elim
  | .ok .cont, hq => exact (hq : False).elim
def rEqO (C : Addr) (sp : Sp) : R2 := fun x y H Q => ∃ a dx fs b dy gs, x = .ref a ∧ y = .ref b ∧ H a = some (.ins C dx fs) ∧ H b = some (.ins C dy gs) ∧ sp [.ref a, .ref b] H Q E0
def rNeO (C : Addr) (sp : Sp) : R2 := fun x y H Q => ∃ a dx fs b dy gs, x = .ref a ∧ y = .ref b ∧ H a = some (.ins C dx fs) ∧ H b = some (.ins C dy gs) ∧ sp [.ref a, .ref b] H (fun v H' => ∃ t, v = .bl t ∧ Q (.bl (!t)) H') E0
theorem op_eqO (D : EqC X.prog X.w X.K X.mg X.base k C sp) (hr : Room k X.A) : OpR X (compareOp .Eq) (rEqO C sp) := by
  intro pins s σ H x y v u Q I rx ry h
  obtain ⟨a, dx, fs, b, dy, gs, rfl, rfl, ha, hb, q⟩ := h
  cases (show v = Value.ref a from rx)
  cases (show u = Value.ref b from ry)
  obtain ⟨f, fd, hs, hf, F, bd, _⟩ := D.ex
  obtain ⟨mA, O, _⟩ := ins_get I.hok ha
  obtain ⟨od, J, _⟩ := O.look
  obtain ⟨mB, O', _⟩ := ins_get I.hok hb
  obtain ⟨od', J', _⟩ := O'.look
  obtain ⟨m, hF⟩ := I.fr
  refine PySem.W.cmp_ofEq (PySem.W.cmp_K (op := .Eq) (tb := .ref C) hr.units0 hF I.ok.mod.kin J J'.type D.nf hs hf ?_)
  refine wpAny_mono (run_in (us := [.ref a, .ref b]) (vs := [.ref a, .ref b]) F hr I.env0 bd I (.cons rfl (.cons rfl .nil)) q) (fun w s' z => ?_) fun _ _ x => x
  obtain ⟨z', H', I', rz, qz⟩ := z
  exact SlX.cmpback rz ⟨z', H', I', rz, qz⟩
theorem op_neO (D : EqC X.prog X.w X.K X.mg X.base k C sp) (hr : Room (k + 1) X.A) : OpR X (compareOp .NotEq) (rNeO C sp) := by
  intro pins s σ H x y v u Q I rx ry h
  obtain ⟨a, dx, fs, b, dy, gs, rfl, rfl, ha, hb, q⟩ := h
  cases (show v = Value.ref a from rx)
  cases (show u = Value.ref b from ry)
  obtain ⟨f, fd, hs, hf, F, bd, ⟨of, lf, cf⟩, nm, qn, N, bs, hdct, sn, sub, ab, col, dd, k0, k1, k2, k3, k5, newId, lC, ok, e1, e2⟩ := D.ex
  obtain ⟨mA, O, _⟩ := ins_get I.hok ha
  obtain ⟨mB, O', _⟩ := ins_get I.hok hb
  have KI := I.kIn
  have hN : s.heap.Ns N (s.heap.nsMap N) := .of_isNs (PySem.W.isNs_of_in KI ok)
  have own : s.heap.OwnEqNoNe a C f "object" [.type "object"] :=
    ⟨_, of, nm, qn, N, bs, hdct, sn, sub, ab, col, dd, k0, k1, k2, k3, k5, newId, _, _, O.obj, rfl, KI _ _ lC, hN, ns_some_of KI hN e1, KI _ _ lf, cf, PySem.F.cmp_object.mro, PySem.F.cmp_object.eq.lookup, PySem.W.nsMap_none_of_in KI ok e2⟩
  have un := hr.units0
  have hu : X.A.units + 1 < cLine := by have := hr.un; omega
  obtain ⟨hp, g, d, t, os⟩ := s
  refine compareOp_ne_ownEq PySem.F.cmp_object own O'.obj rfl hu ?_
  refine wpAny_mono (run_in (us := [.ref a, .ref b]) (vs := [.ref a, .ref b]) F hr.in1 I.env0.in1 bd I (.cons rfl (.cons rfl .nil)) q) (fun w s' z => ?_) fun _ _ x => x
  obtain ⟨z', H', I', rz, t', et, qz⟩ := z
  subst et
  cases (show w = Value.bool t' from rz)
  exact ⟨t', rfl, .bl (!t'), H', I', rfl, qz⟩
/-- str of an instance with its own __str__ -/
def rStrO (C : Addr) (sp : Sp) : List V → Hp → VK → Prop := fun vs H Q => ∃ a dx fs, vs = [.ref a] ∧ H a = some (.ins C dx fs) ∧ sp [.ref a] H (fun v H' => ∃ x, v = .str x ∧ Q (.str x) H') E0
theorem cr_strO (D : Mt X.prog X.w X.K X.mg X.base k C "__str__" ["self"] sp) (hr : Room (k + 2) X.A) : CallR X (.type "str") (rStrO C sp) := by
  intro pins s σ H vs us Q I r h
  obtain ⟨a, dx, fs, rfl, ha, q⟩ := h
  obtain ⟨u, rfl, ru⟩ := vals1 r
  cases (show u = Value.ref a from ru)
  obtain ⟨f, fd, hs, hf, _, F, bd⟩ := D.ex
  obtain ⟨mA, O, _⟩ := ins_get I.hok ha
  obtain ⟨od, J, _⟩ := O.look
  have hr2 : Room k X.A.in1.in1 := (hr.in1 (k := k + 1)).in1
  refine PySem.W.kso_call hr2.units0 I.kIn J hs hf (wpAny_mono (run_in (us := [.ref a]) (vs := [.ref a]) F hr2 I.env0.in1.in1 bd I (.cons rfl .nil) q) (fun w s' z => ?_) fun _ _ x => x)
  obtain ⟨z', H', I', rz, x, ex, qz⟩ := z
  subst ex
  obtain ⟨t, rfl⟩ := rz
  exact ⟨.str x, H', I', ⟨t, rfl⟩, qz⟩
/-- math.lcm -/
def rLcm : List V → Hp → VK → Prop := fun vs H Q => ∃ a b : Int, vs = [.int a, .int b] ∧ a.natAbs < 2 ^ 13000 ∧ b.natAbs < 2 ^ 13000 ∧ Q (.int ((Nat.lcm a.natAbs b.natAbs : Nat) : Int)) H
theorem lcm_one (n : Nat) : Nat.lcm 1 n = n := by
  rw [Nat.lcm_one_left]
theorem lim_one {n : Nat} (h : n < 2 ^ 13000) : ¬ n.log2 / 30 + 1 > 450 := by
  rcases Nat.eq_zero_or_pos n with z | z
  · subst z
    decide
  · have q := (Nat.log2_lt (by omega)).mpr h
    omega
theorem max_lt {a b n : Nat} (h1 : a < n) (h2 : b < n) : max a b < n := by omega
theorem lcm_lt {a b m : Nat} (ha : a < 2 ^ m) (hb : b < 2 ^ m) : Nat.lcm a b < 2 ^ (m + m) := by
  rcases Nat.eq_zero_or_pos a with z | z
  · subst z
    rw [Nat.lcm_zero_left]
    exact Nat.two_pow_pos _
  · rcases Nat.eq_zero_or_pos b with y | y
    · subst y
      rw [Nat.lcm_zero_right]
      exact Nat.two_pow_pos _
    · have q := Nat.lcm_le_mul z y
      rw [Nat.pow_add]
      exact Nat.lt_of_le_of_lt q (Nat.mul_lt_mul'' ha hb)
theorem cr_lcm : CallR X (.builtin "math.lcm") rLcm := by
  intro pins s σ H vs us Q I r h
  obtain ⟨a, b, rfl, ha, hb, q⟩ := h
  obtain ⟨t, u, rfl⟩ := Vals.int2 r
  have e : (((Nat.lcm 1 a.natAbs).lcm b.natAbs : Nat) : Int) = ((Nat.lcm a.natAbs b.natAbs : Nat) : Int) := by rw [lcm_one]
  have big : ((((Nat.lcm 1 a.natAbs).lcm b.natAbs : Nat) : Int)).natAbs.log2 < bitsLine := by
    rw [e, Int.natAbs_natCast]
    have z := lcm_lt ha hb
    exact Nat.lt_trans (PySem.Flt.log2_lt_of (by decide) z) (by decide)
  refine call_function_meets PySem.W.MGF.kind_lcm PySem.W.MGF.plain_lcm PySem.W.MGF.entry_lcm (PySem.W.MGF.args_lcm _ _) (PySem.W.mg_run_lcm a t b u (lim_one (max_lt (Nat.one_lt_two_pow (by decide)) ha)) (lim_one (max_lt ha hb)) big).meets ?_
  rw [e]
  exact ⟨.int _, H, I.tok _, ⟨_, rfl⟩, q⟩
end
end My
namespace My
open PySem PySem.Spec PyProof.Rows L2
section
variable {X : Cx}
/-- xs.count(b) of a list of truths -/
def rCntB (K : PySem.W.Frag) : V → List V → Hp → VK → Prop := fun x xs H Q => ∃ (p : Addr) (bs : List Bool) (k : Bool), x = .ref p ∧ xs = [.bl k] ∧ SqL K H p (bs.map V.bl) ∧ Q (.int (countIn (.bool k) (bs.map PyData.bool))) H
theorem dp_bools {K : PySem.W.Frag} {H : Hp} : ∀ bs : List Bool, DpAll K H (bs.map V.bl) (bs.map PyData.bool)
  | [] => .nil
  | b :: r => .cons (.bl b) (dp_bools r)
theorem has_bools : ∀ bs : List Bool, (bs.map PyData.bool).all Shape.bool.has = true
  | [] => rfl
  | b :: r => by
    rw [List.map_cons, List.all_cons, has_bools r]
    rfl
theorem mt_countB : MtR X "list.count" (rCntB X.K) := by
  intro pins s σ H x xs v us Q I rx rxs h
  obtain ⟨p, bs, k, rfl, rfl, hs, q⟩ := h
  cases (show v = Value.ref p from rx)
  obtain ⟨u, rfl, ru⟩ := rxs.one
  cases (show u = Value.bool k from ru)
  obtain ⟨its, rv, hl, _⟩ := I.list hs
  obtain ⟨as, ra⟩ := Dp.readsAll I _ _ its (dp_bools bs) rv
  exact count_list_bools hl.isList ra (has_bools bs) ⟨.int _, H, I.tok _, ⟨_, rfl⟩, q⟩
end
end My
namespace My
open PySem PySem.Spec PyProof.Rows L2
def keyStr (e : DictEntry) : Bool := match e.key with | .str _ _ => true | _ => false
theorem nsOk_of {K : PySem.W.Frag} {N : Addr} {c : Value} {d : Option Addr} {es : Array DictEntry} {n : Nat} {sl : Array (Option Value)} (l : K.lookup N = some ⟨c, d, .dict es n, sl⟩) (h : es.all keyStr = true) : PySem.W.nsOkIn K N = true := by
  unfold PySem.W.nsOkIn
  rw [l]
  exact h
end My
namespace My
open PySem PySem.Spec PyProof.Rows L2
section
variable {X : Cx}
def allRef (xs : List V) : Prop := ∀ x ∈ xs, ∃ a, x = .ref a
theorem vals_refs : ∀ {xs : List V} {us vs : List Value}, allRef xs → Vals xs us → Vals xs vs → us = vs := by
  intro xs
  induction xs with
  | nil =>
    intro us vs _ r1 r2
    cases r1
    cases r2
    rfl
  | cons x xs ih =>
    intro us vs h r1 r2
    obtain ⟨a, rfl⟩ := h x (List.mem_cons_self ..)
    cases r1 with
    | cons q1 r1 =>
      cases r2 with
      | cons q2 r2 =>
        cases q1
        cases q2
        rw [ih (fun y hy => h y (List.mem_cons_of_mem _ hy)) r1 r2]
theorem allRef_map (as : List Addr) : allRef (as.map V.ref) := fun x hx => by
  obtain ⟨a, _, e⟩ := List.mem_map.mp hx
  exact ⟨a, e.symm⟩
/-- != of two lists: of the same objects, or of other lengths -/
def rNeL (K : PySem.W.Frag) : R2 := fun x y H Q => ∃ a b xs ys, x = .ref a ∧ y = .ref b ∧ SqL K H a xs ∧ SqL K H b ys ∧ ((xs = ys ∧ allRef xs ∧ Q (.bl false) H) ∨ (xs.length ≠ ys.length ∧ Q (.bl true) H))
theorem op_neL (hu : X.A.units < cLine) : OpR X (compareOp .NotEq) (rNeL X.K) := by
  intro pins s σ H x y v u Q I rx ry h
  obtain ⟨a, b, xs, ys, rfl, rfl, ha, hb, h⟩ := h
  cases (show v = Value.ref a from rx)
  cases (show u = Value.ref b from ry)
  obtain ⟨its, r1, l1, _⟩ := I.list ha
  obtain ⟨its2, r2, l2, _⟩ := I.list hb
  show wpAny (model X.prog X.w) X.A (richCompare .NotEq (.ref a) (.ref b)) (EP X pins σ Q) X.xe s
  rcases h with ⟨e, ar, q⟩ | ⟨n, q⟩
  · subst e
    have e := vals_refs ar r1 r2
    subst e
    have z := SeqAt.RcNeAt.lists (A := X.A) (s := s) (e := fun _ => true) l1.isList l2.isList rfl hu (fun j _ _ => SeqAt.EqAt.same _)
    have t : (!(List.range its.toArray.size).all fun _ => true) = false := by simp
    rw [t] at z
    exact z X.prog X.w X.xe _ ⟨.bl false, H, I, rfl, q⟩
  · have z := SeqAt.RcNeAt.lists_lengths (A := X.A) (s := s) l1.isList l2.isList (by
      rw [List.size_toArray, List.size_toArray, ← r1.length, ← r2.length]
      simpa using n) hu
    exact z X.prog X.w X.xe _ ⟨.bl true, H, I, rfl, q⟩
end
section
variable {K : PySem.W.Frag} {g : TG} {tb : TS} {D : Ends} {σ : L2.St} {H : Hp}
def kZip (K : PySem.W.Frag) (g : TG) (tb : TS) (D : Ends) (σ : L2.St) : List V → Hp → Prop := fun vs H1 => ∃ a b xs ys, vs = [.ref a, .ref b] ∧ SqL K H1 a xs ∧ SqL K H1 b ys ∧ ∃ W : Nat → Nat → L2.St → Hp → Prop, (∃ m, W 0 m σ H1) ∧ ∀ i m σ H, W i m σ H →
  ((Itz K a b).stop i H ∧ D.nx σ H) ∨ ((Itz K a b).go i H ∧ ∃ N : L2.St → Hp → Prop, (∀ σ' H', N σ' H' → ∃ m', m' < m ∧ W (i + 1) m' σ' H') ∧ ∀ x H', (Itz K a b).yld i H x H' → g x σ H' fun σ2 H2 => tb { D with nx := N, ct := N, bk := D.nx } σ2 H2)
theorem rd_forZ {tr : TA} (h : tr σ H (kZip K g tb D σ)) : tFor (iZip K tr) g tb D σ H := h
theorem rd_kZip {a b : Addr} {xs ys : List V} (hl : xs.length = ys.length) (ha : SqL K H a xs) (hb : SqL K H b ys) (Pv : Nat → L2.St → Hp → Prop) (h0 : Pv 0 σ H) (hq : ∀ i σ H, Pv i σ H → SqL K H a xs ∧ SqL K H b ys)
    (hs : ∀ (i : Nat) (x y : V) (T : Addr) (σ : L2.St) (H : Hp), xs[i]? = some x → ys[i]? = some y → Pv i σ H → H T = none → g (.ref T) σ (upd H T (.tup [x, y])) fun σ2 H2 => tb { D with nx := Pv (i + 1), ct := Pv (i + 1), bk := D.nx } σ2 H2)
    (hd : ∀ σ H, Pv xs.length σ H → D.nx σ H) : kZip K g tb D σ [.ref a, .ref b] H := ⟨a, b, xs, ys, rfl, ha, hb, RZ.for_zipL hl Pv h0 hq hs hd⟩
theorem g_mono2 (i j : Nat) (vs : List Nat) : ∀ x H' (Q1 Q2 : L2.St → Hp → Prop), (∀ s h, Q1 s h → Q2 s h) → gTup K 2 (gCons (gName i) (gCons (gName j) gNil)) x (wipe σ vs) H' Q1 → gTup K 2 (gCons (gName i) (gCons (gName j) gNil)) x (wipe σ vs) H' Q2 := by
  rintro x H' Q1 Q2 f ⟨p, xs, e, hs, hn, y, r, e2, y2, r2, e3, e4, q⟩
  exact ⟨p, xs, e, hs, hn, y, r, e2, y2, r2, e3, e4, f _ _ q⟩
end
section
variable {K : PySem.W.Frag} {g : TG} {te : TE} {σ : L2.St} {H : Hp} {Q : VK}
/-- the turns of a comprehension over the numbers from lo, n of them -/
def kLcN (g : TG) (te : TE) (vs : List Nat) (σ : L2.St) (Q : VK) (lo : Int) (n : Nat) : Hp → Prop := fun H1 => ∀ D, H1 D = none → ∃ W : Nat → Nat → Hp → Prop, (∃ m, W 0 m (upd H1 D (.lst []))) ∧ ∀ i m H, W i m H →
  ((Itr lo n).stop i H ∧ Q (.ref D) H) ∨ ((Itr lo n).go i H ∧ ∃ Nx : Hp → Prop, (∀ H', Nx H' → ∃ m', m' < m ∧ W (i + 1) m' H') ∧ ∀ x H', (Itr lo n).yld i H x H' → g x (wipe σ vs) H' fun σ2 H2 => wipe σ2 vs = wipe σ vs ∧ tYes σ2 H2 fun b H3 =>
    if b = true then te σ2 H3 fun y H4 => ∃ acc, H4 D = some (.lst acc) ∧ acc.length < sizeLine ∧ Nx (upd H4 D (.lst (acc ++ [y]))) else Nx H3)
def kLcR1 (g : TG) (te : TE) (vs : List Nat) (σ : L2.St) (Q : VK) : List V → Hp → Prop := fun xs H1 => ∃ j : Int, xs = [.int j] ∧ -(2 ^ 62) ≤ j ∧ j < 2 ^ 62 ∧ kLcN g te vs σ Q 0 j.toNat H1
def kLcR2 (g : TG) (te : TE) (vs : List Nat) (σ : L2.St) (Q : VK) : List V → Hp → Prop := fun xs H1 => ∃ i j : Int, xs = [.int i, .int j] ∧ (-(2 ^ 62) ≤ i ∧ i < 2 ^ 62 ∧ -(2 ^ 62) ≤ j ∧ j < 2 ^ 62) ∧ kLcN g te vs σ Q i (j - i).toNat H1
theorem rd_lcR1 {tr : TA} {vs : List Nat} (h : tr σ H (kLcR1 g te vs σ Q)) : tLc (iRng1 tr) g tYes te vs σ H Q := h
theorem rd_lcR2 {tr : TA} {vs : List Nat} (h : tr σ H (kLcR2 g te vs σ Q)) : tLc (iRng2 tr) g tYes te vs σ H Q := h
theorem rd_kLcN {vs : List Nat} {lo : Int} {n : Nat} (J : Nat → List V → Addr → Hp → Prop) (h0 : ∀ D, H D = none → J 0 [] D (upd H D (.lst [])))
    (hs : ∀ i acc D H', H D = none → i < n → H' D = some (.lst acc) → acc.length = i → J i acc D H' → g (.int (lo + i)) (wipe σ vs) H' fun σ2 H2 => wipe σ2 vs = wipe σ vs ∧ te σ2 H2 (kLcEnd J D i))
    (mono : ∀ x H' (Q1 Q2 : L2.St → Hp → Prop), (∀ s h, Q1 s h → Q2 s h) → g x (wipe σ vs) H' Q1 → g x (wipe σ vs) H' Q2)
    (hd : ∀ acc D H', H D = none → acc.length = n → H' D = some (.lst acc) → J n acc D H' → Q (.ref D) H') : kLcN g te vs σ Q lo n H := by
  intro D hD
  refine lc_range (fun i H' => ∃ acc, acc.length = i ∧ H' D = some (.lst acc) ∧ J i acc D H') ⟨[], rfl, upd_same, h0 D hD⟩ ?_ fun H' ⟨acc, e, h, j⟩ => hd acc D H' hD e h j
  rintro i H' hi ⟨acc, e, h, j⟩
  refine mono _ H' _ _ (fun s h' z => ?_) (hs i acc D H' hD hi h e j)
  refine ⟨z.1, ?_⟩
  unfold tYes
  dsimp only
  rw [if_pos rfl]
  exact z.2
end
end My
namespace My
open PySem PySem.Spec PyProof.Rows L2
local macro_rules | `(tactic| walk_at "rd") => `(tactic| with_reducible (first
  | refine My.rd_seq ?_ | refine My.rd_var rfl ?_ | refine My.rd_op ?_ | refine My.rd_c ?_ | refine My.rd_asg ?_ | refine My.rd_name ?_ | refine My.rd_I0 ?_ | refine My.rd_test ?_ | refine My.rd_kB ?_
  | refine My.rd_ret ?_ | refine My.rd_cons ?_ | refine My.rd_nil ?_ | refine My.rd_call ?_ | refine My.rd_callS ?_ | refine My.rd_make ?_ | refine My.rd_CB ?_ | refine My.rd_par ?_ | refine My.rd_lst ?_ | refine My.rd_tup ?_ | refine My.rd_un ?_ | refine My.rd_U ?_
  | refine My.rd_eqI ?_ | refine My.rd_neI ?_ | refine My.rd_and ?_ | refine My.rd_or ?_ | refine My.rd_not ?_ | refine My.rd_B ?_ | refine My.rd_andV ?_ | refine My.rd_orV ?_ | refine My.rd_notV ?_ | refine My.rd_if ?_ | refine My.rd_drop ?_ | refine My.rd_next ?_ | refine My.rd_retN ?_ | refine My.rd_sub ?_ | refine My.rd_int ?_ | refine My.rd_intB ?_ | refine My.rd_abs ?_ | refine My.rd_fld ?_ | refine My.rd_sfld ?_ | refine My.rd_gcd ?_ | refine My.rd_gcons ?_ | refine My.rd_gnil ?_ | refine My.rd_sl ?_ | refine My.rd_noPart ?_ | refine My.rd_part ?_ | refine My.rd_kPart ?_ | refine My.rd_for ?_ | refine My.rd_lc ?_ | refine My.rd_rev ?_ | refine My.rd_forR ?_ | refine My.rd_forR2 ?_ | refine My.rd_forZ ?_ | refine My.rd_meth ?_ | refine My.rd_chain ?_ | refine My.rd_kChain ?_ | refine My.rd_lcR1 ?_ | refine My.rd_lcR2 ?_))
local macro_rules | `(tactic| walk_at "sd") => `(tactic| (first | decide | omega | assumption))
local macro_rules | `(tactic| walk_at "rt") => `(tactic| (first
  | walk_at "rd"
  | ((with_reducible refine My.rd_modP ?hc ?_); (case hc => walk_at "sd"))
  | ((with_reducible refine My.rd_divP ?hc ?hd ?_); (case hc => walk_at "sd"); (case hd => first | exact My.div_s (by omega) (by omega)))
  | ((with_reducible refine' My.rd_powC ?h0 ?h1 ?h2 ?e ?_); (case e => (simp only [Int.reduceToNat, Int.reducePow]; try rfl)); (case h0 => walk_at "sd"); (case h1 => walk_at "sd"); (case h2 => walk_at "sd"))
  | ((with_reducible refine My.rd_pow ?h0 ?h1 ?h2 ?_); (case h0 => walk_at "sd"); (case h1 => walk_at "sd"); (case h2 => walk_at "sd"))
  | ((with_reducible refine My.rd_mul ?hc ?_); (case hc => first | exact My.mul_r (by omega) (by omega) | exact My.mul_l (by omega) (by omega)))
  | ((with_reducible refine' My.rd_ixL ?hl ?ha ?_); (case hl => assumption); (case ha => rfl))
  | ((with_reducible refine' My.rd_ixT ?hl ?ha ?_); (case hl => assumption); (case ha => rfl))
  | ((with_reducible refine' My.rd_app ?e ?hl ?_); (case e => rfl); (case hl => assumption))
  | ((with_reducible refine' My.rd_glst ?hl ?hn ?_); (case hl => assumption); (case hn => rfl))
  | ((with_reducible refine' My.rd_len ?hl ?_); (case hl => assumption))
  | ((with_reducible refine' My.rd_lenT ?hl ?_); (case hl => assumption))
  | ((with_reducible refine' My.rd_gtup ?hl ?hn ?_); (case hl => assumption); (case hn => rfl))))
local macro_rules | `(tactic| walk_at "rs") => `(tactic| (first | walk_at "rt" | (with_reducible refine My.rd_ifS ?_)))

def top (i : Nat) : Stmt := PySem.Challenge.pw_elderdraw_k04_less_and_sums.main.body.getD i (.Pass ⟨0, 0, 0, 0⟩)
abbrev s_is_whole : Stmt := top 5
abbrev s_Share___init__ : Stmt := inClass (top 9) 0
abbrev s_Share___eq__ : Stmt := inClass (top 9) 1
abbrev s_Share___str__ : Stmt := inClass (top 9) 2
abbrev s__figures : Stmt := top 10
abbrev s_less : Stmt := top 11
abbrev s_on_one_bottom : Stmt := top 12
abbrev s_sum_of : Stmt := top 13
abbrev s__law_well : Stmt := top 15
abbrev s__law_draw : Stmt := top 16
abbrev s__law_one : Stmt := top 17
abbrev s__law_number : Stmt := top 18
abbrev s__law_fraction : Stmt := top 19
abbrev s__law_divisor : Stmt := top 20
abbrev s__law_lowest : Stmt := top 21
abbrev s__law_is : Stmt := top 22
abbrev s__law_sum : Stmt := top 23
abbrev s__law_rows : Stmt := top 24
abbrev s__law_is_less : Stmt := top 25
abbrev s_law : Stmt := top 26
structure Tx (K : PySem.W.Frag) (mg : Str → Option Value) : Prop where
  n_int : mg "int" = none
  n_len : mg "len" = none
  n_abs : mg "abs" = none
  n_repr : mg "repr" = none
  n_isinstance : mg "isinstance" = none
  n_bool : mg "bool" = none
  n_str : mg "str" = none
  n_list : mg "list" = none
  n_tuple : mg "tuple" = none
  n_range : mg "range" = none
  n_zip : mg "zip" = none
  n_enumerate : mg "enumerate" = none
  n_sum : mg "sum" = none
  n_any : mg "any" = none
  n_all : mg "all" = none
  n_min : mg "min" = none
  n_max : mg "max" = none
  n_sorted : mg "sorted" = none
/-- a well at p, from which at most N draws were made -/
def WellAt (H : Hp) (p : Addr) (N : Nat) : Prop := ∃ a b c : Int, H p = some (.lst [.int a, .int b, .int c]) ∧ 0 ≤ b ∧ b < 2147483647 ∧ 0 ≤ c ∧ c ≤ (N : Int)
/-- all but p as it was -/
def But (p : Addr) (H H' : Hp) : Prop := ∀ b o, b ≠ p → H b = some o → H' b = some o
theorem But.refl {p : Addr} {H : Hp} : But p H H := fun _ _ _ h => h
theorem But.trans {p : Addr} {H H1 H2 : Hp} (a : But p H H1) (b : But p H1 H2) : But p H H2 := fun c o n h => b c o n (a c o n h)
theorem But.upd {p : Addr} {H : Hp} {o : HO} : But p H (upd H p o) := fun b u n h => by rw [upd_ne n]; exact h
theorem Same.new {H : Hp} {p : Addr} {o : HO} (h : H p = none) : Same H (upd H p o) := fun b u e => by rw [upd_ne (ne_of_none e h)]; exact e
theorem WellAt.same {H H' : Hp} {p : Addr} {N : Nat} (w : WellAt H p N) (e : Same H H') : WellAt H' p N := by
  obtain ⟨a, b, c, h, r⟩ := w
  exact ⟨a, b, c, e _ _ h, r⟩
section
variable {P : Program} {w : World} {K : PySem.W.Frag} {mg : Str → Option Value} {base : Heap}
def spWell : Sp := fun vs H Q _ => ∃ c : Int, vs = [.int c] ∧ ∀ p H', H p = none → Same H H' → WellAt H' p 0 → Q (.ref p) H'
abbrev N__law_well : List Str := ["_law_cell"]
theorem sc__law_well : FnScope ["_law_cell"] ["_law_cell"] (defScope s__law_well) := ⟨rfl, rfl, rfl, by decide +kernel, rfl, by decide +kernel, by decide +kernel⟩
theorem ok_well {f : Addr} {fd : FuncData} (F : Fun K "_law_well" "_law_well" s__law_well f fd) (T : Tx K mg) : FnOk P w K mg base CX0 1 f fd ["_law_cell"] spWell := by
  refine F.ok sc__law_well (fun vs H Q E h => ?_) (fun cdv A outer s H vs Q E hr h => ?_)
  · obtain ⟨c, rfl, _⟩ := h
    rfl
  · obtain ⟨c, rfl, k⟩ := h
    refine ⟨_, (pss_one (ps_ret (pe_lst (pa_cons (pe_op op_mulA (pv 0) (pe_callTy cr_int (by rfl) T.n_int (by decide +kernel) (pa_cons (pe_cmpR op_ge (pv 0) (pe_op op_powA pe_int pe_int) (nomark _)) pa_nil))) (pa_cons (pe_op op_modA (pv 0) pe_int) (pa_cons pe_int pa_nil)))))), ?_⟩
    repeat walk_at "rs"
    refine rd_kLst rfl fun p hp => ?_
    exact k p _ hp (Same.new hp) ⟨_, _, _, upd_same, by omega, by omega, by omega, by omega⟩
abbrev primes : List V := [V.int 2147483647, V.int 2147483629, V.int 2147483587, V.int 2147483579, V.int 2147483563, V.int 2147483549, V.int 2147483543]
theorem prime_at {i : Int} (h : 0 ≤ i) (h' : i < 7) : ∃ q : Int, atI primes i = some (.int q) ∧ 0 < q ∧ q ≤ 2147483647 := by
  have e : i = 0 ∨ i = 1 ∨ i = 2 ∨ i = 3 ∨ i = 4 ∨ i = 5 ∨ i = 6 := by omega
  rcases e with rfl | rfl | rfl | rfl | rfl | rfl | rfl <;> exact ⟨_, rfl, by decide, by decide⟩
def spDraw : Sp := fun vs H Q _ => ∃ (p : Addr) (m : Int) (N : Nat), vs = [.ref p, .int m] ∧ WellAt H p N ∧ N < 1000000000 ∧ 0 < m ∧ m ≤ 10 ^ 28 ∧
  ∀ r H', 0 ≤ r → r < m → But p H H' → WellAt H' p (N + 1) → Q (.int r) H'
abbrev N__law_draw : List Str := ["_law_well_here", "_law_many", "_law_digit", "_law_prime", "_law_number_here"]
theorem sc__law_draw : FnScope ["_law_well_here", "_law_many", "_law_digit", "_law_prime", "_law_number_here"] ["_law_well_here", "_law_many"] (defScope s__law_draw) := ⟨rfl, rfl, rfl, by decide +kernel, rfl, by decide +kernel, by decide +kernel⟩
theorem ok_draw {f : Addr} {fd : FuncData} (F : Fun K "_law_draw" "_law_draw" s__law_draw f fd) (T : Tx K mg) : FnOk P w K mg base CX0 1 f fd ["_law_well_here", "_law_many"] spDraw := by
  refine F.ok sc__law_draw (fun vs H Q E h => ?_) (fun cdv A outer s H vs Q E hr h => ?_)
  · obtain ⟨p, m, N, rfl, _⟩ := h
    rfl
  · obtain ⟨p, m, N, rfl, ⟨a, b, c, hw, hb0, hb1, hc0, hc1⟩, hN, hm0, hm1, k⟩ := h
    have hm9 : CDivA a m := div_b (b := 100) (by omega) (by omega) (by decide) (by decide)
    refine ⟨_, (pss_cons (ps_if (pt_cmpR op_gt (pe_ix ix_list (pv 0) pe_int (fun _ _ => rfl)) pe_int (nomark _)) (pss_cons (ps_set (i := 2) sc__law_draw.nd rfl (Or.inl rfl) (pe_op op_modA (pe_ix ix_list (pv 0) pe_int (fun _ _ => rfl)) (pv 1)))
 (pss_cons (ps_asg (pe_op op_fdivA (pe_ix ix_list (pv 0) pe_int (fun _ _ => rfl)) (pv 1)) (pg_sub (pv 0) pe_int set_list))
 (pss_one (ps_ret (pv 2))))) pss_nil)
 (pss_cons (ps_asg (pe_op op_add (pe_ix ix_list (pv 0) pe_int (fun _ _ => rfl)) pe_int) (pg_sub (pv 0) pe_int set_list))
 (pss_cons (ps_set (i := 3) sc__law_draw.nd rfl (Or.inl rfl) (pe_ix ix_list (pe_lst (pa_cons pe_int (pa_cons pe_int (pa_cons pe_int (pa_cons pe_int (pa_cons pe_int (pa_cons pe_int (pa_cons pe_int pa_nil)))))))) (pe_op op_modA (pe_ix ix_list (pv 0) pe_int (fun _ _ => rfl)) pe_int) (fun _ _ => rfl)))
 (pss_cons (ps_set (i := 4) sc__law_draw.nd rfl (Or.inl rfl) (pe_op op_modA (pe_op op_powA (pe_op op_add (pe_op op_add (pe_ix ix_list (pv 0) pe_int (fun _ _ => rfl)) (pe_op op_mulA pe_int (pe_ix ix_list (pv 0) pe_int (fun _ _ => rfl)))) pe_int) pe_int) (pv 3)))
 (pss_cons (ps_set (i := 4) sc__law_draw.nd rfl (Or.inl rfl) (pe_op op_modA (pe_op op_mulA (pe_op op_add (pv 4) (pe_ix ix_list (pv 0) pe_int (fun _ _ => rfl))) (pe_op op_add (pe_op op_fdivA (pv 4) pe_int) pe_int)) (pv 3)))
 (pss_one (ps_ret (pe_op op_modA (pe_op op_fdivA (pv 4) pe_int) (pv 1))))))))), ?_⟩
    have hq : SqL K H p [.int a, .int b, .int c] := SqL.of hw
    repeat walk_at "rs"
    refine ite_d (fun ha => ?_) (fun ha => ?_)
    · repeat walk_at "rs"
      refine rd_divP hm0 hm9 ?_
      repeat walk_at "rs"
      refine rd_setL hw (j := 0) rfl ?_
      repeat walk_at "rs"
      exact k _ _ (Int.emod_nonneg _ (by omega)) (Int.emod_lt_of_pos _ hm0) But.upd ⟨_, _, _, upd_same, hb0, hb1, hc0, by omega⟩
    · repeat walk_at "rs"
      refine rd_setL hw (j := 2) rfl ?_
      have hq : SqL K (upd H p (.lst [.int a, .int b, .int (c + 1)])) p [.int a, .int b, .int (c + 1)] := SqL.of upd_same
      repeat walk_at "rs"
      refine rd_kLst rfl fun l hl => ?_
      have npl : p ≠ l := ne_of_none upd_same hl
      have hq : SqL K (upd (upd H p (.lst [.int a, .int b, .int (c + 1)])) l (.lst primes)) p [.int a, .int b, .int (c + 1)] := SqL.of (by rw [upd_ne npl]; exact upd_same)
      repeat walk_at "rs"
      obtain ⟨q, eq, q0, q1⟩ := prime_at (i := (c + 1) % 7) (by omega) (by omega)
      refine rd_ixL (SqL.of upd_same) eq ?_
      repeat walk_at "rs"
      have x0 := Int.emod_nonneg ((b + 7919 * (c + 1) + 1) ^ 5) (show q ≠ 0 by omega)
      have x1 := Int.emod_lt_of_pos ((b + 7919 * (c + 1) + 1) ^ 5) q0
      generalize (b + 7919 * (c + 1) + 1) ^ 5 % q = z at x0 x1
      refine rd_mul ?_ ?_
      · exact mul_r (by omega) (by omega)
      repeat walk_at "rs"
      have y0 := Int.emod_nonneg ((z + (c + 1)) * (z / 1009 + 69621)) (show q ≠ 0 by omega)
      exact k _ _ (Int.emod_nonneg _ (by omega)) (Int.emod_lt_of_pos _ hm0) (fun b o n h => by rw [upd_ne (ne_of_none (show upd H p _ b = some o by rw [upd_ne n]; exact h) hl), upd_ne n]; exact h)
        ⟨a, b, c + 1, by rw [upd_ne npl]; exact upd_same, hb0, hb1, by omega, by omega⟩
theorem sbut {p : Addr} {H H' : Hp} (e : Same H H') : But p H H' := fun b o _ h => e b o h
theorem But.seq {p l : Addr} {H H' : Hp} {xs : List V} (e : But p H H') (n : l ≠ p) (h : SqL K H l xs) : SqL K H' l xs := by
  rcases h with (h | ⟨o, h⟩) | h
  · exact .inl (.inl (e _ _ n h))
  · exact .inl (.inr ⟨o, e _ _ n h⟩)
  · exact .inr h
theorem WellAt.ne_new {H : Hp} {p l : Addr} {N : Nat} (w : WellAt H p N) (h : H l = none) : l ≠ p := by
  obtain ⟨a, b, c, e, _⟩ := w
  exact (ne_of_none e h).symm
theorem at_int {xs : List V} {r : Int} (h0 : 0 ≤ r) (h1 : r < (xs.length : Int)) : ∃ v, atI xs r = some v ∧ v ∈ xs := by
  obtain ⟨n, rfl⟩ : ∃ n : Nat, r = (n : Int) := ⟨r.toNat, by omega⟩
  have h : n < xs.length := by omega
  exact ⟨xs[n], atI_nat (List.getElem?_eq_getElem h), List.getElem_mem h⟩
def spOne (K : PySem.W.Frag) : Sp := fun vs H Q _ => ∃ (p l : Addr) (xs : List V) (N : Nat), vs = [.ref p, .ref l] ∧ WellAt H p N ∧ N < 1000000000 ∧ SqL K H l xs ∧ l ≠ p ∧ 0 < xs.length ∧ xs.length ≤ 100000 ∧
  ∀ v H', v ∈ xs → But p H H' → WellAt H' p (N + 1) → Q v H'
abbrev N__law_one : List Str := ["_law_well_here", "_law_some"]
theorem sc__law_one : FnScope ["_law_well_here", "_law_some"] ["_law_well_here", "_law_some"] (defScope s__law_one) := ⟨rfl, rfl, rfl, by decide +kernel, rfl, by decide +kernel, by decide +kernel⟩
theorem ok_one {f : Addr} {fd : FuncData} (F : Fun K "_law_one" "_law_one" s__law_one f fd) (T : Tx K mg) (d__law_draw : Df P w K mg base CX0 1 "_law_draw" ["_law_well_here", "_law_many"] spDraw) : FnOk P w K mg base CX0 2 f fd ["_law_well_here", "_law_some"] (spOne K) := by
  refine F.ok sc__law_one (fun vs H Q E h => ?_) (fun cdv A outer s H vs Q E hr h => ?_)
  · obtain ⟨p, l, xs, N, rfl, _⟩ := h
    rfl
  · obtain ⟨p, l, xs, N, rfl, hw, hN, hl, hne, h0, h1, k⟩ := h
    refine ⟨_, (pss_one (ps_ret (pe_ix ix_list (pv 1) (pe_df d__law_draw (hr.mono (by decide)) pass0 (pa_cons (pv 0) (pa_cons (pe_callB cr_len (by rfl) T.n_len PySem.boot_len (pa_cons (pv 1) pa_nil)) pa_nil))) (fun _ _ => rfl)))), ?_⟩
    repeat walk_at "rs"
    refine ⟨p, _, N, rfl, hw, hN, by omega, by omega, fun r H' r0 r1 e w' => ?_⟩
    obtain ⟨v, hv, hm⟩ := at_int r0 r1
    exact rd_ixL (e.seq hne hl) hv (k v H' hm e w')
def spNumber : Sp := fun vs H Q _ => ∃ (p : Addr) (N : Nat), vs = [.ref p] ∧ WellAt H p N ∧ N < 900000000 ∧ ∀ r H', Int.natAbs r < 10 ^ 28 → But p H H' → WellAt H' p (N + 3) → Q (.int r) H'
abbrev N__law_number : List Str := ["_law_well_here", "_law_most", "_law_number_here"]
theorem sc__law_number : FnScope ["_law_well_here", "_law_most", "_law_number_here"] ["_law_well_here"] (defScope s__law_number) := ⟨rfl, rfl, rfl, by decide +kernel, rfl, by decide +kernel, by decide +kernel⟩
theorem ok_number {f : Addr} {fd : FuncData} (F : Fun K "_law_number" "_law_number" s__law_number f fd) (T : Tx K mg) (d__law_draw : Df P w K mg base CX0 1 "_law_draw" ["_law_well_here", "_law_many"] spDraw)
    (d__law_one : Df P w K mg base CX0 2 "_law_one" ["_law_well_here", "_law_some"] (spOne K)) : FnOk P w K mg base CX0 3 f fd ["_law_well_here"] spNumber := by
  refine F.ok sc__law_number (fun vs H Q E h => ?_) (fun cdv A outer s H vs Q E hr h => ?_)
  · obtain ⟨p, N, rfl, _⟩ := h
    rfl
  · obtain ⟨p, N, rfl, hw, hN, k⟩ := h
    refine ⟨_, (pss_cons (ps_set (i := 1) sc__law_number.nd rfl (Or.inl rfl) (pe_df d__law_one (hr.mono (by decide)) pass0 (pa_cons (pv 0) (pa_cons (pe_lst (pa_cons pe_int (pa_cons pe_int (pa_cons pe_int (pa_cons (pe_op op_powA pe_int pe_int) (pa_cons (pe_op op_powA pe_int pe_int) pa_nil)))))) pa_nil))))
 (pss_cons (ps_set (i := 2) sc__law_number.nd rfl (Or.inl rfl) (pe_df d__law_draw (hr.mono (by decide)) pass0 (pa_cons (pv 0) (pa_cons (pv 1) pa_nil))))
 (pss_one (ps_ret (pe_ix ix_list (pe_lst (pa_cons (pv 2) (pa_cons (pe_op op_sub pe_int (pv 2)) pa_nil))) (pe_df d__law_draw (hr.mono (by decide)) pass0 (pa_cons (pv 0) (pa_cons pe_int pa_nil))) (fun _ _ => rfl)))))), ?_⟩
    repeat walk_at "rs"
    refine rd_kLst rfl fun l hl => ?_
    repeat walk_at "rs"
    refine ⟨p, l, _, N, rfl, hw.same (Same.new hl), by omega, SqL.of upd_same, hw.ne_new hl, by decide, by decide, fun v H1 hv e1 w1 => ?_⟩
    obtain ⟨m, rfl, m0, m1⟩ : ∃ m : Int, v = .int m ∧ 0 < m ∧ m ≤ 10 ^ 28 := by
      simp only [List.mem_cons, List.not_mem_nil, or_false] at hv
      rcases hv with rfl | rfl | rfl | rfl | rfl <;> exact ⟨_, rfl, by decide, by decide⟩
    repeat walk_at "rs"
    refine ⟨p, m, N + 1, rfl, w1, by omega, m0, m1, fun r H2 r0 r1 e2 w2 => ?_⟩
    repeat walk_at "rs"
    refine rd_kLst rfl fun l2 hl2 => ?_
    repeat walk_at "rs"
    refine ⟨p, 2, N + 2, rfl, w2.same (Same.new hl2), by omega, by decide, by decide, fun z H3 z0 z1 e3 w3 => ?_⟩
    have ne2 : l2 ≠ p := w2.ne_new hl2
    have ee : But p H H3 := (((sbut (Same.new hl)).trans e1).trans e2).trans ((sbut (Same.new hl2)).trans e3)
    have hq : SqL K H3 l2 [.int r, .int (0 - r)] := e3.seq ne2 (SqL.of upd_same)
    obtain rfl | rfl : z = 0 ∨ z = 1 := by omega
    · refine rd_ixL hq (v := .int r) rfl ?_
      exact k _ _ (by omega) ee w3
    · refine rd_ixL hq (v := .int (0 - r)) rfl ?_
      exact k _ _ (by omega) ee w3
def spFraction : Sp := fun vs H Q _ => ∃ (p : Addr) (N : Nat), vs = [.ref p] ∧ WellAt H p N ∧ N < 800000000 ∧ ∀ T t b H', H T = none → T ≠ p → Int.natAbs t < 10 ^ 28 → Int.natAbs b < 10 ^ 28 → b ≠ 0 → But p H H' → H' T = some (.tup [.int t, .int b]) → WellAt H' p (N + 7) → Q (.ref T) H'
abbrev N__law_fraction : List Str := ["_law_well_here", "_law_top", "_law_bottom", "_law_by"]
theorem sc__law_fraction : FnScope ["_law_well_here", "_law_top", "_law_bottom", "_law_by"] ["_law_well_here"] (defScope s__law_fraction) := ⟨rfl, rfl, rfl, by decide +kernel, rfl, by decide +kernel, by decide +kernel⟩
theorem ok_fraction {f : Addr} {fd : FuncData} (F : Fun K "_law_fraction" "_law_fraction" s__law_fraction f fd) (T : Tx K mg) (d__law_draw : Df P w K mg base CX0 1 "_law_draw" ["_law_well_here", "_law_many"] spDraw)
    (d__law_number : Df P w K mg base CX0 3 "_law_number" ["_law_well_here"] spNumber) : FnOk P w K mg base CX0 4 f fd ["_law_well_here"] spFraction := by
  refine F.ok sc__law_fraction (fun vs H Q E h => ?_) (fun cdv A outer s H vs Q E hr h => ?_)
  · obtain ⟨p, N, rfl, _⟩ := h
    rfl
  · obtain ⟨p, N, rfl, hw, hN, k⟩ := h
    refine ⟨_, (pss_cons (ps_set (i := 1) sc__law_fraction.nd rfl (Or.inl rfl) (pe_df d__law_number (hr.mono (by decide)) pass0 (pa_cons (pv 0) pa_nil)))
 (pss_cons (ps_set (i := 2) sc__law_fraction.nd rfl (Or.inl rfl) (pe_df d__law_number (hr.mono (by decide)) pass0 (pa_cons (pv 0) pa_nil)))
 (pss_cons (ps_set (i := 3) sc__law_fraction.nd rfl (Or.inl rfl) (pe_op op_add pe_int (pe_df d__law_draw (hr.mono (by decide)) pass0 (pa_cons (pv 0) (pa_cons pe_int pa_nil)))))
 (pss_cons (ps_if (PW.pt (pw_and (pt_cmpR op_lt (pe_op op_mulA (pe_callB cr_abs (by rfl) T.n_abs (by decide +kernel) (pa_cons (pv 1) pa_nil)) (pv 3)) (pe_op op_powA pe_int pe_int) (nomark _)) (pw_and1 (pt_cmpR op_lt (pe_op op_mulA (pe_callB cr_abs (by rfl) T.n_abs (by decide +kernel) (pa_cons (pv 2) pa_nil)) (pv 3)) (pe_op op_powA pe_int pe_int) (nomark _))))) (pss_one (ps_par (i := 1) (j := 2) (by rfl) sc__law_fraction.nd rfl rfl (by decide) rfl rfl (pa_cons (pe_op op_mulA (pv 1) (pv 3)) (pa_cons (pe_op op_mulA (pv 2) (pv 3)) pa_nil)) (by rfl))) pss_nil)
 (pss_one (ps_ret (pe_tup (pa_cons (pv 1) (pa_cons (pe_op op_add (pv 2) (pe_callTy cr_int (by rfl) T.n_int (by decide +kernel) (pa_cons (pe_cmpR op_eq (pv 2) pe_int (nomark _)) pa_nil))) pa_nil))))))))), ?_⟩
    repeat walk_at "rs"
    refine ⟨p, N, rfl, hw, by omega, fun t H1 ht e1 w1 => ?_⟩
    repeat walk_at "rs"
    refine ⟨p, N + 3, rfl, w1, by omega, fun b H2 hb e2 w2 => ?_⟩
    repeat walk_at "rs"
    refine ⟨p, 12, N + 6, rfl, w2, by omega, by decide, by decide, fun z H3 z0 z1 e3 w3 => ?_⟩
    have ee : But p H H3 := (e1.trans e2).trans e3
    have fresh : ∀ T, H3 T = none → H T = none := fun T h => by
      cases q : H T with
      | none => rfl
      | some o =>
        rcases Classical.em (T = p) with rfl | n
        · exact absurd h (by obtain ⟨_, _, _, e, _⟩ := w3; rw [e]; exact fun y => nomatch y)
        · rw [ee T o n q] at h
          cases h
    repeat walk_at "rs"
    have fin : ∀ (t' b' : Int), t'.natAbs < 10 ^ 28 → b'.natAbs < 10 ^ 28 → ∀ T, H3 T = none → Q (.ref T) (upd H3 T (.tup [.int t', .int (b' + if decide (b' = 0) = true then 1 else 0)])) := fun t' b' ht' hb' T hT => by
      have h1 : Int.natAbs (b' + if decide (b' = 0) = true then 1 else 0) < 10 ^ 28 := by
        rcases Classical.em (b' = 0) with c | c
        · subst c
          decide
        · rw [if_neg (by simpa using c), Int.add_zero]
          exact hb'
      have h2 : (b' + if decide (b' = 0) = true then 1 else 0) ≠ 0 := by
        rcases Classical.em (b' = 0) with c | c
        · subst c
          decide
        · rw [if_neg (by simpa using c), Int.add_zero]
          exact c
      exact k T t' _ _ (fresh T hT) (w3.ne_new hT) ht' h1 h2 (ee.trans (sbut (Same.new hT))) upd_same (w3.same (Same.new hT))
    refine ite_d (fun c1 => ?_) (fun c1 => ?_)
    · repeat walk_at "rs"
      refine ite_d (fun c2 => ?_) (fun c2 => ?_)
      · repeat walk_at "rs"
        refine rd_kTup rfl fun T hT => ?_
        refine fin _ _ ?_ ?_ T hT
        · rw [Int.natAbs_mul]
          have q : ((t.natAbs * (1 + z).natAbs : Nat) : Int) = (if t < 0 then -t else t) * (1 + z) := by
            rw [Int.natCast_mul]
            congr 1 <;> omega
          omega
        · rw [Int.natAbs_mul]
          have q : ((b.natAbs * (1 + z).natAbs : Nat) : Int) = (if b < 0 then -b else b) * (1 + z) := by
            rw [Int.natCast_mul]
            congr 1 <;> omega
          omega
      · repeat walk_at "rs"
        exact rd_kTup rfl fun T hT => fin _ _ ht hb T hT
    · refine iteF ?_
      repeat walk_at "rs"
      exact rd_kTup rfl fun T hT => fin _ _ ht hb T hT
def spDivisor : Sp := fun vs H Q _ => ∃ a b : Int, vs = [.int a, .int b] ∧ Q (.int ((Nat.gcd a.natAbs b.natAbs : Nat) : Int)) H
abbrev N__law_divisor : List Str := ["_law_one_here", "_law_other"]
theorem sc__law_divisor : FnScope ["_law_one_here", "_law_other"] ["_law_one_here", "_law_other"] (defScope s__law_divisor) := ⟨rfl, rfl, rfl, by decide +kernel, rfl, by decide +kernel, by decide +kernel⟩
theorem ok_divisor {f : Addr} {fd : FuncData} (F : Fun K "_law_divisor" "_law_divisor" s__law_divisor f fd) (T : Tx K mg) : FnOk P w K mg base CX0 1 f fd ["_law_one_here", "_law_other"] spDivisor := by
  refine F.ok sc__law_divisor (fun vs H Q E h => ?_) (fun cdv A outer s H vs Q E hr h => ?_)
  · obtain ⟨a, b, rfl, _⟩ := h
    rfl
  · obtain ⟨a, b, rfl, k⟩ := h
    refine ⟨_, (pss_cons (ps_par (i := 0) (j := 1) (by rfl) sc__law_divisor.nd rfl rfl (by decide) rfl rfl (pa_cons (pe_callB cr_abs (by rfl) T.n_abs (by decide +kernel) (pa_cons (pv 0) pa_nil)) (pa_cons (pe_callB cr_abs (by rfl) T.n_abs (by decide +kernel) (pa_cons (pv 1) pa_nil)) pa_nil)) (by rfl))
 (pss_cons (ps_while PassesOwn.never (pt_cmpR op_ne (pv 1) pe_int (nomark _)) (pss_one (ps_par (i := 0) (j := 1) (by rfl) sc__law_divisor.nd rfl rfl (by decide) rfl rfl (pa_cons (pv 1) (pa_cons (pe_op op_modA (pv 0) (pv 1)) pa_nil)) (by rfl))))
 (pss_one (ps_ret (pv 0))))), ?_⟩
    repeat walk_at "rs"
    refine while_by (fun σ H' => H' = H ∧ ∃ x y : Nat, σ = [some (.int (x : Int)), some (.int (y : Int))] ∧ Nat.gcd x y = Nat.gcd a.natAbs b.natAbs) (fun σ _ => match σ with | [_, some (.int y)] => y.toNat | _ => 0) ⟨rfl, a.natAbs, b.natAbs, ?_, rfl⟩ ?_ ?_
    · have ea : (if a < 0 then -a else a) = (a.natAbs : Int) := by omega
      have eb : (if b < 0 then -b else b) = (b.natAbs : Int) := by omega
      rw [ea, eb]
      rfl
    · rintro σ H' ⟨rfl, x, y, rfl, g⟩
      repeat walk_at "rs"
      refine ite_nd (fun c => ?_) (fun c => ?_)
      · repeat walk_at "rs"
        refine ⟨⟨rfl, y, x % y, rfl, ?_⟩, ?_⟩
        · rw [← g, Nat.gcd_comm x y, Nat.gcd_rec y x, Nat.gcd_comm]
        · show ((x : Int) % (y : Int)).toNat < (y : Int).toNat
          have h1 := Int.emod_lt_of_pos (x : Int) (show (0 : Int) < y by omega)
          have h0 := Int.emod_nonneg (x : Int) (show (y : Int) ≠ 0 by omega)
          omega
      · repeat walk_at "rs"
        have y0 : y = 0 := by omega
        subst y0
        rw [Nat.gcd_zero_right] at g
        subst g
        exact k
    · rintro σ H Q Q' f ⟨v, e, hs, kk, e2, q⟩
      exact ⟨v, e, hs, kk, e2, f _ _ q⟩
def spLowest : Sp := fun vs H Q _ => ∃ a b : Int, vs = [.int a, .int b] ∧ b ≠ 0 ∧ b.natAbs < 2 ^ 1900 ∧ ∀ T H', H T = none → Same H H' → H' T = some (.tup [.int (Rat.divInt a b).num, .int ((Rat.divInt a b).den : Int)]) → Q (.ref T) H'
abbrev N__law_lowest : List Str := ["_law_top", "_law_bottom", "_law_by"]
theorem sc__law_lowest : FnScope ["_law_top", "_law_bottom", "_law_by"] ["_law_top", "_law_bottom"] (defScope s__law_lowest) := ⟨rfl, rfl, rfl, by decide +kernel, rfl, by decide +kernel, by decide +kernel⟩
theorem ok_lowest {f : Addr} {fd : FuncData} (F : Fun K "_law_lowest" "_law_lowest" s__law_lowest f fd) (T : Tx K mg) (d__law_divisor : Df P w K mg base CX0 1 "_law_divisor" ["_law_one_here", "_law_other"] spDivisor) : FnOk P w K mg base CX0 2 f fd ["_law_top", "_law_bottom"] spLowest := by
  refine F.ok sc__law_lowest (fun vs H Q E h => ?_) (fun cdv A outer s H vs Q E hr h => ?_)
  · obtain ⟨a, b, rfl, _⟩ := h
    rfl
  · obtain ⟨a, b, rfl, hb, hz, k⟩ := h
    refine ⟨_, (pss_cons (ps_set (i := 2) sc__law_lowest.nd rfl (Or.inl rfl) (pe_df d__law_divisor (hr.mono (by decide)) pass0 (pa_cons (pv 0) (pa_cons (pv 1) pa_nil))))
 (pss_cons (ps_if (pt_cmpR op_lt (pv 1) pe_int (nomark _)) (pss_one (ps_set (i := 2) sc__law_lowest.nd rfl (Or.inl rfl) (pe_op op_sub pe_int (pv 2)))) pss_nil)
 (pss_one (ps_ret (pe_tup (pa_cons (pe_op op_fdivA (pv 0) (pv 2)) (pa_cons (pe_op op_fdivA (pv 1) (pv 2)) pa_nil))))))), ?_⟩
    have dv : ∀ i, CDivA i (com a b) := fun i => div_b (b := 1900) (com_ne hb) (Nat.lt_of_le_of_lt (com_le hb) hz) (by decide) (by decide)
    repeat walk_at "rs"
    refine ⟨a, b, rfl, ?_⟩
    repeat walk_at "rs"
    refine ite_d (fun c => ?_) (fun c => ?_)
    all_goals
      repeat walk_at "rs"
    · have e : 0 - ((Nat.gcd a.natAbs b.natAbs : Nat) : Int) = com a b := by unfold com; rw [if_pos c]; omega
      rw [e]
      refine rd_div (dv _) ?_
      repeat walk_at "rs"
      refine rd_div (dv _) ?_
      repeat walk_at "rs"
      rw [low_num hb, low_den hb]
      exact rd_kTup rfl fun T hT => k T _ hT (Same.new hT) upd_same
    · have e : ((Nat.gcd a.natAbs b.natAbs : Nat) : Int) = com a b := by unfold com; rw [if_neg c]
      rw [e]
      refine rd_div (dv _) ?_
      repeat walk_at "rs"
      refine rd_div (dv _) ?_
      repeat walk_at "rs"
      rw [low_num hb, low_den hb]
      exact rd_kTup rfl fun T hT => k T _ hT (Same.new hT) upd_same
/-- what the top has written of Share and of NoShare -/
structure TS (K : PySem.W.Frag) (mg : Str → Option Value) (C_Share C_NoShare : Addr) : Prop extends Tx K mg where
  cl : Cls K C_Share
  nT : NoAttr K C_Share "top"
  nB : NoAttr K C_Share "bottom"
  g_Share : mg "Share" = some (.ref C_Share)
  cc : PySem.W.findIn K (.ref C_Share) "__class__" = some (some (.builtin "object.__class__"))
  cg : PySem.W.specialIn K (.builtin "object.__class__") "__get__" = some (some (.builtin "getset_descriptor.__get__"))
  ct : PySem.W.takesIn K (.builtin "object.__class__") = some true
  cm : PySem.W.mroIn K C_Share (.type "object") = some true
  g_gcd : mg "gcd" = some (.builtin "math.gcd")
  g_NoShare : mg "NoShare" = some (.ref C_NoShare)
  x_NoShare : PySem.W.excIn K C_NoShare [.type "ValueError", .type "Exception", .type "BaseException", .type "object"] "ValueError.__new__" = true
  k_NoShare : PySem.W.keepIn K (.ref C_NoShare) = true
  b_NoShare : PySem.W.subIn K (.ref C_NoShare) (.type "BaseException") = some true
  t_NoShare : PySem.W.typeIn K (.ref C_NoShare) = some (.type "type")
  i_NoShare : PySem.W.hasDictIn K C_NoShare = true
  s_NoShare : PySem.W.subIn K (.ref C_NoShare) (.ref C_NoShare) = some true
/-- a share's attributes, in the order in which they are stored -/
def shF (n d : Int) : List (Str × V) := putF "bottom" (.int d) (putF "top" (.int n) [])
theorem shF_top (n d : Int) : (shF n d).lookup ("top" : Str) = some (.int n) := by
  unfold shF
  rw [lookup_putF, if_neg (by decide +kernel), lookup_putF, if_pos rfl]
theorem shF_bot (n d : Int) : (shF n d).lookup ("bottom" : Str) = some (.int d) := by
  unfold shF
  rw [lookup_putF, if_pos rfl]
/-- at a stands a share of the number q -/
def ShAt (C : Addr) (H : Hp) (a : Addr) (q : Rat) : Prop := ∃ dx, H a = some (.ins C dx (shF q.num (q.den : Int)))
theorem ShAt.same {C a : Addr} {H H' : Hp} {q : Rat} (h : ShAt C H a q) (e : Same H H') : ShAt C H' a q := by
  obtain ⟨dx, z⟩ := h
  exact ⟨dx, e _ _ z⟩
theorem ShAt.but {C a p : Addr} {H H' : Hp} {q : Rat} (h : ShAt C H a q) (e : But p H H') (n : a ≠ p) : ShAt C H' a q := by
  obtain ⟨dx, z⟩ := h
  exact ⟨dx, e _ _ n z⟩
theorem ShAt.ne {C a p : Addr} {H : Hp} {q : Rat} {N : Nat} (h : ShAt C H a q) (w : WellAt H p N) : a ≠ p := by
  obtain ⟨dx, z⟩ := h
  obtain ⟨_, _, _, e, _⟩ := w
  exact ne_of z e (fun y => nomatch y)
/-- any thing: whether it is an int and no bool -/
def spWhole (K : PySem.W.Frag) : Sp := fun vs H Q _ => ∃ (v : V) (t : Value) (b1 b2 : Bool), vs = [v] ∧ TyX K H v t ∧ PySem.W.kitOne K t (.type "int") = some b1 ∧ PySem.W.kitOne K t (.type "bool") = some b2 ∧ Q (.bl (b1 && !b2)) H
abbrev N_is_whole : List Str := ["thing"]
theorem sc_is_whole : FnScope ["thing"] ["thing"] (defScope s_is_whole) := ⟨rfl, rfl, rfl, by decide +kernel, rfl, by decide +kernel, by decide +kernel⟩
theorem ok_whole {f : Addr} {fd : FuncData} (F : Fun K "is_whole" "is_whole" s_is_whole f fd) (T : Tx K mg) : FnOk P w K mg base CX0 1 f fd ["thing"] (spWhole K) := by
  refine F.ok sc_is_whole (fun vs H Q E h => ?_) (fun cdv A outer s H vs Q E hr h => ?_)
  · obtain ⟨v, t, b1, b2, rfl, _⟩ := h
    rfl
  · obtain ⟨v, t, b1, b2, rfl, ty, e1, e2, k⟩ := h
    refine ⟨_, (pss_one (ps_ret (pe_and (pe_callB call_isi (by rfl) T.n_isinstance (by decide +kernel) (pa_cons (pv 0) (pa_cons (pe_bltn (v := .ty "int") (by rfl) T.n_int (by decide +kernel) rfl) pa_nil))) (pe_one (pe_not (pe_callB call_isi (by rfl) T.n_isinstance (by decide +kernel) (pa_cons (pv 0) (pa_cons (pe_bltn (v := .ty "bool") (by rfl) T.n_bool (by decide +kernel) rfl) pa_nil)))))))), ?_⟩
    repeat walk_at "rs"
    refine rd_isi (ClsV.ty _) ty e1 ?_
    repeat walk_at "rs"
    cases b1 with
    | false => exact iteF k
    | true =>
      refine iteT ?_
      repeat walk_at "rs"
      refine rd_isi (ClsV.ty _) ty e2 ?_
      repeat walk_at "rs"
      exact k
theorem whole_int {H : Hp} {Q : VK} {E : XK} {n : Int} (k : Q (.bl true) H) : spWhole K [.int n] H Q E := ⟨_, _, true, false, rfl, .base (.int n), kit_ty (by decide +kernel), kit_ty (by decide +kernel), k⟩
/-- __init__: of two ints, the bottom not 0; or refused -/
def spInit (C C_NoShare : Addr) : Sp := fun vs H Q E => ∃ (x dx : Addr) (n d : Int), vs = [.ref x, .int n, .int d] ∧ H x = some (.ins C dx []) ∧ d.natAbs < 2 ^ 8999 ∧
  (d = 0 → E (.ref C_NoShare) none H) ∧ (d ≠ 0 → Q .non (upd H x (.ins C dx (shF (Rat.divInt n d).num ((Rat.divInt n d).den : Int)))))
abbrev N_Share___init__ : List Str := ["self", "top", "bottom", "common"]
theorem sc_Share___init__ : FnScope ["self", "top", "bottom", "common"] ["self", "top", "bottom"] (defScope s_Share___init__) := ⟨rfl, rfl, rfl, by decide +kernel, rfl, by decide +kernel, by decide +kernel⟩
theorem ok_init {f C_Share C_NoShare : Addr} {fd : FuncData} (F : FunD K "__init__" "Share.__init__" (defArgs s_Share___init__) (defBody s_Share___init__) (defScope s_Share___init__) [.int 1] [] f fd) (T : TS K mg C_Share C_NoShare) (d_is_whole : Df P w K mg base CX0 1 "is_whole" ["thing"] (spWhole K)) :
    FnOk P w K mg base (CX P w) 2 f fd ["self", "top", "bottom"] (spInit C_Share C_NoShare) := by
  refine F.ok sc_Share___init__ (fun vs H Q E h => ?_) (fun cdv A outer s H vs Q E hr h => ?_)
  · obtain ⟨x, dx, n, d, rfl, _⟩ := h
    rfl
  · obtain ⟨x, dx, n, d, rfl, hx, hz, kE, kQ⟩ := h
    refine ⟨_, (pss_cons (ps_if (PW.pt (pw_or (pt_not (pt_val (pe_df d_is_whole (hr.mono (by decide)) pass0 (pa_cons (pv 1) pa_nil)))) (pw_or (pt_not (pt_val (pe_df d_is_whole (hr.mono (by decide)) pass0 (pa_cons (pv 2) pa_nil)))) (pw_or1 (pt_cmpR op_eq (pv 2) pe_int (nomark _)))))) (pss_one (ps_raise rfl (takes_of rfl rfl rfl rfl) (pmk_own PySem.F.excBase_ValueError T.x_NoShare T.g_NoShare T.k_NoShare (raises_own T.b_NoShare T.t_NoShare) (by exact rfl)))) pss_nil)
 (pss_cons (ps_set (i := 3) sc_Share___init__.nd rfl (Or.inl rfl) (pe_callBfun cr_gcd (by rfl) T.g_gcd (pa_cons (pv 1) (pa_cons (pv 2) pa_nil))))
 (pss_cons (ps_if (pt_cmpR op_lt (pv 2) pe_int (nomark _)) (pss_one (ps_set (i := 3) sc_Share___init__.nd rfl (Or.inl rfl) (pe_un un_neg (pv 3)))) pss_nil)
 (pss_cons (ps_fld (pv 0) (pe_op op_fdivA (pv 1) (pv 3)) rfl)
 (pss_one (ps_fld (pv 0) (pe_op op_fdivA (pv 2) (pv 3)) rfl)))))), ?_⟩
    repeat walk_at "rs"
    refine whole_int ?_
    repeat walk_at "rs"
    refine iteF ?_
    repeat walk_at "rs"
    refine whole_int ?_
    repeat walk_at "rs"
    refine iteF ?_
    repeat walk_at "rs"
    refine ite_d (fun c => ?_) (fun c => ?_)
    · exact kE c
    · have dv : ∀ i, CDivA i (com n d) := fun i => div_b (b := 8999) (com_ne c) (Nat.lt_of_le_of_lt (com_le c) hz) (by decide) (by decide)
      repeat walk_at "rs"
      refine ite_d (fun c2 => ?_) (fun c2 => ?_)
      all_goals
        repeat walk_at "rs"
      · have e : -((Nat.gcd n.natAbs d.natAbs : Nat) : Int) = com n d := by unfold com; rw [if_pos c2]
        rw [e]
        refine rd_div (dv _) ?_
        repeat walk_at "rs"
        refine rd_kSet hx T.cl T.nT rfl ?_
        repeat walk_at "rs"
        refine rd_div (dv _) ?_
        repeat walk_at "rs"
        refine rd_kSet upd_same T.cl T.nB rfl ?_
        rw [low_num c, low_den c, upd_upd]
        exact kQ c
      · have e : ((Nat.gcd n.natAbs d.natAbs : Nat) : Int) = com n d := by unfold com; rw [if_neg c2]
        rw [e]
        refine rd_div (dv _) ?_
        repeat walk_at "rs"
        refine rd_kSet hx T.cl T.nT rfl ?_
        repeat walk_at "rs"
        refine rd_div (dv _) ?_
        repeat walk_at "rs"
        refine rd_kSet upd_same T.cl T.nB rfl ?_
        rw [low_num c, low_den c, upd_upd]
        exact kQ c
/-- a new share, of two ints, the bottom not 0 -/
theorem rd_share {C CN : Addr} {n d : Int} {H : Hp} {Q : VK} {E : XK} (h : d ≠ 0) (hz : d.natAbs < 2 ^ 8999) (k : ∀ x H', H x = none → Same H H' → ShAt C H' x (Rat.divInt n d) → Q (.ref x) H') :
    kMake C (spInit C CN) [] E Q [.int n, .int d] H := by
  intro x dx hx hdx ne
  refine ⟨x, dx, n, d, rfl, upd_same, hz, fun c => absurd c h, fun _ => ⟨rfl, ?_⟩⟩
  rw [upd_upd]
  refine k x _ hx (fun b o e => ?_) ⟨dx, upd_same⟩
  rw [upd_ne (ne_of_none e hx), upd_ne (ne_of_none e hdx)]
  exact e
theorem rd_share1 {C CN : Addr} {n : Int} {H : Hp} {Q : VK} {E : XK} (k : ∀ x H', H x = none → Same H H' → ShAt C H' x (Rat.divInt n 1) → Q (.ref x) H') : kMake C (spInit C CN) [.int 1] E Q [.int n] H :=
  rd_share (C := C) (CN := CN) (n := n) (d := 1) (E := E) (by decide) (by have e : Int.natAbs 1 = 1 := rfl; rw [e]; exact Nat.one_lt_two_pow (by decide)) k
theorem rd_top {C a : Addr} {H : Hp} {Q : VK} {q : Rat} {C_NoShare : Addr} (T : TS K mg C C_NoShare) (h : ShAt C H a q) (k : Q (.int q.num) H) : kFld K "top" Q (.ref a) H := by
  obtain ⟨dx, z⟩ := h
  exact rd_kFld z T.cl T.nT (shF_top _ _) k
theorem rd_bot {C a : Addr} {H : Hp} {Q : VK} {q : Rat} {C_NoShare : Addr} (T : TS K mg C C_NoShare) (h : ShAt C H a q) (k : Q (.int (q.den : Int)) H) : kFld K "bottom" Q (.ref a) H := by
  obtain ⟨dx, z⟩ := h
  exact rd_kFld z T.cl T.nB (shF_bot _ _) k
local macro_rules | `(tactic| walk_at "rg") => `(tactic| (first
  | walk_at "rt"
  | ((with_reducible refine' My.rd_top ?ht ?hs ?_); (case ht => assumption); (case hs => assumption))
  | ((with_reducible refine' My.rd_bot ?ht ?hs ?_); (case ht => assumption); (case hs => assumption))
  | ((with_reducible refine My.rd_mul ?hc ?_); (case hc => first | assumption | exact My.mul_b (by assumption) (by assumption) (by decide)))))
local macro_rules | `(tactic| walk_at "rf") => `(tactic| (first | walk_at "rg" | (with_reducible refine My.rd_ifS ?_)))

/-- a new share of two: op of their numbers -/
def spBin (C : Addr) (B : Nat) (op : Rat → Rat → Rat) : Sp := fun vs H Q _ => ∃ (a b : Addr) (q r : Rat), vs = [.ref a, .ref b] ∧ ShAt C H a q ∧ ShAt C H b r ∧ Sz B q ∧ Sz B r ∧ ∀ x H', H x = none → Same H H' → ShAt C H' x (op q r) → Q (.ref x) H'
theorem pw_lt {a b n : Nat} {x y : Int} (hx : x.natAbs < 2 ^ a) (hy : y.natAbs < 2 ^ b) (h : a + b ≤ n) : (x * y).natAbs < 2 ^ n := Nat.lt_of_lt_of_le (wide_lt hx hy) (Nat.pow_le_pow_right (by decide) h)
theorem den_nat {B : Nat} {q : Rat} (h : Sz B q) : ((q.den : Int)).natAbs < 2 ^ B := by rw [Int.natAbs_natCast]; exact h.2
theorem add_lt {a b : Int} {m : Nat} (ha : a.natAbs < 2 ^ m) (hb : b.natAbs < 2 ^ m) : (a + b).natAbs < 2 ^ (m + 1) := by
  rw [Nat.pow_succ]
  omega
theorem sub_lt {a b : Int} {m : Nat} (ha : a.natAbs < 2 ^ m) (hb : b.natAbs < 2 ^ m) : (a - b).natAbs < 2 ^ (m + 1) := by
  rw [Nat.pow_succ]
  omega
/-- _law_is of the right one -/
def spIs (C : Addr) : Sp := fun vs H Q _ => ∃ (a : Addr) (n d : Int), vs = [.ref a, .int n, .int d] ∧ ShAt C H a (Rat.divInt n d) ∧ d ≠ 0 ∧ n.natAbs < 2 ^ 1900 ∧ d.natAbs < 2 ^ 1900 ∧ ∀ H', Same H H' → Q (.bl true) H'
theorem int_short {n : Int} (h : n.natAbs < 2 ^ 1900) : (PyData.shown (.int n)).length ≤ 1901 := by
  have q : n.natAbs.log2 < 1900 := PySem.Flt.log2_lt_of (by decide) h
  have e := int_text_length_le (by decide) q
  rw [PyData.shown]
  exact Nat.le_trans (Nat.le_of_eq (PySem.ofString_length _)) e
theorem int_showable {n : Int} (h : n.natAbs < 2 ^ 1900) : PyData.showable (.int n) = true := by
  have q : n.natAbs.log2 < 1900 := PySem.Flt.log2_lt_of (by decide) h
  simp only [PyData.showable, decide_eq_true_eq]
  omega
/-- the text of a pair of ints -/
def pairText (a b : Int) : Str := PyData.shown (.tuple [.int a, .int b])
theorem rd_repr2 {a b : Int} {t : Addr} {H : Hp} {Q : VK} (h : H t = some (.tup [.int a, .int b])) (ha : a.natAbs < 2 ^ 1900) (hb : b.natAbs < 2 ^ 1900) (q : Q (.str (pairText a b)) H) : rRepr K [.ref t] H Q := by
  refine ⟨t, .tuple [.int a, .int b], rfl, .tup (SqT.of h) (.cons (.int a) (.cons (.int b) .nil)), ?_, ?_, ?_, ?_, q⟩
  · rw [PyData.showable, PyData.showableAll, PyData.showableAll, PyData.showableAll, int_showable ha, int_showable hb]
    rfl
  · simp [PyData.hasDict, PyData.hasDictAll]
  · simp [PyData.depth, PyData.depthAll]
  · have e1 := int_short ha
    have e2 := int_short hb
    have e := tupleText_len_le (PyData.shownAll [.int a, .int b])
    simp only [PyData.shownAll, List.map_cons, List.map_nil, List.sum_cons, List.sum_nil, List.length_cons, List.length_nil] at e
    rw [PyData.shown]
    refine Nat.le_trans (Nat.le_trans e (?_ : _ ≤ 10000)) (by decide)
    omega
abbrev N__law_is : List Str := ["_law_share", "_law_top", "_law_bottom"]
theorem sc__law_is : FnScope ["_law_share", "_law_top", "_law_bottom"] ["_law_share", "_law_top", "_law_bottom"] (defScope s__law_is) := ⟨rfl, rfl, rfl, by decide +kernel, rfl, by decide +kernel, by decide +kernel⟩
theorem ok_is {f C_Share C_NoShare : Addr} {fd : FuncData} (F : Fun K "_law_is" "_law_is" s__law_is f fd) (T : TS K mg C_Share C_NoShare) (d__law_lowest : Df P w K mg base CX0 2 "_law_lowest" ["_law_top", "_law_bottom"] spLowest) :
    FnG P w K mg base CX0 3 f fd ["_law_share", "_law_top", "_law_bottom"] (spIs C_Share) := by
  refine okG F sc__law_is (fun vs H Q E h => ?_) (fun cdv A outer s H vs Q E hg hr h => ?_)
  · obtain ⟨a, n, d, rfl, _⟩ := h
    rfl
  · obtain ⟨a, n, d, rfl, ha, hd, hn1, hd1, k⟩ := h
    refine ⟨_, (pss_cons (ps_if (pt_not (pt_val (pe_callB call_isi (by rfl) T.n_isinstance (by decide +kernel) (pa_cons (pv 0) (pa_cons (pe_glob (v := .ref C_Share) rfl T.g_Share rfl) pa_nil))))) (pss_one (ps_ret pe_bl)) pss_nil)
 (pss_one (ps_ret (pe_cmpR op_eq (pe_callB (cr_repr hr.units hg) (by rfl) T.n_repr (by decide +kernel) (pa_cons (pe_tup (pa_cons (pe_fld (pv 0) rfl) (pa_cons (pe_fld (pv 0) rfl) pa_nil))) pa_nil)) (pe_callB (cr_repr hr.units hg) (by rfl) T.n_repr (by decide +kernel) (pa_cons (pe_df d__law_lowest (hr.mono (by decide)) pass0 (pa_cons (pv 1) (pa_cons (pv 2) pa_nil))) pa_nil)) (nomark _))))), ?_⟩
    repeat walk_at "rf"
    have z := ha
    obtain ⟨dx, hz⟩ := z
    refine rd_isi (ClsV.own _) (.base (.ins hz T.cl T.cc T.cg T.ct T.cm)) (kit_same (beq_self_eq_true _)) ?_
    repeat walk_at "rf"
    refine iteF ?_
    repeat walk_at "rf"
    refine rd_kTup rfl fun t1 ht1 => ?_
    repeat walk_at "rf"
    have b1 : (Rat.divInt n d).num.natAbs < 2 ^ 1900 := Nat.lt_of_le_of_lt (num_le hd) hn1
    have b2 : ((Rat.divInt n d).den : Int).natAbs < 2 ^ 1900 := by rw [Int.natAbs_natCast]; exact Nat.lt_of_le_of_lt (den_le hd) hd1
    refine rd_repr2 upd_same b1 b2 ?_
    repeat walk_at "rf"
    refine ⟨n, d, rfl, hd, hd1, fun t2 H2 ht2 e2 h2 => ?_⟩
    repeat walk_at "rf"
    refine rd_repr2 h2 b1 b2 ?_
    refine rd_eq rfl ?_
    rw [decide_eq_true rfl]
    exact k _ fun b o z => e2 b o (Same.new ht1 b o z)
def spLess (C : Addr) (B : Nat) : Sp := fun vs H Q _ => ∃ (a b : Addr) (q r : Rat), vs = [.ref a, .ref b] ∧ ShAt C H a q ∧ ShAt C H b r ∧ Sz B q ∧ Sz B r ∧ Q (.bl (decide (q < r))) H
abbrev N_less : List Str := ["one", "other"]
theorem sc_less : FnScope ["one", "other"] ["one", "other"] (defScope s_less) := ⟨rfl, rfl, rfl, by decide +kernel, rfl, by decide +kernel, by decide +kernel⟩
theorem ok_less {f C_Share C_NoShare : Addr} {fd : FuncData} (F : Fun K "less" "less" s_less f fd) (T : TS K mg C_Share C_NoShare) : FnOk P w K mg base CX0 1 f fd ["one", "other"] (spLess C_Share 4000) := by
  refine F.ok sc_less (fun vs H Q E h => ?_) (fun cdv A outer s H vs Q E hr h => ?_)
  · obtain ⟨a, b, q, r, rfl, _⟩ := h
    rfl
  · obtain ⟨a, b, q, r, rfl, ha, hb, hq, hr', k⟩ := h
    refine ⟨_, (pss_one (ps_ret (pe_cmpR op_lt (pe_op op_mulA (pe_fld (pv 0) rfl) (pe_fld (pv 1) rfl)) (pe_op op_mulA (pe_fld (pv 1) rfl) (pe_fld (pv 0) rfl)) (nomark _)))), ?_⟩
    have hqn := hq.1
    have hrn := hr'.1
    have hqd := den_nat hq
    have hrd := den_nat hr'
    repeat walk_at "rf"
    have e : decide (q.num * (r.den : Int) < r.num * (q.den : Int)) = decide (q < r) := by rw [decide_eq_decide, Rat.lt_iff]
    rw [e]
    exact k
/-- the shares of a list -/
def ShAll (C : Addr) (H : Hp) (as : List Addr) (qs : List Rat) : Prop := as.length = qs.length ∧ ∀ (i : Nat) (a : Addr) (q : Rat), as[i]? = some a → qs[i]? = some q → ShAt C H a q
theorem ShAll.same {C : Addr} {H H' : Hp} {as : List Addr} {qs : List Rat} (h : ShAll C H as qs) (e : Same H H') : ShAll C H' as qs := ⟨h.1, fun i a q x y => (h.2 i a q x y).same e⟩
theorem sh_at {C : Addr} {H : Hp} {as : List Addr} {qs : List Rat} {i : Nat} {x : V} (h : ShAll C H as qs) (e : (as.map V.ref)[i]? = some x) : ∃ a q, x = .ref a ∧ qs[i]? = some q ∧ ShAt C H a q := by
  rw [List.getElem?_map] at e
  cases ea : as[i]? with
  | none =>
    rw [ea] at e
    cases e
  | some a =>
    rw [ea] at e
    cases e
    have hi := (List.getElem?_eq_some_iff.mp ea).1
    rw [h.1] at hi
    exact ⟨a, qs[i], rfl, List.getElem?_eq_getElem hi, h.2 i a _ ea (List.getElem?_eq_getElem hi)⟩
/-- on_one_bottom -/
def spOne1 (K : PySem.W.Frag) (C : Addr) : Sp := fun vs H Q _ => ∃ (l : Addr) (as : List Addr) (qs : List Rat), vs = [.ref l] ∧ SqL K H l (as.map V.ref) ∧ ShAll C H as qs ∧ as.length ≤ 100000 ∧ (∀ q ∈ qs, Sz 4000 q) ∧ lcmAll qs < 2 ^ 8000 ∧
  ∀ t l' H', H t = none → Same H H' → H' t = some (.tup [.ref l', .int ((lcmAll qs : Nat) : Int)]) → H' l' = some (.lst ((topsOf qs).map V.int)) → Q (.ref t) H'
abbrev N_on_one_bottom : List Str := ["shares", "bottom", "share", "tops"]
theorem sc_on_one_bottom : FnScope ["shares", "bottom", "share", "tops"] ["shares"] (defScope s_on_one_bottom) := ⟨rfl, rfl, rfl, by decide +kernel, rfl, by decide +kernel, by decide +kernel⟩
theorem ok_one1 {f C_Share C_NoShare : Addr} {fd : FuncData} (F : Fun K "on_one_bottom" "on_one_bottom" s_on_one_bottom f fd) (T : TS K mg C_Share C_NoShare) (g_lcm : mg "lcm" = some (.builtin "math.lcm")) : FnOk P w K mg base CX0 1 f fd ["shares"] (spOne1 K C_Share) := by
  refine F.ok sc_on_one_bottom (fun vs H Q E h => ?_) (fun cdv A outer s H vs Q E hr h => ?_)
  · obtain ⟨l, as, qs, rfl, _⟩ := h
    rfl
  · obtain ⟨l, as, qs, rfl, hl, hS, hz, hsz, hlc, k⟩ := h
    refine ⟨_, (pss_cons (ps_set (i := 1) sc_on_one_bottom.nd rfl (Or.inr rfl) pe_int)
 (pss_cons (ps_for PassesOwn.never rfl (pi_list (pv 0)) (pg_name (i := 2) sc_on_one_bottom.nd rfl (Or.inl rfl))
 (pss_one (ps_set (i := 1) sc_on_one_bottom.nd rfl (Or.inr rfl) (pe_callBfun cr_lcm (by rfl) g_lcm (pa_cons (pv 1) (pa_cons (pe_fld (pv 2) rfl) pa_nil))))))
 (pss_cons (ps_setLc (i := 3) (own := [("share", 2)]) (g := gName 2) (tt := tYes) (te := (tOp rMulA (tFld K (tVar 2) "top") (tOp rDivA (tVar 1) (tFld K (tVar 2) "bottom")))) (by rfl) sc_on_one_bottom.nd rfl rfl (sw_true rfl rfl rfl (by decide +kernel)) (pi_list (pv 0)) (blkOk_by (own := [("share", 2)]) (N := N_on_one_bottom) (sc := defScope s_on_one_bottom) (by decide +kernel)) (fun _ _ _ _ _ => (pg_name (i := 2) sc_on_one_bottom.nd rfl (Or.inl rfl))) (fun _ _ _ _ _ => pts_nil) (fun _ _ _ _ _ => (pe_op op_mulA (pe_fld (pv 2) rfl) (pe_op op_fdivA (pv 1) (pe_fld (pv 2) rfl)))))
 (pss_one (ps_ret (pe_tup (pa_cons (pv 3) (pa_cons (pv 1) pa_nil)))))))), ?_⟩
    repeat walk_at "rf"
    have foldt : ∀ {n : Nat} {q : Rat}, qs[n]? = some q → (qs.take (n + 1)).foldl (fun n q => Nat.lcm n q.den) 1 = Nat.lcm ((qs.take n).foldl (fun n q => Nat.lcm n q.den) 1) q.den := fun {n q} h => by
      rw [List.take_add_one, h, Option.toList_some, List.foldl_append]
      rfl
    have le13 : ∀ n, (qs.take n).foldl (fun n q => Nat.lcm n q.den) 1 < 2 ^ 13000 := fun n => Nat.lt_of_le_of_lt (lcm_take qs n) (Nat.lt_trans hlc (Nat.pow_lt_pow_right (by decide) (by decide)))
    refine rd_kFor (xs := as.map V.ref) (fun i σ H' => H' = H ∧ ∃ v3 v4, σ = [some (.ref l), some (.int (((qs.take i).foldl (fun n q => Nat.lcm n q.den) 1 : Nat) : Int)), v3, v4]) hl ⟨rfl, _, _, rfl⟩ (fun i σ H' _ ⟨e, _⟩ => by rw [e]; exact hl) ?_ ?_
    · rintro i x σ H' hx ⟨rfl, v3, v4, rfl⟩
      obtain ⟨a, q, rfl, hq, ha⟩ := sh_at hS hx
      have hd := (hsz q (List.mem_of_getElem? hq)).2
      repeat walk_at "rf"
      refine ⟨_, _, rfl, by rw [Int.natAbs_natCast]; exact le13 i, by rw [Int.natAbs_natCast]; exact Nat.lt_trans hd (Nat.pow_lt_pow_right (by decide) (by decide)), ?_⟩
      repeat walk_at "rf"
      refine ⟨rfl, some (V.ref a), v4, ?_⟩
      rw [foldt hq]
      rfl
    · rintro σ H' ⟨e, v3, v4, rfl⟩
      have e' := e.symm
      subst e'
      rw [List.length_map, hS.1, List.take_length]
      change tSeq _ _ _ [_, some (V.int ((lcmAll qs : Nat) : Int)), _, _] _
      have hb := lcm_pos qs
      repeat walk_at "rf"
      refine rd_kLc (fun i acc D H' => Same H H' ∧ acc = ((topsOf qs).take i).map V.int) hl (fun D hD => ⟨Same.new hD, rfl⟩) (fun i acc D H' ⟨e, _⟩ => e.seq hl) ?_ (g_mono _ _) ?_
      · rintro i x acc D H' hD hi hx hacc hlen ⟨e, ea⟩
        obtain ⟨a, q, rfl, hq, ha⟩ := sh_at hS hx
        have ha := ha.same e
        have zq := hsz q (List.mem_of_getElem? hq)
        have zd := den_nat zq
        have dv : CDivA ((lcmAll qs : Nat) : Int) (q.den : Int) := div_b (b := 4000) (den_ne q) zd (by decide) (by decide)
        repeat walk_at "rf"
        refine ⟨rfl, ?_⟩
        repeat walk_at "rf"
        refine rd_divP (by have := q.den_nz; omega) dv ?_
        have zn := zq.1
        have zb : ((((lcmAll qs : Nat) : Int)) / (q.den : Int)).natAbs < 2 ^ 8000 := by
          rw [← Int.natCast_ediv, Int.natAbs_natCast]
          exact Nat.lt_of_le_of_lt (Nat.div_le_self _ _) hlc
        repeat walk_at "rf"
        refine rd_lcEnd hacc hlen (by rw [List.length_map] at hi; omega) ⟨fun b o z => ?_, ?_⟩
        · rw [upd_ne (ne_of_none z hD)]
          exact e _ _ z
        · have ht : (topsOf qs)[i]? = some (q.num * (((lcmAll qs : Nat) : Int) / (q.den : Int))) := by
            unfold topsOf
            rw [List.getElem?_map, hq]
            rfl
          rw [List.take_add_one, ht, ea, Option.toList_some, List.map_append]
          rfl
      · rintro acc D H' hD hlen hacc ⟨e, ea⟩
        repeat walk_at "rf"
        refine rd_kTup rfl fun t ht => ?_
        have et : (topsOf qs).take (as.map V.ref).length = topsOf qs := List.take_of_length_le (by unfold topsOf; rw [List.length_map, List.length_map, hS.1]; exact Nat.le_refl _)
        rw [et] at ea
        refine k t D _ (e.free ht) (fun b o z => Same.new ht _ _ (e _ _ z)) upd_same (Same.new ht _ _ ?_)
        rw [hacc, ea]
/-- the sum of a list of shares -/
def spSum (K : PySem.W.Frag) (C : Addr) : Sp := fun vs H Q _ => ∃ (l : Addr) (as : List Addr) (qs : List Rat), vs = [.ref l] ∧ SqL K H l (as.map V.ref) ∧ ShAll C H as qs ∧ as.length ≤ 100000 ∧ (∀ q ∈ qs, Sz 4000 q) ∧ lcmAll qs < 2 ^ 8000 ∧
  ∀ x H', H x = none → Same H H' → ShAt C H' x qs.sum → Q (.ref x) H'
abbrev N_sum_of : List Str := ["shares", "tops", "bottom"]
theorem sc_sum_of : FnScope ["shares", "tops", "bottom"] ["shares"] (defScope s_sum_of) := ⟨rfl, rfl, rfl, by decide +kernel, rfl, by decide +kernel, by decide +kernel⟩
theorem ok_sum {f C_Share C_NoShare : Addr} {fd : FuncData} (F : Fun K "sum_of" "sum_of" s_sum_of f fd) (T : TS K mg C_Share C_NoShare) (m_Share : Md P w K mg base (CX P w) 2 C_Share ["self", "top", "bottom"] [.int 1] (spInit C_Share C_NoShare))
    (d_on_one_bottom : Df P w K mg base CX0 1 "on_one_bottom" ["shares"] (spOne1 K C_Share)) : FnOk P w K mg base CX0 4 f fd ["shares"] (spSum K C_Share) := by
  refine F.ok sc_sum_of (fun vs H Q E h => ?_) (fun cdv A outer s H vs Q E hr h => ?_)
  · obtain ⟨l, as, qs, rfl, _⟩ := h
    rfl
  · obtain ⟨l, as, qs, rfl, hl, hS, hz, hsz, hlc, k⟩ := h
    refine ⟨_, (pss_cons (ps_asg (pe_df d_on_one_bottom (hr.mono (by decide)) pass0 (pa_cons (pv 0) pa_nil)) (pg_tup (by rfl) (pgs_cons (pg_name (i := 1) sc_sum_of.nd rfl (Or.inl rfl)) (pgs_cons (pg_name (i := 2) sc_sum_of.nd rfl (Or.inl rfl)) pgs_nil))))
 (pss_one (ps_ret (pe_mkd m_Share (hr.mono (by decide)) T.g_Share passL (pa_cons (pe_callB (cr_sum rfl) (by rfl) T.n_sum (by decide +kernel) (pa_cons (pv 1) pa_nil)) (pa_cons (pv 2) pa_nil)))))), ?_⟩
    repeat walk_at "rf"
    refine ⟨l, as, qs, rfl, hl, hS, hz, hsz, hlc, fun t l' H1 _ e1 ht hl' => ?_⟩
    have st : SqT K H1 t [.ref l', .int ((lcmAll qs : Nat) : Int)] := SqT.of ht
    repeat walk_at "rf"
    refine rd_sum (SqL.of hl') (by unfold topsOf; rw [List.length_map, ← hS.1]; exact hz) ?_
    repeat walk_at "rf"
    refine rd_share (by have := lcm_pos qs; omega) (by rw [Int.natAbs_natCast]; exact Nat.lt_trans hlc (Nat.pow_lt_pow_right (by decide) (by decide))) fun x H2 hx e2 hs => ?_
    rw [tops_sum] at hs
    exact k x H2 (e1.free hx) (fun b o z => e2 b o (e1 b o z)) hs
theorem But.fresh {p T : Addr} {H H' : Hp} {N : Nat} (e : But p H H') (w : WellAt H' p N) (h : H' T = none) : H T = none := by
  cases q : H T with
  | none => rfl
  | some o =>
    rcases Classical.em (T = p) with rfl | n
    · obtain ⟨_, _, _, e, _⟩ := w
      rw [e] at h
      cases h
    · rw [e T o n q] at h
      cases h
/-- the law's list of cells is one of ints -/
theorem cells_int {ns : List Int} {lo hi : Option Int} {x : V} {i : Nat} {m1 m2 : Int} (h : (cutV (ns.map V.int) lo hi ++ [V.int m1, V.int m2])[i]? = some x) : ∃ z, x = V.int z := by
  have m := List.mem_of_getElem? h
  rcases List.mem_append.mp m with m | m
  · have m' := List.mem_of_mem_drop (List.mem_of_mem_take m)
    obtain ⟨z, _, rfl⟩ := List.mem_map.mp m'
    exact ⟨z, rfl⟩
  · simp only [List.mem_cons, List.not_mem_nil, or_false] at m
    rcases m with rfl | rfl <;> exact ⟨_, rfl⟩
def spLaw (K : PySem.W.Frag) : Sp := fun vs H Q _ => ∃ (a : Addr) (ns : List Int), vs = [.ref a] ∧ SqL K H a (ns.map V.int) ∧ ns.length ≤ 63 ∧ ∀ H', Q (.bl true) H'
theorem WellAt.ne_at {H : Hp} {p l : Addr} {N : Nat} {xs : List V} (w : WellAt H p N) (h : H l = some (.lst xs)) (n : xs.length ≠ 3) : l ≠ p := by
  obtain ⟨a, b, c, e, _⟩ := w
  refine ne_of h e fun y => ?_
  injection y with y
  rw [y] at n
  exact n rfl
theorem WellAt.off {H : Hp} {p S : Addr} {N : Nat} {o : HO} (w : WellAt H p N) (n : S ≠ p) : WellAt (upd H S o) p N := by
  obtain ⟨a, b, c, e, r⟩ := w
  exact ⟨a, b, c, by rw [upd_ne n.symm]; exact e, r⟩
theorem ShAt.off {C a S : Addr} {H : Hp} {q : Rat} {xs ys : List V} (h : ShAt C H a q) (hS : H S = some (.lst xs)) : ShAt C (upd H S (.lst ys)) a q := by
  obtain ⟨dx, z⟩ := h
  exact ⟨dx, by rw [upd_ne (ne_of z hS (fun y => nomatch y))]; exact z⟩
theorem WellAt.mono {H : Hp} {p : Addr} {N M : Nat} (w : WellAt H p N) (h : N ≤ M) : WellAt H p M := by
  obtain ⟨a, b, c, e, h1, h2, h3, h4⟩ := w
  exact ⟨a, b, c, e, h1, h2, h3, by omega⟩
abbrev Row := Addr × Int × Int
def rowV (e : Row) : V := .ref e.1
def rowQ (e : Row) : Rat := Rat.divInt e.2.1 e.2.2
/-- at l stands a list of pairs -/
def RowsAt (H : Hp) (l : Addr) (es : List Row) : Prop := H l = some (.lst (es.map rowV)) ∧ ∀ e ∈ es, H e.1 = some (.tup [.int e.2.1, .int e.2.2])
def RowsOk (B : Nat) (es : List Row) : Prop := ∀ e ∈ es, e.2.2 ≠ 0 ∧ e.2.1.natAbs ≤ B ∧ e.2.2.natAbs ≤ B
theorem tup_ne {H : Hp} {p T : Addr} {N : Nat} {xs : List V} (w : WellAt H p N) (h : H T = some (.tup xs)) : T ≠ p := by
  obtain ⟨_, _, _, e, _⟩ := w
  exact ne_of h e (fun y => nomatch y)
theorem RowsAt.same {H H' : Hp} {l : Addr} {es : List Row} (h : RowsAt H l es) (e : Same H H') : RowsAt H' l es := ⟨e _ _ h.1, fun x hx => e _ _ (h.2 x hx)⟩
theorem RowsAt.but {H H' : Hp} {l p : Addr} {N : Nat} {es : List Row} (h : RowsAt H l es) (e : But p H H') (w : WellAt H p N) (n : l ≠ p) : RowsAt H' l es := ⟨e _ _ n h.1, fun x hx => e _ _ (tup_ne w (h.2 x hx)) (h.2 x hx)⟩
theorem RowsOk.mono {B C : Nat} {es : List Row} (h : RowsOk B es) (l : B ≤ C) : RowsOk C es := fun e he => ⟨(h e he).1, Nat.le_trans (h e he).2.1 l, Nat.le_trans (h e he).2.2 l⟩
theorem RowsAt.snoc {H : Hp} {l T : Addr} {t b : Int} {es : List Row} (h : RowsAt H l es) (hT : H T = some (.tup [.int t, .int b])) : RowsAt (upd H l (.lst (es.map rowV ++ [.ref T]))) l (es ++ [(T, t, b)]) := by
  refine ⟨by rw [upd_same, List.map_append]; rfl, fun e he => ?_⟩
  rcases List.mem_append.mp he with he | he
  · rw [upd_ne (ne_of (h.2 e he) h.1 (fun y => nomatch y))]
    exact h.2 e he
  · have q := List.mem_singleton.mp he
    subst q
    rw [upd_ne (ne_of hT h.1 (fun y => nomatch y))]
    exact hT
theorem RowsOk.snoc {B : Nat} {T : Addr} {t b : Int} {es : List Row} (h : RowsOk B es) (hb : b ≠ 0) (h1 : t.natAbs ≤ B) (h2 : b.natAbs ≤ B) : RowsOk B (es ++ [(T, t, b)]) := fun e he => by
  rcases List.mem_append.mp he with he | he
  · exact h e he
  · have q := List.mem_singleton.mp he
    subst q
    exact ⟨hb, h1, h2⟩
def spRows : Sp := fun vs H Q _ => ∃ p, vs = [.ref p] ∧ WellAt H p 0 ∧ ∀ l es H', l ≠ p → But p H H' → WellAt H' p 200 → RowsAt H' l es → es.length ≤ 12 → RowsOk (10 ^ 28 + 12) es → Q (.ref l) H'
abbrev N__law_rows : List Str := ["_law_well_here", "_law_rows_here", "_law_k", "_law_row", "_law_a", "_law_b"]
theorem sc__law_rows : FnScope ["_law_well_here", "_law_rows_here", "_law_k", "_law_row", "_law_a", "_law_b"] ["_law_well_here"] (defScope s__law_rows) := ⟨rfl, rfl, rfl, by decide +kernel, rfl, by decide +kernel, by decide +kernel⟩
theorem ok_rows {f : Addr} {fd : FuncData} (F : Fun K "_law_rows" "_law_rows" s__law_rows f fd) (T : Tx K mg) (d__law_draw : Df P w K mg base CX0 1 "_law_draw" ["_law_well_here", "_law_many"] spDraw)
    (d__law_one : Df P w K mg base CX0 2 "_law_one" ["_law_well_here", "_law_some"] (spOne K)) (d__law_fraction : Df P w K mg base CX0 4 "_law_fraction" ["_law_well_here"] spFraction) : FnOk P w K mg base CX0 5 f fd ["_law_well_here"] spRows := by
  refine F.ok sc__law_rows (fun vs H Q E h => ?_) (fun cdv A outer s H vs Q E hr h => ?_)
  · obtain ⟨p, rfl, _⟩ := h
    rfl
  · obtain ⟨p, rfl, hw, k⟩ := h
    refine ⟨_, (pss_cons (ps_set (i := 1) sc__law_rows.nd rfl (Or.inl rfl) (pe_lst pa_nil))
 (pss_cons (ps_for PassesOwn.never rfl (pi_range1 (by rfl) T.n_range (pa_cons (pe_df d__law_draw (hr.mono (by decide)) pass0 (pa_cons (pv 0) (pa_cons pe_int pa_nil))) pa_nil)) (pg_name (i := 2) sc__law_rows.nd rfl (Or.inl rfl))
 (pss_cons (ps_set (i := 3) sc__law_rows.nd rfl (Or.inl rfl) (pe_df d__law_fraction (hr.mono (by decide)) pass0 (pa_cons (pv 0) pa_nil)))
 (pss_cons (ps_if (PW.pt (pw_and (pt_cmpR (op_neL hr.units0) (pv 1) (pe_lst pa_nil) (nomark _)) (pw_and1 (pt_cmpR op_eq (pe_df d__law_draw (hr.mono (by decide)) pass0 (pa_cons (pv 0) (pa_cons pe_int pa_nil))) pe_int (nomark _))))) (pss_cons (ps_asg (pe_df d__law_one (hr.mono (by decide)) pass0 (pa_cons (pv 0) (pa_cons (pv 1) pa_nil))) (pg_tup (by rfl) (pgs_cons (pg_name (i := 4) sc__law_rows.nd rfl (Or.inl rfl)) (pgs_cons (pg_name (i := 5) sc__law_rows.nd rfl (Or.inl rfl)) pgs_nil))))
 (pss_one (ps_set (i := 3) sc__law_rows.nd rfl (Or.inl rfl) (pe_df d__law_one (hr.mono (by decide)) pass0 (pa_cons (pv 0) (pa_cons (pe_lst (pa_cons (pe_tup (pa_cons (pv 4) (pa_cons (pv 5) pa_nil))) (pa_cons (pe_tup (pa_cons (pe_op op_add (pv 4) pe_int) (pa_cons (pv 5) pa_nil))) (pa_cons (pe_tup (pa_cons (pe_op op_sub pe_int (pv 4)) (pa_cons (pv 5) pa_nil))) (pa_cons (pe_tup (pa_cons (pv 4) (pa_cons (pe_op op_sub pe_int (pv 5)) pa_nil))) pa_nil))))) pa_nil)))))) pss_nil)
 (pss_one (ps_expr (pe_bm PySem.F.plainAttrs_list PySem.F.slot_list_append PySem.F.type_list_append mt_append (pv 1) (pa_cons (pv 3) pa_nil)))))))
 (pss_one (ps_ret (pv 1))))), ?_⟩
    repeat walk_at "rt"
    refine rd_kLst rfl fun l hl => ?_
    have nlp : l ≠ p := hw.ne_new hl
    repeat walk_at "rt"
    refine ⟨p, 13, 0, rfl, hw.same (Same.new hl), by decide, by decide, by decide, fun r H1 r0 r1 e1 w1 => ?_⟩
    repeat walk_at "rt"
    refine rd_kRng1 (by omega) (by omega) (fun i σ H2 => ∃ v2 v3 v4 v5 es N, σ = [some (.ref p), some (.ref l), v2, v3, v4, v5] ∧ But p H H2 ∧ WellAt H2 p N ∧ N ≤ 1 + 10 * i ∧ RowsAt H2 l es ∧ es.length = i ∧ RowsOk (10 ^ 28 + i) es)
      ⟨_, _, _, _, [], 1, rfl, (sbut (Same.new hl)).trans e1, w1, by decide, ⟨e1 _ _ nlp upd_same, fun e h => nomatch h⟩, rfl, fun e h => nomatch h⟩ ?_ ?_
    · rintro i σ H2 hi ⟨u2, u3, u4, u5, es, N, rfl, b2, w2, hN, hR, hlen, hok⟩
      have hi' : i < 12 := by omega
      repeat walk_at "rt"
      refine ⟨p, N, rfl, w2, by omega, fun T0 t0 b0 H3 hT0 nT0 lt0 lb0 nb0 e3 h3 w3 => ?_⟩
      have hR3 := hR.but e3 w2 nlp
      repeat walk_at "rt"
      refine rd_if2 (fun σ' H' => ∃ v4 v5 T t b N', σ' = [some (.ref p), some (.ref l), some (.int (0 + (i : Int))), some (.ref T), v4, v5] ∧ But p H H' ∧ WellAt H' p N' ∧ N' ≤ N + 10 ∧ RowsAt H' l es ∧ H' T = some (.tup [.int t, .int b]) ∧ b ≠ 0 ∧ t.natAbs ≤ 10 ^ 28 + (i + 1) ∧ b.natAbs ≤ 10 ^ 28 + (i + 1)) ?_ fun rest => ?_
      · rintro σ' H' ⟨v4, v5, T, t, b, N', rfl, b', w', hN', hR', hT', nb', lt', lb'⟩
        have hl' := hR'.1
        repeat walk_at "rt"
        refine rd_kApp hl' (by rw [List.length_map]; omega) ?_
        refine ⟨_, _, _, _, es ++ [(T, t, b)], N', rfl, ?_, w'.off nlp, by omega, hR'.snoc hT', by rw [List.length_append, hlen]; rfl, (hok.mono (by omega)).snoc nb' lt' lb'⟩
        intro x o nx hx
        rw [upd_ne (ne_of_none hx hl)]
        exact b' x o nx hx
      · have stop : ∀ v4 v5 H' N', But p H3 H' → WellAt H' p N' → N' ≤ N + 10 → _ := fun v4 v5 H' N' e w n => rest [some (.ref p), some (.ref l), some (.int (0 + (i : Int))), some (.ref T0), v4, v5] H' ⟨v4, v5, T0, t0, b0, N', rfl, (b2.trans e3).trans e, w, n, hR3.but e w3 nlp, e _ _ nT0 h3, nb0, by omega, by omega⟩
        repeat walk_at "rt"
        refine rd_kLst rfl fun m hm => ?_
        have w4 := w3.same (Same.new (o := .lst []) hm)
        have hR4 := hR3.same (Same.new (o := .lst []) hm)
        by_cases he : es = []
        · refine ⟨l, m, [], [], rfl, rfl, SqL.of (by rw [hR4.1, he]; rfl), SqL.of upd_same, .inl ⟨rfl, (fun x h => nomatch h), ?_⟩⟩
          repeat walk_at "rt"
          refine iteF ?_
          repeat walk_at "rt"
          refine iteF ?_
          exact stop _ _ _ _ (sbut (Same.new hm)) w4 (by omega)
        · refine ⟨l, m, es.map rowV, [], rfl, rfl, SqL.of hR4.1, SqL.of upd_same, .inr ⟨by rw [List.length_map]; exact fun z => he (List.length_eq_zero_iff.mp z), ?_⟩⟩
          have hpos : 0 < es.length := Nat.pos_of_ne_zero fun z => he (List.length_eq_zero_iff.mp z)
          repeat walk_at "rt"
          refine iteT ?_
          repeat walk_at "rt"
          refine ⟨p, 4, _, rfl, w4, by omega, by decide, by decide, fun z H5 z0 z1 e5 w5 => ?_⟩
          have e45 : But p H3 H5 := (sbut (Same.new hm)).trans e5
          have hR5 := hR3.but e45 w3 nlp
          repeat walk_at "rt"
          refine ite_d (fun cz => ?_) (fun cz => ?_)
          · repeat walk_at "rt"
            refine ⟨p, l, es.map rowV, _, rfl, w5, by omega, SqL.of hR5.1, nlp, by rw [List.length_map]; exact hpos, by rw [List.length_map]; omega, fun v H6 hv e6 w6 => ?_⟩
            obtain ⟨⟨a, x, y⟩, hea, rfl⟩ := List.mem_map.mp hv
            have hR6 := hR5.but e6 w5 nlp
            obtain ⟨ny, lx, ly⟩ : y ≠ 0 ∧ x.natAbs ≤ 10 ^ 28 + i ∧ y.natAbs ≤ 10 ^ 28 + i := hok _ hea
            have sx : SqT K H6 a [.int x, .int y] := SqT.of (hR6.2 _ hea)
            have e36 : But p H3 H6 := e45.trans e6
            change gTup K 2 _ (V.ref a) _ _ _
            repeat walk_at "rt"
            refine rd_kTup rfl fun t1 ht1 => ?_
            repeat walk_at "rt"
            refine rd_kTup rfl fun t2 ht2 => ?_
            repeat walk_at "rt"
            refine rd_kTup rfl fun t3 ht3 => ?_
            repeat walk_at "rt"
            refine rd_kTup rfl fun t4 ht4 => ?_
            repeat walk_at "rt"
            refine rd_kLst rfl fun l2 hl2 => ?_
            have s1 := Same.new (o := .tup [.int x, .int y]) ht1
            have s2 := Same.new (o := .tup [.int (x + 1), .int y]) ht2
            have s3 := Same.new (o := .tup [.int (0 - x), .int y]) ht3
            have s4 := Same.new (o := .tup [.int x, .int (0 - y)]) ht4
            have s5 := Same.new (o := .lst [.ref t1, .ref t2, .ref t3, .ref t4]) hl2
            have s6 : Same H6 _ := fun c o q => s5 c o (s4 c o (s3 c o (s2 c o (s1 c o q))))
            have w7 := w6.same s6
            have g1 := s5 _ _ (s4 _ _ (s3 _ _ (s2 _ _ (upd_same (H := H6) (a := t1) (o := .tup [.int x, .int y])))))
            have g2 := s5 _ _ (s4 _ _ (s3 _ _ (upd_same (a := t2) (o := .tup [.int (x + 1), .int y]))))
            have g3 := s5 _ _ (s4 _ _ (upd_same (a := t3) (o := .tup [.int (0 - x), .int y])))
            have g4 := s5 _ _ (upd_same (a := t4) (o := .tup [.int x, .int (0 - y)]))
            repeat walk_at "rt"
            refine ⟨p, l2, _, _, rfl, w7, by omega, SqL.of upd_same, w7.ne_at upd_same (by show (4 : Nat) ≠ 3; decide), Nat.le_of_ble_eq_true rfl, Nat.le_of_ble_eq_true rfl, fun v H8 hv e8 w8 => ?_⟩
            have e38 : But p H3 H8 := (e36.trans (sbut s6)).trans e8
            have fin : ∀ T t b, v = .ref T → H8 T = some (.tup [.int t, .int b]) → b ≠ 0 → t.natAbs ≤ 10 ^ 28 + (i + 1) → b.natAbs ≤ 10 ^ 28 + (i + 1) → _ := fun T t b ev hT' nb' lt' lb' =>
              rest [some (.ref p), some (.ref l), some (.int (0 + (i : Int))), some (.ref T), some (.int x), some (.int y)] H8 ⟨_, _, T, t, b, _, rfl, (b2.trans e3).trans e38, w8, by omega, hR3.but e38 w3 nlp, hT', nb', lt', lb'⟩
            simp only [List.mem_cons, List.not_mem_nil, or_false] at hv
            rcases hv with rfl | rfl | rfl | rfl
            · exact fin _ _ _ rfl (e8 _ _ (tup_ne w7 g1) g1) ny (by omega) (by omega)
            · exact fin _ _ _ rfl (e8 _ _ (tup_ne w7 g2) g2) ny (by omega) (by omega)
            · exact fin _ _ _ rfl (e8 _ _ (tup_ne w7 g3) g3) ny (by omega) (by omega)
            · exact fin _ _ _ rfl (e8 _ _ (tup_ne w7 g4) g4) (by omega) (by omega) (by omega)
          · exact stop _ _ _ _ e45 w5 (by omega)
    · rintro σ H2 ⟨u2, u3, u4, u5, es, N, rfl, b2, w2, hN, hR, hlen, hok⟩
      repeat walk_at "rt"
      exact k l es H2 nlp b2 (w2.mono (by omega)) hR (by omega) (hok.mono (by omega))
theorem ShAll.snoc {C : Addr} {H : Hp} {as : List Addr} {qs : List Rat} {a : Addr} {q : Rat} (h : ShAll C H as qs) (g : ShAt C H a q) : ShAll C H (as ++ [a]) (qs ++ [q]) := by
  refine ⟨by rw [List.length_append, List.length_append, h.1]; rfl, fun i x y h1 h2 => ?_⟩
  have l := h.1
  by_cases hi : i < as.length
  · rw [List.getElem?_append_left hi] at h1
    rw [List.getElem?_append_left (by omega)] at h2
    exact h.2 i x y h1 h2
  · rw [List.getElem?_append_right (by omega)] at h1
    rw [List.getElem?_append_right (by omega)] at h2
    have e : i - as.length = 0 := by
      have := (List.getElem?_eq_some_iff.mp h1).1
      simp at this
      omega
    rw [e] at h1
    rw [show i - qs.length = 0 by omega] at h2
    simp at h1 h2
    subst h1
    subst h2
    exact g
theorem ShAll.off {C S : Addr} {H : Hp} {as : List Addr} {qs : List Rat} {xs ys : List V} (h : ShAll C H as qs) (hS : H S = some (.lst xs)) : ShAll C (upd H S (.lst ys)) as qs := ⟨h.1, fun i a q x y => (h.2 i a q x y).off hS⟩
theorem ShAll.nil {C : Addr} {H : Hp} : ShAll C H [] [] := ⟨rfl, fun i a q h => by simp at h⟩
/-- [Share(a, b) for a, b in rows] -/
theorem rd_kLcSh {vs : List Nat} {i j B : Nat} {σ : L2.St} {H : Hp} {l C CN : Addr} {es : List Row} {Q : VK} (hR : RowsAt H l es) (hok : RowsOk B es) (hB : B < 2 ^ 8999) (hz : es.length ≤ 100000)
    (hw : ∀ x y : V, wipe (((wipe σ vs).set i (some x)).set j (some y)) vs = wipe σ vs) (hi : ∀ x y : V, (((wipe σ vs).set i (some x)).set j (some y))[i]? = some (some x)) (hj : ∀ x y : V, (((wipe σ vs).set i (some x)).set j (some y))[j]? = some (some y))
    (k : ∀ D as H', H D = none → Same H H' → H' D = some (.lst (as.map V.ref)) → ShAll C H' as (es.map rowQ) → Q (.ref D) H') :
    kLc K (gTup K 2 (gCons (gName i) (gCons (gName j) gNil))) (tMake C (spInit C CN) [] E0 (tCons (tVar i) (tCons (tVar j) tNil))) vs σ Q (.ref l) H := by
  refine rd_kLc (fun n acc D H' => Same H H' ∧ ∃ as : List Addr, acc = as.map V.ref ∧ ShAll C H' as ((es.take n).map rowQ)) (SqL.of hR.1) (fun D hD => ⟨Same.new hD, [], rfl, ShAll.nil⟩) (fun n acc D H' ⟨e, _⟩ => SqL.of (e _ _ hR.1)) ?_ (g_mono2 _ _ _) ?_
  · rintro n x acc D H' hD hn hx hacc hlen ⟨e, as, rfl, hS⟩
    rw [List.getElem?_map] at hx
    obtain ⟨r, hr, rfl⟩ : ∃ r, es[n]? = some r ∧ rowV r = x := by
      cases q : es[n]? with
      | none =>
        rw [q] at hx
        cases hx
      | some r =>
        rw [q] at hx
        exact ⟨r, rfl, Option.some.inj hx⟩
    have hm := List.mem_of_getElem? hr
    obtain ⟨nb, _, lb⟩ := hok _ hm
    refine ⟨r.1, _, rfl, SqT.of (e _ _ (hR.2 _ hm)), rfl, _, _, rfl, _, _, rfl, rfl, hw _ _, ?_⟩
    refine rd_make (rd_cons (rd_var (hi _ _) (rd_cons (rd_var (hj _ _) (rd_nil ?_)))))
    refine rd_share nb (Nat.lt_of_le_of_lt lb hB) fun z H2 hz2 e2 hs => ?_
    refine rd_lcEnd (e2 _ _ hacc) hlen (by rw [List.length_map] at hn; omega) ⟨fun b o q => ?_, as ++ [z], by rw [List.map_append]; rfl, ?_⟩
    · rw [upd_ne (ne_of_none q hD)]
      exact e2 _ _ (e _ _ q)
    · rw [List.take_add_one, hr, Option.toList_some, List.map_append]
      exact ((hS.same e2).snoc hs).off (e2 _ _ hacc)
  · rintro acc D H' hD hlen hacc ⟨e, as, rfl, hS⟩
    rw [List.length_map, List.take_length] at hS
    exact k D as H' hD e hacc hS
/-- the sum of pairs, over the product of their bottoms -/
def sumP (p : Int × Int) (es : List Row) : Int × Int := es.foldl (fun p e => (p.1 * e.2.2 + e.2.1 * p.2, p.2 * e.2.2)) p
theorem sumP_ne : ∀ (es : List Row) (p : Int × Int), p.2 ≠ 0 → (∀ e ∈ es, e.2.2 ≠ 0) → (sumP p es).2 ≠ 0
  | [], p, h, _ => h
  | e :: r, p, h, g => sumP_ne r _ (Int.mul_ne_zero h (g e (List.mem_cons_self ..))) fun x hx => g x (List.mem_cons_of_mem _ hx)
theorem sumP_q : ∀ (es : List Row) (p : Int × Int), p.2 ≠ 0 → (∀ e ∈ es, e.2.2 ≠ 0) → Rat.divInt (sumP p es).1 (sumP p es).2 = Rat.divInt p.1 p.2 + (es.map rowQ).sum
  | [], p, h, _ => by
    rw [List.map_nil, List.sum_nil, Rat.add_zero]
    rfl
  | e :: r, p, h, g => by
    have he := g e (List.mem_cons_self ..)
    have z := sumP_q r (p.1 * e.2.2 + e.2.1 * p.2, p.2 * e.2.2) (Int.mul_ne_zero h he) fun x hx => g x (List.mem_cons_of_mem _ hx)
    rw [List.map_cons, List.sum_cons]
    refine z.trans ?_
    rw [← Rat.divInt_add_divInt _ _ h he, Rat.add_assoc]
    rfl
theorem sumP_lt : ∀ (es : List Row) (p : Int × Int) (m : Nat), p.1.natAbs < 2 ^ m → p.2.natAbs < 2 ^ m → (∀ e ∈ es, e.2.1.natAbs < 2 ^ 94 ∧ e.2.2.natAbs < 2 ^ 94) → (sumP p es).1.natAbs < 2 ^ (m + 95 * es.length) ∧ (sumP p es).2.natAbs < 2 ^ (m + 95 * es.length)
  | [], p, m, h1, h2, _ => ⟨h1, h2⟩
  | e :: r, p, m, h1, h2, g => by
    obtain ⟨e1, e2⟩ := g e (List.mem_cons_self ..)
    have q := sumP_lt r (p.1 * e.2.2 + e.2.1 * p.2, p.2 * e.2.2) (m + 95) (add_lt (pw_lt h1 e2 (Nat.le_refl _)) (pw_lt e1 h2 (by omega))) (pw_lt h2 e2 (by omega)) fun x hx => g x (List.mem_cons_of_mem _ hx)
    rw [List.length_cons, show m + 95 * (r.length + 1) = m + 95 + 95 * r.length by omega]
    exact q
def spLSum : Sp := fun vs H Q _ => ∃ (l : Addr) (es : List Row), vs = [.ref l] ∧ RowsAt H l es ∧ es.length ≤ 12 ∧ RowsOk (10 ^ 28 + 12) es ∧
  ∀ T n d H', H T = none → Same H H' → H' T = some (.tup [.int n, .int d]) → d ≠ 0 → n.natAbs < 2 ^ 1900 → d.natAbs < 2 ^ 1900 → Rat.divInt n d = (es.map rowQ).sum → Q (.ref T) H'
theorem row_at {es : List Row} {i : Nat} {x : V} (h : (es.map rowV)[i]? = some x) : ∃ r, es[i]? = some r ∧ x = .ref r.1 := by
  rw [List.getElem?_map] at h
  cases q : es[i]? with
  | none =>
    rw [q] at h
    cases h
  | some r =>
    rw [q] at h
    exact ⟨r, rfl, (Option.some.inj h).symm⟩
theorem take_mem {α : Type} {l : List α} {n : Nat} {x : α} (h : x ∈ l.take n) : x ∈ l := List.mem_of_mem_take h
abbrev N__law_sum : List Str := ["_law_rows_here", "_law_top", "_law_bottom", "_law_a", "_law_b"]
theorem sc__law_sum : FnScope ["_law_rows_here", "_law_top", "_law_bottom", "_law_a", "_law_b"] ["_law_rows_here"] (defScope s__law_sum) := ⟨rfl, rfl, rfl, by decide +kernel, rfl, by decide +kernel, by decide +kernel⟩
theorem ok_lsum {f : Addr} {fd : FuncData} (F : Fun K "_law_sum" "_law_sum" s__law_sum f fd) (T : Tx K mg) : FnOk P w K mg base CX0 1 f fd ["_law_rows_here"] spLSum := by
  refine F.ok sc__law_sum (fun vs H Q E h => ?_) (fun cdv A outer s H vs Q E hr h => ?_)
  · obtain ⟨l, es, rfl, _⟩ := h
    rfl
  · obtain ⟨l, es, rfl, hR, hlen, hok, k⟩ := h
    refine ⟨_, (pss_cons (ps_asg (pe_tup (pa_cons pe_int (pa_cons pe_int pa_nil))) (pg_tup (by rfl) (pgs_cons (pg_name (i := 1) sc__law_sum.nd rfl (Or.inl rfl)) (pgs_cons (pg_name (i := 2) sc__law_sum.nd rfl (Or.inl rfl)) pgs_nil))))
 (pss_cons (ps_for PassesOwn.never rfl (pi_list (pv 0)) (pg_tup (by rfl) (pgs_cons (pg_name (i := 3) sc__law_sum.nd rfl (Or.inl rfl)) (pgs_cons (pg_name (i := 4) sc__law_sum.nd rfl (Or.inl rfl)) pgs_nil)))
 (pss_one (ps_par (i := 1) (j := 2) (by rfl) sc__law_sum.nd rfl rfl (by decide) rfl rfl (pa_cons (pe_op op_add (pe_op op_mulA (pv 1) (pv 4)) (pe_op op_mulA (pv 3) (pv 2))) (pa_cons (pe_op op_mulA (pv 2) (pv 4)) pa_nil)) (by rfl))))
 (pss_one (ps_ret (pe_tup (pa_cons (pv 1) (pa_cons (pv 2) pa_nil))))))), ?_⟩
    have small : ∀ e ∈ es, e.2.1.natAbs < 2 ^ 94 ∧ e.2.2.natAbs < 2 ^ 94 := fun e he => ⟨Nat.lt_of_le_of_lt (hok e he).2.1 (by decide), Nat.lt_of_le_of_lt (hok e he).2.2 (by decide)⟩
    have ne : ∀ e ∈ es, e.2.2 ≠ 0 := fun e he => (hok e he).1
    have lt : ∀ n, (sumP (0, 1) (es.take n)).1.natAbs < 2 ^ 1141 ∧ (sumP (0, 1) (es.take n)).2.natAbs < 2 ^ 1141 := fun n => by
      obtain ⟨a, b⟩ := sumP_lt (es.take n) (0, 1) 1 (by decide) (by decide) fun e he => small e (take_mem he)
      have l : (es.take n).length ≤ 12 := Nat.le_trans (List.length_take_le' _ _) hlen
      exact ⟨Nat.lt_of_lt_of_le a (Nat.pow_le_pow_right (by decide) (by omega)), Nat.lt_of_lt_of_le b (Nat.pow_le_pow_right (by decide) (by omega))⟩
    repeat walk_at "rt"
    refine rd_kTup rfl fun t0 ht0 => ?_
    have st0 := SqT.of (K := K) (upd_same (H := H) (a := t0) (o := .tup [.int 0, .int 1]))
    have hR := hR.same (Same.new (o := .tup [.int 0, .int 1]) ht0)
    replace k := fun T n d H' (a : upd H t0 (.tup [.int 0, .int 1]) T = none) (b : Same (upd H t0 (.tup [.int 0, .int 1])) H') => k T n d H' ((Same.new (o := .tup [.int 0, .int 1]) ht0).free a) (fun x o q => b x o (Same.new (o := .tup [.int 0, .int 1]) ht0 x o q))
    generalize upd H t0 (.tup [.int 0, .int 1]) = H at *
    repeat walk_at "rt"
    refine rd_kFor (xs := es.map rowV) (fun i σ H' => H' = H ∧ ∃ v3 v4, σ = [some (.ref l), some (.int (sumP (0, 1) (es.take i)).1), some (.int (sumP (0, 1) (es.take i)).2), v3, v4]) (SqL.of hR.1) ⟨rfl, _, _, rfl⟩ (fun i σ H' _ ⟨e, _⟩ => by rw [e]; exact SqL.of hR.1) ?_ ?_
    · rintro i x σ H' hx ⟨rfl, v3, v4, rfl⟩
      obtain ⟨⟨t, a, b⟩, hr, rfl⟩ := row_at hx
      have hm := List.mem_of_getElem? hr
      have st : SqT K H' t [.int a, .int b] := SqT.of (hR.2 _ hm)
      obtain ⟨la, lb⟩ : a.natAbs < 2 ^ 94 ∧ b.natAbs < 2 ^ 94 := small _ hm
      obtain ⟨l1, l2⟩ := lt i
      change gTup K 2 _ (V.ref t) _ _ _
      repeat walk_at "rg"
      refine ⟨rfl, some (.int a), some (.int b), ?_⟩
      have step : sumP (0, 1) (es.take (i + 1)) = ((sumP (0, 1) (es.take i)).1 * b + a * (sumP (0, 1) (es.take i)).2, (sumP (0, 1) (es.take i)).2 * b) := by
        rw [List.take_add_one, hr, Option.toList_some]
        unfold sumP
        rw [List.foldl_append]
        rfl
      rw [step]
      rfl
    · rintro σ H' ⟨e, v3, v4, rfl⟩
      subst e
      rw [List.length_map, List.take_length]
      obtain ⟨l1, l2⟩ := lt es.length
      rw [List.take_length] at l1 l2
      repeat walk_at "rg"
      refine rd_kTup rfl fun T hT => ?_
      have z := sumP_q es (0, 1) (by decide) ne
      rw [show Rat.divInt (0, (1 : Int)).1 (0, (1 : Int)).2 = 0 by decide +kernel, Rat.zero_add] at z
      exact k T _ _ _ hT (Same.new hT) upd_same (sumP_ne es (0, 1) (by decide) ne) (Nat.lt_trans l1 (Nat.pow_lt_pow_right (by decide) (by decide))) (Nat.lt_trans l2 (Nat.pow_lt_pow_right (by decide) (by decide))) z
def spIsLess : Sp := fun vs H Q _ => ∃ (t u : Addr) (a b c d : Int), vs = [.ref t, .ref u] ∧ H t = some (.tup [.int a, .int b]) ∧ H u = some (.tup [.int c, .int d]) ∧ b ≠ 0 ∧ d ≠ 0 ∧ a.natAbs < 2 ^ 1900 ∧ b.natAbs < 2 ^ 1900 ∧ c.natAbs < 2 ^ 1900 ∧ d.natAbs < 2 ^ 1900 ∧
  ∀ H', Same H H' → Q (.bl (decide (Rat.divInt a b < Rat.divInt c d))) H'
abbrev N__law_is_less : List Str := ["_law_first", "_law_second", "_law_a", "_law_b", "_law_c", "_law_d"]
theorem sc__law_is_less : FnScope ["_law_first", "_law_second", "_law_a", "_law_b", "_law_c", "_law_d"] ["_law_first", "_law_second"] (defScope s__law_is_less) := ⟨rfl, rfl, rfl, by decide +kernel, rfl, by decide +kernel, by decide +kernel⟩
theorem ok_isless {f : Addr} {fd : FuncData} (F : Fun K "_law_is_less" "_law_is_less" s__law_is_less f fd) (T : Tx K mg) (d__law_lowest : Df P w K mg base CX0 2 "_law_lowest" ["_law_top", "_law_bottom"] spLowest) : FnOk P w K mg base CX0 3 f fd ["_law_first", "_law_second"] spIsLess := by
  refine F.ok sc__law_is_less (fun vs H Q E h => ?_) (fun cdv A outer s H vs Q E hr h => ?_)
  · obtain ⟨t, u, a, b, c, d, rfl, _⟩ := h
    rfl
  · obtain ⟨t, u, a, b, c, d, rfl, ht, hu, nb, nd, la, lb, lc, ld, k⟩ := h
    refine ⟨_, (pss_cons (ps_asg (pe_df d__law_lowest (hr.mono (by decide)) pass0 (pa_cons (pe_ix ix_tup (pv 0) pe_int (fun _ _ => rfl)) (pa_cons (pe_ix ix_tup (pv 0) pe_int (fun _ _ => rfl)) pa_nil))) (pg_tup (by rfl) (pgs_cons (pg_name (i := 2) sc__law_is_less.nd rfl (Or.inl rfl)) (pgs_cons (pg_name (i := 3) sc__law_is_less.nd rfl (Or.inl rfl)) pgs_nil))))
 (pss_cons (ps_asg (pe_df d__law_lowest (hr.mono (by decide)) pass0 (pa_cons (pe_ix ix_tup (pv 1) pe_int (fun _ _ => rfl)) (pa_cons (pe_ix ix_tup (pv 1) pe_int (fun _ _ => rfl)) pa_nil))) (pg_tup (by rfl) (pgs_cons (pg_name (i := 4) sc__law_is_less.nd rfl (Or.inl rfl)) (pgs_cons (pg_name (i := 5) sc__law_is_less.nd rfl (Or.inl rfl)) pgs_nil))))
 (pss_one (ps_ret (pe_cmpR op_lt (pe_op op_mulA (pv 2) (pv 5)) (pe_op op_mulA (pv 4) (pv 3)) (nomark _)))))), ?_⟩
    have st : SqT K H t [.int a, .int b] := SqT.of ht
    repeat walk_at "rg"
    refine ⟨a, b, rfl, nb, lb, fun T1 H1 hT1 e1 h1 => ?_⟩
    have s1 : SqT K H1 T1 [.int (Rat.divInt a b).num, .int ((Rat.divInt a b).den : Int)] := SqT.of h1
    have su : SqT K H1 u [.int c, .int d] := SqT.of (e1 _ _ hu)
    repeat walk_at "rg"
    refine ⟨c, d, rfl, nd, ld, fun T2 H2 hT2 e2 h2 => ?_⟩
    have s2 : SqT K H2 T2 [.int (Rat.divInt c d).num, .int ((Rat.divInt c d).den : Int)] := SqT.of h2
    have q1 := Sz.of nb la lb
    have q2 := Sz.of nd lc ld
    have a1 := q1.1
    have a2 := q2.1
    have d1 := den_nat q1
    have d2 := den_nat q2
    repeat walk_at "rg"
    have e : decide ((Rat.divInt a b).num * ((Rat.divInt c d).den : Int) < (Rat.divInt c d).num * ((Rat.divInt a b).den : Int)) = decide (Rat.divInt a b < Rat.divInt c d) := by rw [decide_eq_decide, Rat.lt_iff]
    rw [e]
    exact k _ fun b o q => e2 _ _ (e1 _ _ q)
theorem lcm_lt2 {a b m k : Nat} (ha : a < 2 ^ m) (hb : b < 2 ^ k) : Nat.lcm a b < 2 ^ (m + k) := by
  rcases Nat.eq_zero_or_pos a with z | z
  · subst z
    rw [Nat.lcm_zero_left]
    exact Nat.two_pow_pos _
  · rcases Nat.eq_zero_or_pos b with y | y
    · subst y
      rw [Nat.lcm_zero_right]
      exact Nat.two_pow_pos _
    · have q := Nat.lcm_le_mul z y
      rw [Nat.pow_add]
      exact Nat.lt_of_le_of_lt q (Nat.mul_lt_mul'' ha hb)
theorem lcm_lt' {B : Nat} : ∀ (qs : List Rat) (n m : Nat), n < 2 ^ m → (∀ q ∈ qs, q.den < 2 ^ B) → qs.foldl (fun n q => Nat.lcm n q.den) n < 2 ^ (m + B * qs.length)
  | [], n, m, h, _ => h
  | q :: r, n, m, h, g => by
    rw [List.length_cons, show m + B * (r.length + 1) = m + B + B * r.length by rw [Nat.mul_succ]; omega]
    exact lcm_lt' r _ (m + B) (lcm_lt2 h (g q (List.mem_cons_self ..))) fun x hx => g x (List.mem_cons_of_mem _ hx)
theorem lcmAll_lt {B n : Nat} {qs : List Rat} (h : ∀ q ∈ qs, q.den < 2 ^ B) (l : qs.length ≤ n) : lcmAll qs < 2 ^ (1 + B * n) :=
  Nat.lt_of_lt_of_le (lcm_lt' qs 1 1 (by decide) h) (Nat.pow_le_pow_right (by decide) (Nat.add_le_add_left (Nat.mul_le_mul_left _ l) 1))
theorem RowsAt.cut {H : Hp} {l p : Addr} {es : List Row} {lo hi : Option Int} (h : RowsAt H l es) (hp : H p = none) : ∃ es', RowsAt (upd H p (.lst (cutV (es.map rowV) lo hi))) p es' ∧ es'.length ≤ es.length ∧ ∀ e ∈ es', e ∈ es := by
  have sub : ∀ n m e, e ∈ (es.drop n).take m → e ∈ es := fun n m e he => List.mem_of_mem_drop (List.mem_of_mem_take he)
  refine ⟨(es.drop (HT.sIx es.length 0 lo)).take (HT.sIx es.length es.length hi - HT.sIx es.length 0 lo), ⟨?_, fun e he => ?_⟩, ?_, sub _ _⟩
  · rw [upd_same]
    unfold cutV
    rw [List.length_map, List.map_take, List.map_drop]
  · exact Same.new hp _ _ (h.2 e (sub _ _ e he))
  · rw [List.length_take, List.length_drop]
    omega
theorem RowsAt.rev {H : Hp} {l p : Addr} {es : List Row} (h : RowsAt H l es) (hp : H p = none) : RowsAt (upd H p (.lst (es.map rowV).reverse)) p es.reverse :=
  ⟨by rw [upd_same, List.map_reverse], fun e he => Same.new hp _ _ (h.2 e (List.mem_reverse.mp he))⟩
theorem rows_sz {es : List Row} (h : RowsOk (10 ^ 28 + 12) es) : ∀ q ∈ es.map rowQ, Sz 94 q := fun q hq => by
  obtain ⟨e, he, rfl⟩ := List.mem_map.mp hq
  obtain ⟨n, l1, l2⟩ := h e he
  exact Sz.of n (Nat.lt_of_le_of_lt l1 (by decide)) (Nat.lt_of_le_of_lt l2 (by decide))
theorem map_at {es : List Row} {i : Nat} {q : Rat} {r : Row} (h : (es.map rowQ)[i]? = some q) (g : es[i]? = some r) : q = rowQ r := by
  rw [List.getElem?_map, g] at h
  exact (Option.some.inj h).symm
abbrev N_law : List Str := ["_law_script", "_law_cell", "_law_well_here", "_law_rows_here", "_law_shares", "_law_a", "_law_b", "_law_one_here", "_law_first", "_law_other", "_law_second", "_law_found", "_law_at", "_law_some", "_law_top", "_law_bottom", "_law_handed", "_law_kept"]
theorem sc_law : FnScope ["_law_script", "_law_cell", "_law_well_here", "_law_rows_here", "_law_shares", "_law_a", "_law_b", "_law_one_here", "_law_first", "_law_other", "_law_second", "_law_found", "_law_at", "_law_some", "_law_top", "_law_bottom", "_law_handed", "_law_kept"] ["_law_script"] (defScope s_law) := ⟨rfl, rfl, rfl, by decide +kernel, rfl, by decide +kernel, by decide +kernel⟩
theorem ok_law {f C_Share C_NoShare : Addr} {fd : FuncData} (F : Fun K "law" "law" s_law f fd) (T : TS K mg C_Share C_NoShare) (m_Share : Md P w K mg base (CX P w) 2 C_Share ["self", "top", "bottom"] [.int 1] (spInit C_Share C_NoShare))
    (d__law_well : Df P w K mg base CX0 1 "_law_well" ["_law_cell"] spWell) (d__law_draw : Df P w K mg base CX0 1 "_law_draw" ["_law_well_here", "_law_many"] spDraw) (d__law_rows : Df P w K mg base CX0 5 "_law_rows" ["_law_well_here"] spRows)
    (d_less : Df P w K mg base CX0 1 "less" ["one", "other"] (spLess C_Share 4000)) (d__law_is_less : Df P w K mg base CX0 3 "_law_is_less" ["_law_first", "_law_second"] spIsLess) (d__law_sum : Df P w K mg base CX0 1 "_law_sum" ["_law_rows_here"] spLSum)
    (d_sum_of : Df P w K mg base CX0 4 "sum_of" ["shares"] (spSum K C_Share)) (d__law_is : Dg P w K mg base CX0 3 "_law_is" ["_law_share", "_law_top", "_law_bottom"] (spIs C_Share)) : FnG P w K mg base CX0 6 f fd ["_law_script"] (spLaw K) := by
  refine okG F sc_law (fun vs H Q E h => ?_) (fun cdv A outer s H vs Q E hg hr h => ?_)
  · obtain ⟨a, ns, rfl, _⟩ := h
    rfl
  · obtain ⟨a, ns, rfl, hS, hlen, k⟩ := h
    refine ⟨_, (pss_cons (ps_for PassesOwn.never rfl (pi_list (pe_op op_cat (pe_slice sl_list (pv 0) po_none (po_some pe_int)) (pe_lst (pa_cons pe_int (pa_cons pe_int pa_nil))))) (pg_name (i := 1) sc_law.nd rfl (Or.inl rfl))
 (pss_cons (ps_set (i := 2) sc_law.nd rfl (Or.inl rfl) (pe_df d__law_well (hr.mono (by decide)) pass0 (pa_cons (pv 1) pa_nil)))
 (pss_cons (ps_set (i := 3) sc_law.nd rfl (Or.inl rfl) (pe_df d__law_rows (hr.mono (by decide)) pass0 (pa_cons (pv 2) pa_nil)))
 (pss_cons (ps_setLc (i := 4) (own := [("_law_a", 5), ("_law_b", 6)]) (g := (gTup K 2 (gCons (gName 5) (gCons (gName 6) gNil)))) (tt := tYes) (te := (tMake C_Share (spInit C_Share C_NoShare) [] E0 (tCons (tVar 5) (tCons (tVar 6) tNil)))) (by rfl) sc_law.nd rfl rfl (sw_true rfl rfl rfl (by decide +kernel)) (pi_list (pv 3)) (blkOk_by (own := [("_law_a", 5), ("_law_b", 6)]) (N := N_law) (sc := defScope s_law) (by decide +kernel)) (fun _ _ _ _ _ => (pg_tup (by rfl) (pgs_cons (pg_name (i := 5) sc_law.nd rfl (Or.inl rfl)) (pgs_cons (pg_name (i := 6) sc_law.nd rfl (Or.inl rfl)) pgs_nil)))) (fun _ _ _ _ _ => pts_nil) (fun _ _ _ _ _ => (pe_mkd m_Share (hr.mono (by decide)) T.g_Share passL (pa_cons (pv 5) (pa_cons (pv 6) pa_nil)))))
 (pss_cons (ps_for PassesOwn.never rfl (pi_zip (by rfl) T.n_zip (pa_cons (pv 4) (pa_cons (pv 3) pa_nil))) (pg_tup (by rfl) (pgs_cons (pg_name (i := 7) sc_law.nd rfl (Or.inl rfl)) (pgs_cons (pg_name (i := 8) sc_law.nd rfl (Or.inl rfl)) pgs_nil)))
 (pss_one (ps_for PassesOwn.never rfl (pi_zip (by rfl) T.n_zip (pa_cons (pv 4) (pa_cons (pv 3) pa_nil))) (pg_tup (by rfl) (pgs_cons (pg_name (i := 9) sc_law.nd rfl (Or.inl rfl)) (pgs_cons (pg_name (i := 10) sc_law.nd rfl (Or.inl rfl)) pgs_nil)))
 (pss_cons (ps_set (i := 11) sc_law.nd rfl (Or.inl rfl) (pe_df d_less (hr.mono (by decide)) pass0 (pa_cons (pv 7) (pa_cons (pv 9) pa_nil))))
 (pss_one (ps_if (PW.pt (pw_or (pt_not (pt_val (pe_callB call_isi (by rfl) T.n_isinstance (by decide +kernel) (pa_cons (pv 11) (pa_cons (pe_bltn (v := .ty "bool") (by rfl) T.n_bool (by decide +kernel) rfl) pa_nil))))) (pw_or1 (pt_cmpR op_ne (pv 11) (pe_df d__law_is_less (hr.mono (by decide)) pass0 (pa_cons (pv 8) (pa_cons (pv 10) pa_nil))) (nomark _))))) (pss_one (ps_ret pe_bl)) pss_nil))))))
 (pss_cons (ps_set (i := 12) sc_law.nd rfl (Or.inl rfl) (pe_df d__law_draw (hr.mono (by decide)) pass0 (pa_cons (pv 2) (pa_cons (pe_op op_add (pe_callB cr_len (by rfl) T.n_len PySem.boot_len (pa_cons (pv 3) pa_nil)) pe_int) pa_nil))))
 (pss_one (ps_for PassesOwn.never rfl (pi_list (pe_lst (pa_cons (pv 3) (pa_cons (pe_slice sl_list (pv 3) po_none (po_some (pv 12))) (pa_cons (pe_revL (pv 3)) (pa_cons (pe_slice sl_list (pv 3) (po_some (pv 12)) po_none) pa_nil)))))) (pg_name (i := 13) sc_law.nd rfl (Or.inl rfl))
 (pss_cons (ps_asg (pe_df d__law_sum (hr.mono (by decide)) pass0 (pa_cons (pv 13) pa_nil)) (pg_tup (by rfl) (pgs_cons (pg_name (i := 14) sc_law.nd rfl (Or.inl rfl)) (pgs_cons (pg_name (i := 15) sc_law.nd rfl (Or.inl rfl)) pgs_nil))))
 (pss_cons (ps_setLc (i := 16) (own := [("_law_a", 5), ("_law_b", 6)]) (g := (gTup K 2 (gCons (gName 5) (gCons (gName 6) gNil)))) (tt := tYes) (te := (tMake C_Share (spInit C_Share C_NoShare) [] E0 (tCons (tVar 5) (tCons (tVar 6) tNil)))) (by rfl) sc_law.nd rfl rfl (sw_true rfl rfl rfl (by decide +kernel)) (pi_list (pv 13)) (blkOk_by (own := [("_law_a", 5), ("_law_b", 6)]) (N := N_law) (sc := defScope s_law) (by decide +kernel)) (fun _ _ _ _ _ => (pg_tup (by rfl) (pgs_cons (pg_name (i := 5) sc_law.nd rfl (Or.inl rfl)) (pgs_cons (pg_name (i := 6) sc_law.nd rfl (Or.inl rfl)) pgs_nil)))) (fun _ _ _ _ _ => pts_nil) (fun _ _ _ _ _ => (pe_mkd m_Share (hr.mono (by decide)) T.g_Share passL (pa_cons (pv 5) (pa_cons (pv 6) pa_nil)))))
 (pss_cons (ps_set (i := 17) sc_law.nd rfl (Or.inl rfl) (pe_callTy cr_listOf (by rfl) T.n_list (by decide +kernel) (pa_cons (pv 16) pa_nil)))
 (pss_one (ps_if (PW.pt (pw_or (pt_not (pt_val (pe_dg d__law_is (hr.mono (by decide)) hg pass0 (pa_cons (pe_df d_sum_of (hr.mono (by decide)) pass0 (pa_cons (pv 16) pa_nil)) (pa_cons (pv 14) (pa_cons (pv 15) pa_nil)))))) (pw_or1 (pt_cmpR (op_neL hr.units0) (pv 16) (pv 17) (nomark _))))) (pss_one (ps_ret pe_bl)) pss_nil)))))))))))))
 (pss_one (ps_ret (pe_dg d__law_is (hr.mono (by decide)) hg pass0 (pa_cons (pe_df d_sum_of (hr.mono (by decide)) pass0 (pa_cons (pe_lst pa_nil) pa_nil)) (pa_cons pe_int (pa_cons pe_int pa_nil))))))), ?_⟩
    have fit : ∀ es : List Row, es.length ≤ 12 → RowsOk (10 ^ 28 + 12) es → lcmAll (es.map rowQ) < 2 ^ 8000 := fun es h g =>
      Nat.lt_trans (lcmAll_lt (B := 94) (n := 12) (fun q hq => (rows_sz g q hq).2) (by rw [List.length_map]; exact h)) (Nat.pow_lt_pow_right (by decide) (by decide))
    have sz : ∀ es : List Row, RowsOk (10 ^ 28 + 12) es → ∀ q ∈ es.map rowQ, Sz 4000 q := fun es g q hq => (rows_sz g q hq).mono (by decide)
    repeat walk_at "rg"
    refine rd_slL hS fun l1 hl1 => ?_
    repeat walk_at "rg"
    refine rd_kLst rfl fun l2 hl2 => ?_
    have n12 : l1 ≠ l2 := ne_of_none upd_same hl2
    have hc : (cutV (ns.map V.int) none (some 12)).length ≤ 63 := Nat.le_trans (cutV_length _ _ _) (by rw [List.length_map]; exact hlen)
    refine rd_cat (by rw [upd_ne n12]; exact upd_same) upd_same (Nat.le_trans (Nat.add_le_add_right hc 2) (by decide)) fun l3 hl3 => ?_
    repeat walk_at "rg"
    refine rd_kFor (xs := cutV (ns.map V.int) none (some 12) ++ [.int 0, .int 1]) (fun i σ H' => ∃ v1 v2 v3 v4 v5 v6 v7 v8 v9 v10 v11 v12 v13 v14 v15 v16 v17, σ = [some (.ref a), v1, v2, v3, v4, v5, v6, v7, v8, v9, v10, v11, v12, v13, v14, v15, v16, v17] ∧ H' l3 = some (.lst (cutV (ns.map V.int) none (some 12) ++ [.int 0, .int 1])))
      (SqL.of upd_same) ⟨_, _, _, _, _, _, _, _, _, _, _, _, _, _, _, _, _, rfl, upd_same⟩ (fun i σ H' _ ⟨_, _, _, _, _, _, _, _, _, _, _, _, _, _, _, _, _, _, h⟩ => SqL.of h) ?_ ?_
    · rintro i x σ H' hi ⟨v1, v2, v3, v4, v5, v6, v7, v8, v9, v10, v11, v12, v13, v14, v15, v16, v17, rfl, hL⟩
      obtain ⟨z, rfl⟩ := cells_int hi
      clear hi
      generalize cutV (ns.map V.int) none (some 12) ++ [V.int 0, V.int 1] = cells at hL
      repeat walk_at "rg"
      refine ⟨z, rfl, fun p H1 hp e1 w1 => ?_⟩
      have np : l3 ≠ p := ne_of_none hL hp
      replace hL := e1 _ _ hL
      repeat walk_at "rg"
      refine ⟨p, rfl, w1, fun l es H2 nl e2 w2 hR hes hok => ?_⟩
      replace hL := e2 _ _ np hL
      have szs := rows_sz hok
      repeat walk_at "rg"
      refine rd_kLcSh (CN := C_NoShare) hR hok (Nat.lt_trans (show 10 ^ 28 + 12 < 2 ^ 94 by decide) (Nat.pow_lt_pow_right (by decide) (by decide))) (by omega) (fun _ _ => rfl) (fun _ _ => rfl) (fun _ _ => rfl) fun S as H3 _ e3 hSh hAll => ?_
      replace hL := e3 _ _ hL
      replace hR := hR.same e3
      have w3 := w2.same e3
      have el : as.length = es.length := by rw [hAll.1, List.length_map]
      repeat walk_at "rg"
      refine rd_kZip (xs := as.map V.ref) (ys := es.map rowV) (by rw [List.length_map, List.length_map]; exact el) (SqL.of hSh) (SqL.of hR.1) (fun i σ H' => ∃ v7 v8 v9 v10 v11, σ = [some (.ref a), some (.int z), some (.ref p), some (.ref l), some (.ref S), v5, v6, v7, v8, v9, v10, v11, v12, v13, v14, v15, v16, v17] ∧ Same H3 H')
        ⟨_, _, _, _, _, rfl, Same.refl _⟩ (fun i σ H' ⟨_, _, _, _, _, _, e⟩ => ⟨SqL.of (e _ _ hSh), SqL.of (e _ _ hR.1)⟩) ?_ ?_
      · rintro i x y T0 σ H4 hx hy ⟨u7, u8, u9, u10, u11, rfl, e4⟩ hT0
        obtain ⟨x1, q1, rfl, hq1, S1⟩ := sh_at hAll hx
        obtain ⟨⟨t1, a1, b1⟩, hr1, rfl⟩ := row_at hy
        have st0 := SqT.of (K := K) (upd_same (H := H4) (a := T0) (o := .tup [.ref x1, .ref t1]))
        have f4 := Same.new (o := .tup [.ref x1, .ref t1]) hT0
        change gTup K 2 _ _ _ (upd H4 T0 (.tup [.ref x1, .ref t1])) _
        replace f4 : Same H3 (upd H4 T0 (.tup [.ref x1, .ref t1])) := fun b o q => f4 b o (e4 b o q)
        generalize upd H4 T0 (.tup [.ref x1, .ref t1]) = H4 at *
        repeat walk_at "rg"
        refine rd_kZip (xs := as.map V.ref) (ys := es.map rowV) (by rw [List.length_map, List.length_map]; exact el) (SqL.of (f4 _ _ hSh)) (SqL.of (f4 _ _ hR.1)) (fun i σ H' => ∃ v9 v10 v11, σ = [some (.ref a), some (.int z), some (.ref p), some (.ref l), some (.ref S), v5, v6, some (.ref x1), some (.ref t1), v9, v10, v11, v12, v13, v14, v15, v16, v17] ∧ Same H3 H')
          ⟨_, _, _, rfl, f4⟩ (fun i σ H' ⟨_, _, _, _, e⟩ => ⟨SqL.of (e _ _ hSh), SqL.of (e _ _ hR.1)⟩) ?_ ?_
        · rintro j x y T1 σ H5 hx2 hy2 ⟨u9, u10, u11, rfl, e5⟩ hT1
          obtain ⟨x2, q2, rfl, hq2, S2⟩ := sh_at hAll hx2
          obtain ⟨⟨t2, a2, b2⟩, hr2, rfl⟩ := row_at hy2
          have st1 := SqT.of (K := K) (upd_same (H := H5) (a := T1) (o := .tup [.ref x2, .ref t2]))
          have f5 := Same.new (o := .tup [.ref x2, .ref t2]) hT1
          change gTup K 2 _ _ _ (upd H5 T1 (.tup [.ref x2, .ref t2])) _
          replace f5 : Same H3 (upd H5 T1 (.tup [.ref x2, .ref t2])) := fun b o q => f5 b o (e5 b o q)
          generalize upd H5 T1 (.tup [.ref x2, .ref t2]) = H5 at *
          have z1 := sz es hok q1 (List.mem_of_getElem? hq1)
          have z2 := sz es hok q2 (List.mem_of_getElem? hq2)
          repeat walk_at "rg"
          refine ⟨x1, x2, q1, q2, rfl, S1.same f5, S2.same f5, z1, z2, ?_⟩
          repeat walk_at "rf"
          refine rd_isi (b := true) (ClsV.ty _) (.base (.bl _)) (kit_same (by rfl)) ?_
          repeat walk_at "rf"
          refine iteF ?_
          repeat walk_at "rf"
          have m1 := List.mem_of_getElem? hr1
          have m2 := List.mem_of_getElem? hr2
          have big : 10 ^ 28 + 12 < 2 ^ 1900 := Nat.lt_trans (show 10 ^ 28 + 12 < 2 ^ 94 by decide) (Nat.pow_lt_pow_right (by decide) (by decide))
          obtain ⟨nb1, la1, lb1⟩ : b1 ≠ 0 ∧ a1.natAbs ≤ 10 ^ 28 + 12 ∧ b1.natAbs ≤ 10 ^ 28 + 12 := hok _ m1
          obtain ⟨nb2, la2, lb2⟩ : b2 ≠ 0 ∧ a2.natAbs ≤ 10 ^ 28 + 12 ∧ b2.natAbs ≤ 10 ^ 28 + 12 := hok _ m2
          refine ⟨t1, t2, a1, b1, a2, b2, rfl, f5 _ _ (hR.2 _ m1), f5 _ _ (hR.2 _ m2), nb1, nb2, Nat.lt_of_le_of_lt la1 big, Nat.lt_of_le_of_lt lb1 big, Nat.lt_of_le_of_lt la2 big, Nat.lt_of_le_of_lt lb2 big, fun H6 e6 => ?_⟩
          have eq1 : q1 = Rat.divInt a1 b1 := map_at hq1 hr1
          have eq2 : q2 = Rat.divInt a2 b2 := map_at hq2 hr2
          refine rd_ne rfl ?_
          rw [eq1, eq2, decide_eq_true rfl]
          repeat walk_at "rf"
          refine iteF ?_
          exact ⟨_, _, _, rfl, fun b o q => e6 b o (f5 b o q)⟩
        · rintro σ H5 ⟨u9, u10, u11, rfl, e5⟩
          exact ⟨_, _, _, _, _, rfl, e5⟩
      · rintro σ H4 ⟨u7, u8, u9, u10, u11, rfl, e4⟩
        have w4 := w3.same e4
        have hR4 := hR.same e4
        have hL4 := e4 _ _ hL
        have sR : SqL K H4 l (es.map rowV) := SqL.of hR4.1
        repeat walk_at "rg"
        rw [List.length_map]
        refine ⟨p, _, 200, rfl, w4, by decide, by omega, by omega, fun r H5 r0 r1 e5 w5 => ?_⟩
        have hR5 := hR4.but e5 w4 nl
        have hL5 := e5 _ _ np hL4
        repeat walk_at "rg"
        refine rd_slL (SqL.of hR5.1) fun m1 hm1 => ?_
        have s1 := Same.new (o := .lst (cutV (es.map rowV) none (some r))) hm1
        obtain ⟨es1, R1, le1, in1⟩ := hR5.cut (lo := none) (hi := some r) hm1
        have hR6 := hR5.same s1
        have hL6 := s1 _ _ hL5
        generalize upd H5 m1 (.lst (cutV (es.map rowV) none (some r))) = H6 at *
        repeat walk_at "rg"
        refine rd_kRev (SqL.of hR6.1) fun m2 hm2 => ?_
        have s2 := Same.new (o := .lst (es.map rowV).reverse) hm2
        have R2 := hR6.rev hm2
        have hR7 := hR6.same s2
        have hL7 := s2 _ _ hL6
        replace R1 := R1.same s2
        generalize upd H6 m2 (.lst (es.map rowV).reverse) = H7 at *
        repeat walk_at "rg"
        refine rd_slL (SqL.of hR7.1) fun m3 hm3 => ?_
        have s3 := Same.new (o := .lst (cutV (es.map rowV) (some r) none)) hm3
        obtain ⟨es3, R3, le3, in3⟩ := hR7.cut (lo := some r) (hi := none) hm3
        have hR8 := hR7.same s3
        have hL8 := s3 _ _ hL7
        replace R1 := R1.same s3
        replace R2 := R2.same s3
        generalize upd H7 m3 (.lst (cutV (es.map rowV) (some r) none)) = H8 at *
        repeat walk_at "rg"
        refine rd_kLst rfl fun m4 hm4 => ?_
        have s4 := Same.new (o := .lst [.ref l, .ref m1, .ref m2, .ref m3]) hm4
        have hM := upd_same (H := H8) (a := m4) (o := .lst [.ref l, .ref m1, .ref m2, .ref m3])
        have hL9 := s4 _ _ hL8
        replace hR8 := hR8.same s4
        replace R1 := R1.same s4
        replace R2 := R2.same s4
        replace R3 := R3.same s4
        generalize upd H8 m4 (.lst [.ref l, .ref m1, .ref m2, .ref m3]) = H9 at *
        refine rd_kFor (xs := [.ref l, .ref m1, .ref m2, .ref m3]) (fun i σ H' => ∃ v5 v6 v13 v14 v15 v16 v17, σ = [some (.ref a), some (.int z), some (.ref p), some (.ref l), some (.ref S), v5, v6, u7, u8, u9, u10, u11, some (.int r), v13, v14, v15, v16, v17] ∧ Same H9 H')
          (SqL.of hM) ⟨_, _, _, _, _, _, _, rfl, Same.refl _⟩ (fun i σ H' _ ⟨_, _, _, _, _, _, _, _, e⟩ => SqL.of (e _ _ hM)) ?_ ?_
        · rintro i x σ H10 hx ⟨g5, g6, g13, g14, g15, g16, g17, rfl, e10⟩
          obtain ⟨lx, ex, rfl, Rx, lenx, okx⟩ : ∃ lx ex, x = .ref lx ∧ RowsAt H9 lx ex ∧ ex.length ≤ 12 ∧ RowsOk (10 ^ 28 + 12) ex := by
            match i, hx with
            | 0, hx => exact ⟨l, es, (Option.some.inj hx).symm, hR8, hes, hok⟩
            | 1, hx => exact ⟨m1, es1, (Option.some.inj hx).symm, R1, by omega, fun e he => hok e (in1 e he)⟩
            | 2, hx => exact ⟨m2, es.reverse, (Option.some.inj hx).symm, R2, by rw [List.length_reverse]; exact hes, fun e he => hok e (List.mem_reverse.mp he)⟩
            | 3, hx => exact ⟨m3, es3, (Option.some.inj hx).symm, R3, by omega, fun e he => hok e (in3 e he)⟩
            | i + 4, hx => exact nomatch hx
          replace Rx := Rx.same e10
          repeat walk_at "rg"
          refine ⟨lx, ex, rfl, Rx, lenx, okx, fun T0 n d H11 _ e11 h11 nd ln ld eqs => ?_⟩
          have st : SqT K H11 T0 [.int n, .int d] := SqT.of h11
          replace Rx := Rx.same e11
          repeat walk_at "rg"
          refine rd_kLcSh (CN := C_NoShare) Rx okx (Nat.lt_trans (show 10 ^ 28 + 12 < 2 ^ 94 by decide) (Nat.pow_lt_pow_right (by decide) (by decide))) (by omega) (fun _ _ => rfl) (fun _ _ => rfl) (fun _ _ => rfl) fun D bs H12 _ e12 hD hAll2 => ?_
          repeat walk_at "rg"
          refine rd_listOf (SqL.of hD) fun D2 hD2 => ?_
          have s13 := Same.new (o := .lst (bs.map V.ref)) hD2
          have hD' := s13 _ _ hD
          have hAll3 := hAll2.same s13
          have hD3 := upd_same (H := H12) (a := D2) (o := .lst (bs.map V.ref))
          generalize upd H12 D2 (.lst (bs.map V.ref)) = H13 at *
          repeat walk_at "rf"
          refine ⟨D, bs, ex.map rowQ, rfl, SqL.of hD', hAll3, by rw [hAll3.1, List.length_map]; omega, sz ex okx, fit ex lenx okx, fun xs H14 hxs e14 hsum => ?_⟩
          rw [← eqs] at hsum
          repeat walk_at "rf"
          refine ⟨xs, n, d, rfl, hsum, nd, ln, ld, fun H15 e15 => ?_⟩
          repeat walk_at "rf"
          refine iteF ?_
          repeat walk_at "rf"
          refine ⟨D, D2, bs.map V.ref, bs.map V.ref, rfl, rfl, SqL.of (e15 _ _ (e14 _ _ hD')), SqL.of (e15 _ _ (e14 _ _ hD3)), .inl ⟨rfl, allRef_map bs, ?_⟩⟩
          repeat walk_at "rf"
          refine iteF ?_
          exact ⟨_, _, _, _, _, _, _, rfl, fun b o q => e15 b o (e14 b o (s13 b o (e12 b o (e11 b o (e10 b o q)))))⟩
        · rintro σ H10 ⟨g5, g6, g13, g14, g15, g16, g17, rfl, e10⟩
          exact ⟨_, _, _, _, _, _, _, _, _, _, _, _, _, _, _, _, _, rfl, e10 _ _ hL9⟩
    · rintro σ H' ⟨v1, v2, v3, v4, v5, v6, v7, v8, v9, v10, v11, v12, v13, v14, v15, v16, v17, rfl, hL⟩
      repeat walk_at "rg"
      refine rd_kLst rfl fun m hm => ?_
      refine ⟨m, [], [], rfl, SqL.of upd_same, ShAll.nil, by decide, (fun q h => nomatch h), Nat.lt_of_le_of_lt (Nat.le_refl 1) (Nat.one_lt_two_pow (by decide)), fun x H2 hx e2 hs => ?_⟩
      repeat walk_at "rg"
      refine ⟨x, 0, 1, rfl, (show ShAt C_Share H2 x (Rat.divInt 0 1) from hs), by decide, Nat.lt_of_lt_of_le (by decide) (Nat.pow_le_pow_right (n := 2) (by decide) (Nat.zero_le 1900)), Nat.one_lt_two_pow (by decide), fun H3 e3 => ?_⟩
      exact k H3
end
theorem all_mk {P : Program} {w : World} {K : PySem.W.Frag} {h : Heap} {mg : Str → Option Value} {fa : Addr} (X : K.In h) (G : h.Ns mainGlobals mg) (hfa : mg "law" = some (.ref fa))
    {C_Share C_NoShare : Addr} {f_is_whole : Addr} {oc_is_whole kV_is_whole dc_is_whole pm_is_whole cd_is_whole ct_is_whole : Value} {od_is_whole an_is_whole : Option Addr} {sl_is_whole : Array (Option Value)} {f_Share___init__ : Addr} {oc_Share___init__ kV_Share___init__ dc_Share___init__ pm_Share___init__ cd_Share___init__ ct_Share___init__ : Value} {od_Share___init__ an_Share___init__ : Option Addr} {sl_Share___init__ : Array (Option Value)} {T_Share___init__ : Addr} {tc_Share___init__ : Value} {td_Share___init__ : Option Addr} {tn_Share___init__ : Nat} {tt_Share___init__ : Tok} {tsl_Share___init__ : Array (Option Value)} {f__law_well : Addr} {oc__law_well kV__law_well dc__law_well pm__law_well cd__law_well ct__law_well : Value} {od__law_well an__law_well : Option Addr} {sl__law_well : Array (Option Value)} {f__law_draw : Addr} {oc__law_draw kV__law_draw dc__law_draw pm__law_draw cd__law_draw ct__law_draw : Value} {od__law_draw an__law_draw : Option Addr} {sl__law_draw : Array (Option Value)} {f__law_one : Addr} {oc__law_one kV__law_one dc__law_one pm__law_one cd__law_one ct__law_one : Value} {od__law_one an__law_one : Option Addr} {sl__law_one : Array (Option Value)} {f__law_number : Addr} {oc__law_number kV__law_number dc__law_number pm__law_number cd__law_number ct__law_number : Value} {od__law_number an__law_number : Option Addr} {sl__law_number : Array (Option Value)} {f__law_fraction : Addr} {oc__law_fraction kV__law_fraction dc__law_fraction pm__law_fraction cd__law_fraction ct__law_fraction : Value} {od__law_fraction an__law_fraction : Option Addr} {sl__law_fraction : Array (Option Value)} {f__law_divisor : Addr} {oc__law_divisor kV__law_divisor dc__law_divisor pm__law_divisor cd__law_divisor ct__law_divisor : Value} {od__law_divisor an__law_divisor : Option Addr} {sl__law_divisor : Array (Option Value)} {f__law_lowest : Addr} {oc__law_lowest kV__law_lowest dc__law_lowest pm__law_lowest cd__law_lowest ct__law_lowest : Value} {od__law_lowest an__law_lowest : Option Addr} {sl__law_lowest : Array (Option Value)} {f_less : Addr} {oc_less kV_less dc_less pm_less cd_less ct_less : Value} {od_less an_less : Option Addr} {sl_less : Array (Option Value)} {f_on_one_bottom : Addr} {oc_on_one_bottom kV_on_one_bottom dc_on_one_bottom pm_on_one_bottom cd_on_one_bottom ct_on_one_bottom : Value} {od_on_one_bottom an_on_one_bottom : Option Addr} {sl_on_one_bottom : Array (Option Value)} {f_sum_of : Addr} {oc_sum_of kV_sum_of dc_sum_of pm_sum_of cd_sum_of ct_sum_of : Value} {od_sum_of an_sum_of : Option Addr} {sl_sum_of : Array (Option Value)} {f__law_is : Addr} {oc__law_is kV__law_is dc__law_is pm__law_is cd__law_is ct__law_is : Value} {od__law_is an__law_is : Option Addr} {sl__law_is : Array (Option Value)} {f__law_rows : Addr} {oc__law_rows kV__law_rows dc__law_rows pm__law_rows cd__law_rows ct__law_rows : Value} {od__law_rows an__law_rows : Option Addr} {sl__law_rows : Array (Option Value)} {f__law_sum : Addr} {oc__law_sum kV__law_sum dc__law_sum pm__law_sum cd__law_sum ct__law_sum : Value} {od__law_sum an__law_sum : Option Addr} {sl__law_sum : Array (Option Value)} {f__law_is_less : Addr} {oc__law_is_less kV__law_is_less dc__law_is_less pm__law_is_less cd__law_is_less ct__law_is_less : Value} {od__law_is_less an__law_is_less : Option Addr} {sl__law_is_less : Array (Option Value)} {f_law : Addr} {oc_law kV_law dc_law pm_law cd_law ct_law : Value} {od_law an_law : Option Addr} {sl_law : Array (Option Value)}
    (n_int : PySem.W.nsIn K mainGlobals "int" = some none)
    (n_len : PySem.W.nsIn K mainGlobals "len" = some none)
    (n_abs : PySem.W.nsIn K mainGlobals "abs" = some none)
    (n_repr : PySem.W.nsIn K mainGlobals "repr" = some none)
    (n_isinstance : PySem.W.nsIn K mainGlobals "isinstance" = some none)
    (n_bool : PySem.W.nsIn K mainGlobals "bool" = some none)
    (n_str : PySem.W.nsIn K mainGlobals "str" = some none)
    (n_list : PySem.W.nsIn K mainGlobals "list" = some none)
    (n_tuple : PySem.W.nsIn K mainGlobals "tuple" = some none)
    (n_range : PySem.W.nsIn K mainGlobals "range" = some none)
    (n_zip : PySem.W.nsIn K mainGlobals "zip" = some none)
    (n_enumerate : PySem.W.nsIn K mainGlobals "enumerate" = some none)
    (n_sum : PySem.W.nsIn K mainGlobals "sum" = some none)
    (n_any : PySem.W.nsIn K mainGlobals "any" = some none)
    (n_all : PySem.W.nsIn K mainGlobals "all" = some none)
    (n_min : PySem.W.nsIn K mainGlobals "min" = some none)
    (n_max : PySem.W.nsIn K mainGlobals "max" = some none)
    (n_sorted : PySem.W.nsIn K mainGlobals "sorted" = some none)
    (aC : PySem.W.nsIn K mainGlobals "Share" = some (some (.ref C_Share)))
    (aN : PySem.W.nsIn K mainGlobals "NoShare" = some (some (.ref C_NoShare)))
    (pg : PySem.W.plainGet K C_Share Str.empty = true)
    (hd : PySem.W.hasDictIn K C_Share = true)
    (po : PySem.W.plainOver K C_Share = true)
    (sa : PySem.W.findIn K (.ref C_Share) "__setattr__" = some (some (.builtin "object.__setattr__")))
    (mk_Share : PySem.W.makesIn K C_Share = true)
    (kc_Share : PySem.W.keepIn K (.ref C_Share) = true)
    (nT : PySem.W.findIn K (.ref C_Share) "top" = some none)
    (nB : PySem.W.findIn K (.ref C_Share) "bottom" = some none)
    (cc : PySem.W.findIn K (.ref C_Share) "__class__" = some (some (.builtin "object.__class__")))
    (cg : PySem.W.specialIn K (.builtin "object.__class__") "__get__" = some (some (.builtin "getset_descriptor.__get__")))
    (ct : PySem.W.takesIn K (.builtin "object.__class__") = some true)
    (cm : PySem.W.mroIn K C_Share (.type "object") = some true)
    (gg : PySem.W.nsIn K mainGlobals "gcd" = some (some (.builtin "math.gcd")))
    (xN : PySem.W.excIn K C_NoShare [.type "ValueError", .type "Exception", .type "BaseException", .type "object"] "ValueError.__new__" = true)
    (kN : PySem.W.keepIn K (.ref C_NoShare) = true)
    (bN : PySem.W.subIn K (.ref C_NoShare) (.type "BaseException") = some true)
    (tN : PySem.W.typeIn K (.ref C_NoShare) = some (.type "type"))
    (iN : PySem.W.hasDictIn K C_NoShare = true)
    (sN : PySem.W.subIn K (.ref C_NoShare) (.ref C_NoShare) = some true)
    (gl : PySem.W.nsIn K mainGlobals "lcm" = some (some (.builtin "math.lcm")))
    (a_is_whole : PySem.W.nsIn K mainGlobals "is_whole" = some (some (.ref f_is_whole)))
    (l_is_whole : K.lookup f_is_whole = some ⟨oc_is_whole, od_is_whole, .func (PySem.W.fnOf "is_whole" "is_whole" (defArgs s_is_whole) (defBody s_is_whole) (defScope s_is_whole) .none kV_is_whole dc_is_whole pm_is_whole an_is_whole cd_is_whole ct_is_whole), sl_is_whole⟩)
    (c_is_whole : PySem.W.codeIn K cd_is_whole "is_whole" = true)
    (k_is_whole : PySem.W.keepIn K (.ref f_is_whole) = true)
    (a_Share___init__ : PySem.W.findIn K (.ref C_Share) "__init__" = some (some (.ref f_Share___init__)))
    (l_Share___init__ : K.lookup f_Share___init__ = some ⟨oc_Share___init__, od_Share___init__, .func (PySem.W.fnOf "__init__" "Share.__init__" (defArgs s_Share___init__) (defBody s_Share___init__) (defScope s_Share___init__) (.ref T_Share___init__) kV_Share___init__ dc_Share___init__ pm_Share___init__ an_Share___init__ cd_Share___init__ ct_Share___init__), sl_Share___init__⟩)
    (e_Share___init__ : K.lookup T_Share___init__ = some ⟨tc_Share___init__, td_Share___init__, .seq #[.int 1 tt_Share___init__] tn_Share___init__, tsl_Share___init__⟩)
    (c_Share___init__ : PySem.W.codeIn K cd_Share___init__ "Share.__init__" = true)
    (k_Share___init__ : PySem.W.keepIn K (.ref f_Share___init__) = true)
    (i_Share___init__ : PySem.W.isFn K (.ref f_Share___init__) = true)
    (a__law_well : PySem.W.nsIn K mainGlobals "_law_well" = some (some (.ref f__law_well)))
    (l__law_well : K.lookup f__law_well = some ⟨oc__law_well, od__law_well, .func (PySem.W.fnOf "_law_well" "_law_well" (defArgs s__law_well) (defBody s__law_well) (defScope s__law_well) .none kV__law_well dc__law_well pm__law_well an__law_well cd__law_well ct__law_well), sl__law_well⟩)
    (c__law_well : PySem.W.codeIn K cd__law_well "_law_well" = true)
    (k__law_well : PySem.W.keepIn K (.ref f__law_well) = true)
    (a__law_draw : PySem.W.nsIn K mainGlobals "_law_draw" = some (some (.ref f__law_draw)))
    (l__law_draw : K.lookup f__law_draw = some ⟨oc__law_draw, od__law_draw, .func (PySem.W.fnOf "_law_draw" "_law_draw" (defArgs s__law_draw) (defBody s__law_draw) (defScope s__law_draw) .none kV__law_draw dc__law_draw pm__law_draw an__law_draw cd__law_draw ct__law_draw), sl__law_draw⟩)
    (c__law_draw : PySem.W.codeIn K cd__law_draw "_law_draw" = true)
    (k__law_draw : PySem.W.keepIn K (.ref f__law_draw) = true)
    (a__law_one : PySem.W.nsIn K mainGlobals "_law_one" = some (some (.ref f__law_one)))
    (l__law_one : K.lookup f__law_one = some ⟨oc__law_one, od__law_one, .func (PySem.W.fnOf "_law_one" "_law_one" (defArgs s__law_one) (defBody s__law_one) (defScope s__law_one) .none kV__law_one dc__law_one pm__law_one an__law_one cd__law_one ct__law_one), sl__law_one⟩)
    (c__law_one : PySem.W.codeIn K cd__law_one "_law_one" = true)
    (k__law_one : PySem.W.keepIn K (.ref f__law_one) = true)
    (a__law_number : PySem.W.nsIn K mainGlobals "_law_number" = some (some (.ref f__law_number)))
    (l__law_number : K.lookup f__law_number = some ⟨oc__law_number, od__law_number, .func (PySem.W.fnOf "_law_number" "_law_number" (defArgs s__law_number) (defBody s__law_number) (defScope s__law_number) .none kV__law_number dc__law_number pm__law_number an__law_number cd__law_number ct__law_number), sl__law_number⟩)
    (c__law_number : PySem.W.codeIn K cd__law_number "_law_number" = true)
    (k__law_number : PySem.W.keepIn K (.ref f__law_number) = true)
    (a__law_fraction : PySem.W.nsIn K mainGlobals "_law_fraction" = some (some (.ref f__law_fraction)))
    (l__law_fraction : K.lookup f__law_fraction = some ⟨oc__law_fraction, od__law_fraction, .func (PySem.W.fnOf "_law_fraction" "_law_fraction" (defArgs s__law_fraction) (defBody s__law_fraction) (defScope s__law_fraction) .none kV__law_fraction dc__law_fraction pm__law_fraction an__law_fraction cd__law_fraction ct__law_fraction), sl__law_fraction⟩)
    (c__law_fraction : PySem.W.codeIn K cd__law_fraction "_law_fraction" = true)
    (k__law_fraction : PySem.W.keepIn K (.ref f__law_fraction) = true)
    (a__law_divisor : PySem.W.nsIn K mainGlobals "_law_divisor" = some (some (.ref f__law_divisor)))
    (l__law_divisor : K.lookup f__law_divisor = some ⟨oc__law_divisor, od__law_divisor, .func (PySem.W.fnOf "_law_divisor" "_law_divisor" (defArgs s__law_divisor) (defBody s__law_divisor) (defScope s__law_divisor) .none kV__law_divisor dc__law_divisor pm__law_divisor an__law_divisor cd__law_divisor ct__law_divisor), sl__law_divisor⟩)
    (c__law_divisor : PySem.W.codeIn K cd__law_divisor "_law_divisor" = true)
    (k__law_divisor : PySem.W.keepIn K (.ref f__law_divisor) = true)
    (a__law_lowest : PySem.W.nsIn K mainGlobals "_law_lowest" = some (some (.ref f__law_lowest)))
    (l__law_lowest : K.lookup f__law_lowest = some ⟨oc__law_lowest, od__law_lowest, .func (PySem.W.fnOf "_law_lowest" "_law_lowest" (defArgs s__law_lowest) (defBody s__law_lowest) (defScope s__law_lowest) .none kV__law_lowest dc__law_lowest pm__law_lowest an__law_lowest cd__law_lowest ct__law_lowest), sl__law_lowest⟩)
    (c__law_lowest : PySem.W.codeIn K cd__law_lowest "_law_lowest" = true)
    (k__law_lowest : PySem.W.keepIn K (.ref f__law_lowest) = true)
    (a_less : PySem.W.nsIn K mainGlobals "less" = some (some (.ref f_less)))
    (l_less : K.lookup f_less = some ⟨oc_less, od_less, .func (PySem.W.fnOf "less" "less" (defArgs s_less) (defBody s_less) (defScope s_less) .none kV_less dc_less pm_less an_less cd_less ct_less), sl_less⟩)
    (c_less : PySem.W.codeIn K cd_less "less" = true)
    (k_less : PySem.W.keepIn K (.ref f_less) = true)
    (a_on_one_bottom : PySem.W.nsIn K mainGlobals "on_one_bottom" = some (some (.ref f_on_one_bottom)))
    (l_on_one_bottom : K.lookup f_on_one_bottom = some ⟨oc_on_one_bottom, od_on_one_bottom, .func (PySem.W.fnOf "on_one_bottom" "on_one_bottom" (defArgs s_on_one_bottom) (defBody s_on_one_bottom) (defScope s_on_one_bottom) .none kV_on_one_bottom dc_on_one_bottom pm_on_one_bottom an_on_one_bottom cd_on_one_bottom ct_on_one_bottom), sl_on_one_bottom⟩)
    (c_on_one_bottom : PySem.W.codeIn K cd_on_one_bottom "on_one_bottom" = true)
    (k_on_one_bottom : PySem.W.keepIn K (.ref f_on_one_bottom) = true)
    (a_sum_of : PySem.W.nsIn K mainGlobals "sum_of" = some (some (.ref f_sum_of)))
    (l_sum_of : K.lookup f_sum_of = some ⟨oc_sum_of, od_sum_of, .func (PySem.W.fnOf "sum_of" "sum_of" (defArgs s_sum_of) (defBody s_sum_of) (defScope s_sum_of) .none kV_sum_of dc_sum_of pm_sum_of an_sum_of cd_sum_of ct_sum_of), sl_sum_of⟩)
    (c_sum_of : PySem.W.codeIn K cd_sum_of "sum_of" = true)
    (k_sum_of : PySem.W.keepIn K (.ref f_sum_of) = true)
    (a__law_is : PySem.W.nsIn K mainGlobals "_law_is" = some (some (.ref f__law_is)))
    (l__law_is : K.lookup f__law_is = some ⟨oc__law_is, od__law_is, .func (PySem.W.fnOf "_law_is" "_law_is" (defArgs s__law_is) (defBody s__law_is) (defScope s__law_is) .none kV__law_is dc__law_is pm__law_is an__law_is cd__law_is ct__law_is), sl__law_is⟩)
    (c__law_is : PySem.W.codeIn K cd__law_is "_law_is" = true)
    (k__law_is : PySem.W.keepIn K (.ref f__law_is) = true)
    (a__law_rows : PySem.W.nsIn K mainGlobals "_law_rows" = some (some (.ref f__law_rows)))
    (l__law_rows : K.lookup f__law_rows = some ⟨oc__law_rows, od__law_rows, .func (PySem.W.fnOf "_law_rows" "_law_rows" (defArgs s__law_rows) (defBody s__law_rows) (defScope s__law_rows) .none kV__law_rows dc__law_rows pm__law_rows an__law_rows cd__law_rows ct__law_rows), sl__law_rows⟩)
    (c__law_rows : PySem.W.codeIn K cd__law_rows "_law_rows" = true)
    (k__law_rows : PySem.W.keepIn K (.ref f__law_rows) = true)
    (a__law_sum : PySem.W.nsIn K mainGlobals "_law_sum" = some (some (.ref f__law_sum)))
    (l__law_sum : K.lookup f__law_sum = some ⟨oc__law_sum, od__law_sum, .func (PySem.W.fnOf "_law_sum" "_law_sum" (defArgs s__law_sum) (defBody s__law_sum) (defScope s__law_sum) .none kV__law_sum dc__law_sum pm__law_sum an__law_sum cd__law_sum ct__law_sum), sl__law_sum⟩)
    (c__law_sum : PySem.W.codeIn K cd__law_sum "_law_sum" = true)
    (k__law_sum : PySem.W.keepIn K (.ref f__law_sum) = true)
    (a__law_is_less : PySem.W.nsIn K mainGlobals "_law_is_less" = some (some (.ref f__law_is_less)))
    (l__law_is_less : K.lookup f__law_is_less = some ⟨oc__law_is_less, od__law_is_less, .func (PySem.W.fnOf "_law_is_less" "_law_is_less" (defArgs s__law_is_less) (defBody s__law_is_less) (defScope s__law_is_less) .none kV__law_is_less dc__law_is_less pm__law_is_less an__law_is_less cd__law_is_less ct__law_is_less), sl__law_is_less⟩)
    (c__law_is_less : PySem.W.codeIn K cd__law_is_less "_law_is_less" = true)
    (k__law_is_less : PySem.W.keepIn K (.ref f__law_is_less) = true)
    (a_law : PySem.W.nsIn K mainGlobals "law" = some (some (.ref f_law)))
    (l_law : K.lookup f_law = some ⟨oc_law, od_law, .func (PySem.W.fnOf "law" "law" (defArgs s_law) (defBody s_law) (defScope s_law) .none kV_law dc_law pm_law an_law cd_law ct_law), sl_law⟩)
    (c_law : PySem.W.codeIn K cd_law "law" = true)
    (k_law : PySem.W.keepIn K (.ref f_law) = true)
    : ∃ fd : FuncData, (∀ (s : Shared) (v : Value), BindsTo s fd ⟨[v], []⟩ [("_law_script", v)]) ∧ ∀ base : Heap, K.In base → base.Ns mainGlobals mg → FnG P w K mg base CX0 6 fa fd ["_law_script"] (spLaw K) := by
  have e := hfa.symm.trans (PySem.W.mg_of X G a_law)
  cases e
  have T0 : Tx K mg := ⟨PySem.W.mg_none_of X G n_int, PySem.W.mg_none_of X G n_len, PySem.W.mg_none_of X G n_abs, PySem.W.mg_none_of X G n_repr, PySem.W.mg_none_of X G n_isinstance, PySem.W.mg_none_of X G n_bool, PySem.W.mg_none_of X G n_str, PySem.W.mg_none_of X G n_list, PySem.W.mg_none_of X G n_tuple, PySem.W.mg_none_of X G n_range, PySem.W.mg_none_of X G n_zip, PySem.W.mg_none_of X G n_enumerate, PySem.W.mg_none_of X G n_sum, PySem.W.mg_none_of X G n_any, PySem.W.mg_none_of X G n_all, PySem.W.mg_none_of X G n_min, PySem.W.mg_none_of X G n_max, PySem.W.mg_none_of X G n_sorted⟩
  have T : TS K mg C_Share C_NoShare := ⟨T0, ⟨pg, hd, po, sa⟩, nT, nB, PySem.W.mg_of X G aC, cc, cg, ct, cm, PySem.W.mg_of X G gg, PySem.W.mg_of X G aN, xN, kN, bN, tN, iN, sN⟩
  have F_is_whole := fun_mk (st := s_is_whole) l_is_whole c_is_whole k_is_whole
  have b_is_whole := F_is_whole.binds (ps := ["thing"]) fun _ _ _ _ _ _ us hl => match us, hl with | [_], _ => rfl
  have d_is_whole : ∀ base : Heap, Df P w K mg base CX0 1 "is_whole" ["thing"] (spWhole K) := fun base => ⟨⟨_, _, PySem.W.mg_of X G a_is_whole, k_is_whole, ok_whole F_is_whole T0, b_is_whole⟩⟩
  have F_Share___init__ : FunD K "__init__" "Share.__init__" (defArgs s_Share___init__) (defBody s_Share___init__) (defScope s_Share___init__) [.int 1] [] f_Share___init__ _ := ⟨⟨_, _, _, _, _, _, _, _, _, _, rfl, l_Share___init__, c_Share___init__, .inr ⟨fun z => (nomatch z), _, _, [.int 1 tt_Share___init__], _, rfl, e_Share___init__, rfl, .cons ⟨_, rfl⟩ .nil⟩, .inl rfl⟩, k_Share___init__⟩
  obtain ⟨ds_Share___init__, v_Share___init__, b1_Share___init__⟩ := F_Share___init__.binds1 (ps := ["self", "top", "bottom"]) 2 0 (fun z => (nomatch z)) rfl fun _ _ _ _ _ _ _ us its hu hi => match us, its, hu, hi with | [_, _], [_], _, _ => ⟨_, rfl, rfl⟩
  obtain ⟨ds0_Share___init__, v0_Share___init__, b0_Share___init__⟩ := F_Share___init__.binds1 (ps := ["self", "top", "bottom"]) 3 1 (fun z => (nomatch z)) rfl fun _ _ _ _ _ _ _ us its hu hi => match us, its, hu, hi with | [_, _, _], [_], _, _ => ⟨_, rfl, rfl⟩
  cases v0_Share___init__
  have m_Share : ∀ base : Heap, Md P w K mg base (CX P w) 2 C_Share ["self", "top", "bottom"] [.int 1] (spInit C_Share C_NoShare) := fun base => ⟨⟨_, _, ds_Share___init__, ⟨mk_Share, a_Share___init__, i_Share___init__, kc_Share⟩, ok_init F_Share___init__ T (d_is_whole base), b1_Share___init__, b0_Share___init__, v_Share___init__⟩⟩
  have F__law_well := fun_mk (st := s__law_well) l__law_well c__law_well k__law_well
  have b__law_well := F__law_well.binds (ps := ["_law_cell"]) fun _ _ _ _ _ _ us hl => match us, hl with | [_], _ => rfl
  have d__law_well : ∀ base : Heap, Df P w K mg base CX0 1 "_law_well" ["_law_cell"] (spWell) := fun base => ⟨⟨_, _, PySem.W.mg_of X G a__law_well, k__law_well, ok_well F__law_well T0, b__law_well⟩⟩
  have F__law_draw := fun_mk (st := s__law_draw) l__law_draw c__law_draw k__law_draw
  have b__law_draw := F__law_draw.binds (ps := ["_law_well_here", "_law_many"]) fun _ _ _ _ _ _ us hl => match us, hl with | [_, _], _ => rfl
  have d__law_draw : ∀ base : Heap, Df P w K mg base CX0 1 "_law_draw" ["_law_well_here", "_law_many"] (spDraw) := fun base => ⟨⟨_, _, PySem.W.mg_of X G a__law_draw, k__law_draw, ok_draw F__law_draw T0, b__law_draw⟩⟩
  have F__law_one := fun_mk (st := s__law_one) l__law_one c__law_one k__law_one
  have b__law_one := F__law_one.binds (ps := ["_law_well_here", "_law_some"]) fun _ _ _ _ _ _ us hl => match us, hl with | [_, _], _ => rfl
  have d__law_one : ∀ base : Heap, Df P w K mg base CX0 2 "_law_one" ["_law_well_here", "_law_some"] (spOne K) := fun base => ⟨⟨_, _, PySem.W.mg_of X G a__law_one, k__law_one, ok_one F__law_one T0 (d__law_draw base), b__law_one⟩⟩
  have F__law_number := fun_mk (st := s__law_number) l__law_number c__law_number k__law_number
  have b__law_number := F__law_number.binds (ps := ["_law_well_here"]) fun _ _ _ _ _ _ us hl => match us, hl with | [_], _ => rfl
  have d__law_number : ∀ base : Heap, Df P w K mg base CX0 3 "_law_number" ["_law_well_here"] (spNumber) := fun base => ⟨⟨_, _, PySem.W.mg_of X G a__law_number, k__law_number, ok_number F__law_number T0 (d__law_draw base) (d__law_one base), b__law_number⟩⟩
  have F__law_fraction := fun_mk (st := s__law_fraction) l__law_fraction c__law_fraction k__law_fraction
  have b__law_fraction := F__law_fraction.binds (ps := ["_law_well_here"]) fun _ _ _ _ _ _ us hl => match us, hl with | [_], _ => rfl
  have d__law_fraction : ∀ base : Heap, Df P w K mg base CX0 4 "_law_fraction" ["_law_well_here"] (spFraction) := fun base => ⟨⟨_, _, PySem.W.mg_of X G a__law_fraction, k__law_fraction, ok_fraction F__law_fraction T0 (d__law_draw base) (d__law_number base), b__law_fraction⟩⟩
  have F__law_divisor := fun_mk (st := s__law_divisor) l__law_divisor c__law_divisor k__law_divisor
  have b__law_divisor := F__law_divisor.binds (ps := ["_law_one_here", "_law_other"]) fun _ _ _ _ _ _ us hl => match us, hl with | [_, _], _ => rfl
  have d__law_divisor : ∀ base : Heap, Df P w K mg base CX0 1 "_law_divisor" ["_law_one_here", "_law_other"] (spDivisor) := fun base => ⟨⟨_, _, PySem.W.mg_of X G a__law_divisor, k__law_divisor, ok_divisor F__law_divisor T0, b__law_divisor⟩⟩
  have F__law_lowest := fun_mk (st := s__law_lowest) l__law_lowest c__law_lowest k__law_lowest
  have b__law_lowest := F__law_lowest.binds (ps := ["_law_top", "_law_bottom"]) fun _ _ _ _ _ _ us hl => match us, hl with | [_, _], _ => rfl
  have d__law_lowest : ∀ base : Heap, Df P w K mg base CX0 2 "_law_lowest" ["_law_top", "_law_bottom"] (spLowest) := fun base => ⟨⟨_, _, PySem.W.mg_of X G a__law_lowest, k__law_lowest, ok_lowest F__law_lowest T0 (d__law_divisor base), b__law_lowest⟩⟩
  have F_less := fun_mk (st := s_less) l_less c_less k_less
  have b_less := F_less.binds (ps := ["one", "other"]) fun _ _ _ _ _ _ us hl => match us, hl with | [_, _], _ => rfl
  have d_less : ∀ base : Heap, Df P w K mg base CX0 1 "less" ["one", "other"] (spLess C_Share 4000) := fun base => ⟨⟨_, _, PySem.W.mg_of X G a_less, k_less, ok_less F_less T, b_less⟩⟩
  have F_on_one_bottom := fun_mk (st := s_on_one_bottom) l_on_one_bottom c_on_one_bottom k_on_one_bottom
  have b_on_one_bottom := F_on_one_bottom.binds (ps := ["shares"]) fun _ _ _ _ _ _ us hl => match us, hl with | [_], _ => rfl
  have d_on_one_bottom : ∀ base : Heap, Df P w K mg base CX0 1 "on_one_bottom" ["shares"] (spOne1 K C_Share) := fun base => ⟨⟨_, _, PySem.W.mg_of X G a_on_one_bottom, k_on_one_bottom, ok_one1 F_on_one_bottom T (PySem.W.mg_of X G gl), b_on_one_bottom⟩⟩
  have F_sum_of := fun_mk (st := s_sum_of) l_sum_of c_sum_of k_sum_of
  have b_sum_of := F_sum_of.binds (ps := ["shares"]) fun _ _ _ _ _ _ us hl => match us, hl with | [_], _ => rfl
  have d_sum_of : ∀ base : Heap, Df P w K mg base CX0 4 "sum_of" ["shares"] (spSum K C_Share) := fun base => ⟨⟨_, _, PySem.W.mg_of X G a_sum_of, k_sum_of, ok_sum F_sum_of T (m_Share base) (d_on_one_bottom base), b_sum_of⟩⟩
  have F__law_is := fun_mk (st := s__law_is) l__law_is c__law_is k__law_is
  have b__law_is := F__law_is.binds (ps := ["_law_share", "_law_top", "_law_bottom"]) fun _ _ _ _ _ _ us hl => match us, hl with | [_, _, _], _ => rfl
  have d__law_is : ∀ base : Heap, Dg P w K mg base CX0 3 "_law_is" ["_law_share", "_law_top", "_law_bottom"] (spIs C_Share) := fun base => ⟨⟨_, _, PySem.W.mg_of X G a__law_is, k__law_is, ok_is F__law_is T (d__law_lowest base), b__law_is⟩⟩
  have F__law_rows := fun_mk (st := s__law_rows) l__law_rows c__law_rows k__law_rows
  have b__law_rows := F__law_rows.binds (ps := ["_law_well_here"]) fun _ _ _ _ _ _ us hl => match us, hl with | [_], _ => rfl
  have d__law_rows : ∀ base : Heap, Df P w K mg base CX0 5 "_law_rows" ["_law_well_here"] (spRows) := fun base => ⟨⟨_, _, PySem.W.mg_of X G a__law_rows, k__law_rows, ok_rows F__law_rows T0 (d__law_draw base) (d__law_one base) (d__law_fraction base), b__law_rows⟩⟩
  have F__law_sum := fun_mk (st := s__law_sum) l__law_sum c__law_sum k__law_sum
  have b__law_sum := F__law_sum.binds (ps := ["_law_rows_here"]) fun _ _ _ _ _ _ us hl => match us, hl with | [_], _ => rfl
  have d__law_sum : ∀ base : Heap, Df P w K mg base CX0 1 "_law_sum" ["_law_rows_here"] (spLSum) := fun base => ⟨⟨_, _, PySem.W.mg_of X G a__law_sum, k__law_sum, ok_lsum F__law_sum T0, b__law_sum⟩⟩
  have F__law_is_less := fun_mk (st := s__law_is_less) l__law_is_less c__law_is_less k__law_is_less
  have b__law_is_less := F__law_is_less.binds (ps := ["_law_first", "_law_second"]) fun _ _ _ _ _ _ us hl => match us, hl with | [_, _], _ => rfl
  have d__law_is_less : ∀ base : Heap, Df P w K mg base CX0 3 "_law_is_less" ["_law_first", "_law_second"] (spIsLess) := fun base => ⟨⟨_, _, PySem.W.mg_of X G a__law_is_less, k__law_is_less, ok_isless F__law_is_less T0 (d__law_lowest base), b__law_is_less⟩⟩
  have F_law := fun_mk (st := s_law) l_law c_law k_law
  exact ⟨_, fun s v => .of_eq rfl, fun base _ _ => ok_law F_law T (m_Share base) (d__law_well base) (d__law_draw base) (d__law_rows base) (d_less base) (d__law_is_less base) (d__law_sum base) (d_sum_of base) (d__law_is base)⟩
end My
open PySem PySem.W PyProof.Rows in
set_option maxRecDepth 100000 in
set_option maxHeartbeats 0 in
theorem PySem.Challenge.cw_elderdraw_k04_less_and_sums_holds : PySem.Challenge.rw_elderdraw_k04_less_and_sums.Holds := by
  w_on; o_law; k_head; (case hw => w_witness2)
  k_fill
  refine My.walk_ofGK (l := PySem.Challenge.rw_elderdraw_k04_less_and_sums) (sp := My.spLaw) (k := 6) (n := 63) (x := "_law_script") rfl (by decide) rfl ⟨rfl, by decide, by decide⟩ (fun w h Y => PySem.W.kIn_of Y) (fun K H a ns hl hb _ hS => ⟨a, ns, rfl, hS, hl, fun _ => rfl⟩) ?F
  case F =>
    intro w mg fa h KX G XQ hmg
    refine' My.all_mk KX G hmg ?n_int ?n_len ?n_abs ?n_repr ?n_isinstance ?n_bool ?n_str ?n_list ?n_tuple ?n_range ?n_zip ?n_enumerate ?n_sum ?n_any ?n_all ?n_min ?n_max ?n_sorted ?aC ?aN ?pg ?hd ?po ?sa ?mk_Share ?kc_Share ?nT ?nB ?cc ?cg ?ct ?cm ?gg ?xN ?kN ?bN ?tN ?iN ?sN ?gl ?a_is_whole ?l_is_whole ?c_is_whole ?k_is_whole ?a_Share___init__ ?l_Share___init__ ?e_Share___init__ ?c_Share___init__ ?k_Share___init__ ?i_Share___init__ ?a__law_well ?l__law_well ?c__law_well ?k__law_well ?a__law_draw ?l__law_draw ?c__law_draw ?k__law_draw ?a__law_one ?l__law_one ?c__law_one ?k__law_one ?a__law_number ?l__law_number ?c__law_number ?k__law_number ?a__law_fraction ?l__law_fraction ?c__law_fraction ?k__law_fraction ?a__law_divisor ?l__law_divisor ?c__law_divisor ?k__law_divisor ?a__law_lowest ?l__law_lowest ?c__law_lowest ?k__law_lowest ?a_less ?l_less ?c_less ?k_less ?a_on_one_bottom ?l_on_one_bottom ?c_on_one_bottom ?k_on_one_bottom ?a_sum_of ?l_sum_of ?c_sum_of ?k_sum_of ?a__law_is ?l__law_is ?c__law_is ?k__law_is ?a__law_rows ?l__law_rows ?c__law_rows ?k__law_rows ?a__law_sum ?l__law_sum ?c__law_sum ?k__law_sum ?a__law_is_less ?l__law_is_less ?c__law_is_less ?k__law_is_less ?a_law ?l_law ?c_law ?k_law
    (case n_int => k_is)
    (case n_len => k_is)
    (case n_abs => k_is)
    (case n_repr => k_is)
    (case n_isinstance => k_is)
    (case n_bool => k_is)
    (case n_str => k_is)
    (case n_list => k_is)
    (case n_tuple => k_is)
    (case n_range => k_is)
    (case n_zip => k_is)
    (case n_enumerate => k_is)
    (case n_sum => k_is)
    (case n_any => k_is)
    (case n_all => k_is)
    (case n_min => k_is)
    (case n_max => k_is)
    (case n_sorted => k_is)
    (case aC => k_is)
    (case aN => k_is)
    (case pg => k_is)
    (case hd => k_is)
    (case po => k_is)
    (case sa => k_is)
    (case mk_Share => k_is)
    (case kc_Share => k_is)
    (case nT => k_is)
    (case nB => k_is)
    (case cc => k_is)
    (case cg => k_is)
    (case ct => k_is)
    (case cm => k_is)
    (case gg => k_is)
    (case xN => k_exc)
    (case kN => k_is)
    (case bN => k_is)
    (case tN => k_is)
    (case iN => k_is)
    (case sN => k_is)
    (case gl => k_is)
    (case a_is_whole => k_is)
    (case l_is_whole => k_is)
    (case c_is_whole => k_is)
    (case k_is_whole => k_is)
    (case a_Share___init__ => k_is)
    (case l_Share___init__ => k_is)
    (case e_Share___init__ => k_is)
    (case c_Share___init__ => k_is)
    (case k_Share___init__ => k_is)
    (case i_Share___init__ => k_is)
    (case a__law_well => k_is)
    (case l__law_well => k_is)
    (case c__law_well => k_is)
    (case k__law_well => k_is)
    (case a__law_draw => k_is)
    (case l__law_draw => k_is)
    (case c__law_draw => k_is)
    (case k__law_draw => k_is)
    (case a__law_one => k_is)
    (case l__law_one => k_is)
    (case c__law_one => k_is)
    (case k__law_one => k_is)
    (case a__law_number => k_is)
    (case l__law_number => k_is)
    (case c__law_number => k_is)
    (case k__law_number => k_is)
    (case a__law_fraction => k_is)
    (case l__law_fraction => k_is)
    (case c__law_fraction => k_is)
    (case k__law_fraction => k_is)
    (case a__law_divisor => k_is)
    (case l__law_divisor => k_is)
    (case c__law_divisor => k_is)
    (case k__law_divisor => k_is)
    (case a__law_lowest => k_is)
    (case l__law_lowest => k_is)
    (case c__law_lowest => k_is)
    (case k__law_lowest => k_is)
    (case a_less => k_is)
    (case l_less => k_is)
    (case c_less => k_is)
    (case k_less => k_is)
    (case a_on_one_bottom => k_is)
    (case l_on_one_bottom => k_is)
    (case c_on_one_bottom => k_is)
    (case k_on_one_bottom => k_is)
    (case a_sum_of => k_is)
    (case l_sum_of => k_is)
    (case c_sum_of => k_is)
    (case k_sum_of => k_is)
    (case a__law_is => k_is)
    (case l__law_is => k_is)
    (case c__law_is => k_is)
    (case k__law_is => k_is)
    (case a__law_rows => k_is)
    (case l__law_rows => k_is)
    (case c__law_rows => k_is)
    (case k__law_rows => k_is)
    (case a__law_sum => k_is)
    (case l__law_sum => k_is)
    (case c__law_sum => k_is)
    (case k__law_sum => k_is)
    (case a__law_is_less => k_is)
    (case l__law_is_less => k_is)
    (case c__law_is_less => k_is)
    (case k__law_is_less => k_is)
    (case a_law => k_is)
    (case l_law => k_is)
    (case c_law => k_is)
    (case k_law => k_is)
