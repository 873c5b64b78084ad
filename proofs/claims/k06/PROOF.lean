import PyProof.Rows.All
import Wide.All
import OpenK.AllK
import Wide.FinOn
import HandS.ForMost
import HandS.ForExc
import HandS.Wide
import HandS.WideBits
import HandS.Gcd
import HandS.IsInst
import HandS.FStr
import HandS.OwnEq
import HandS.ExcIs
import HandS.ExcInit
import HandS.ExcValue
import HandS.Defaults
import HandS.RaiseMore
import HandS.Flow
import HandS.Style
import HandS.Zip
import HandS.StrMore
import HandS.CallSlots
import HandS.SlotsOwn
import HandS.Evl
import HandS.TryOnly
import HandS.EndBits
import HandS.Deep
import HandS.Strs
import HandS.TryMany
import HandS.ExcField
import HandS.Hot
import HandS.HotCalls
import HandS.ExcInitHot
import KE.GoesNew
import KE.KExcIs
import KE.GoesMore
import KE.SortData
import PySem.Challenge.RW_elderdraw_k06_whole_sums_known_ahead
set_option Elab.async false
set_option linter.all false
set_option maxRecDepth 100000
set_option maxHeartbeats 4000000
namespace My
open PySem PySem.Spec PyProof.Rows L2
/-! ### numbers: operators for ints of any size that the model takes -/
section
variable {X : Cx}
def CMulA (i j : Int) : Prop := IntMulOk i j
def CDivA (_ j : Int) : Prop := j ≠ 0 ∧ j.natAbs.log2 < 9000
def rMulA : R2 := rI CMulA fun i j => .int (i * j)
def rDivA : R2 := rI CDivA fun i j => .int (i.fdiv j)
theorem op_mulA : OpR X (binaryOp .Mult) rMulA := opI fun _ _ _ _ _ _ _ hc q => mul_int q hc
theorem op_fdivA : OpR X (binaryOp .FloorDiv) rDivA := opI fun i j _ _ _ _ _ hc q => floordiv_int hc.1 q (.inl (PyProof.noPylong_of_log2 hc.2))
def rModA : R2 := rI (fun _ j => j ≠ 0) fun i j => .int (i.fmod j)
def rPowA : R2 := rI CPow fun i j => .int (i ^ j.toNat)
theorem op_modA : OpR X (binaryOp .Mod) rModA := op_modN
theorem op_powA : OpR X (binaryOp .Pow) rPowA := op_pow
def rInt : List V → Hp → VK → Prop := fun xs H Q => (∃ i, xs = [.int i] ∧ Q (.int i) H) ∨ ∃ k, xs = [.bl k] ∧ Q (.int (if k then 1 else 0)) H
theorem cr_int : CallR X (.type "int") rInt := call_int1
def rAbs : List V → Hp → VK → Prop := fun xs H Q => ∃ i, xs = [.int i] ∧ Q (.int (if i < 0 then -i else i)) H
theorem cr_abs : CallR X (.builtin "abs") rAbs := call_abs
theorem mul_r {i j : Int} (h : -(2 ^ 63) < j) (h' : j < 2 ^ 63) : CMulA i j := (show CMul i j from .inr ⟨by omega, by omega⟩).ok
theorem mul_l {i j : Int} (h : -(2 ^ 63) < i) (h' : i < 2 ^ 63) : CMulA i j := (show CMul i j from .inl ⟨by omega, by omega⟩).ok
theorem mul_b {i j : Int} {a b : Nat} (ha : i.natAbs < 2 ^ a) (hb : j.natAbs < 2 ^ b) (h : a + b ≤ 134217728) : CMulA i j := (mulx_ok ha hb h).ok
theorem div_b {i j : Int} {b : Nat} (h : j ≠ 0) (hb : j.natAbs < 2 ^ b) (h9 : b ≤ 9000) (h0 : 0 < b) : CDivA i j := ⟨h, Nat.lt_of_lt_of_le (PySem.Flt.log2_lt_of h0 hb) h9⟩
theorem div_s {i j : Int} (h : 0 < j) (h' : j < 2 ^ 63) : CDivA i j := div_b (b := 64) (by omega) (by omega) (by decide) (by decide)
theorem fdiv_pos {i j : Int} (h : 0 < j) : i.fdiv j = i / j := Int.fdiv_eq_ediv_of_nonneg i (by omega)
theorem fmod_pos {i j : Int} (h : 0 < j) : i.fmod j = i % j := Int.fmod_eq_emod_of_nonneg i (by omega)
end
section
variable {X : Cx}
def rLen (K : PySem.W.Frag) : List V → Hp → VK → Prop := fun xs H Q => ∃ p ys, xs = [.ref p] ∧ (SqL K H p ys ∨ SqT K H p ys) ∧ Q (.int ys.length) H
theorem cr_len : CallR X (.builtin "len") (rLen X.K) := call_len_seq
def rListOf (K : PySem.W.Frag) : List V → Hp → VK → Prop := fun xs H Q => ∃ p ys, xs = [.ref p] ∧ (SqL K H p ys ∨ SqT K H p ys) ∧ ∀ l, H l = none → Q (.ref l) (upd H l (.lst ys))
theorem cr_listOf : CallR X (.type "list") (rListOf X.K) := call_list_of
end
/-! ### a def that stands behind the top, and its promise -/
structure Df (P : Program) (w : World) (K : PySem.W.Frag) (mg : Str → Option Value) (base : Heap) (CX : CXT) (k : Nat) (x : Str) (ps : List Str) (sp : Sp) : Prop where
  ex : ∃ (f : Addr) (fd : FuncData), mg x = some (.ref f) ∧ PySem.W.keepIn K (.ref f) = true ∧ FnOk P w K mg base CX k f fd ps sp ∧ Binds K fd ps []
/-- a class C with an __init__: sp its promise, dvs its defaults -/
structure Md (P : Program) (w : World) (K : PySem.W.Frag) (mg : Str → Option Value) (base : Heap) (CX : CXT) (k : Nat) (C : Addr) (ps : List Str) (dvs : List V) (sp : Sp) : Prop where
  ex : ∃ (f : Addr) (fd : FuncData) (ds : List Value), Mk K C f ∧ FnOk P w K mg base CX k f fd ps sp ∧ Binds K fd ps ds ∧ Binds K fd ps [] ∧ Vals dvs ds
section
variable {X : Cx} {CX : CXT} {k : Nat} {x : Str} {ps : List Str} {sp : Sp} {E : XK} {p pos : Pos} {e : Expr} {es : List Expr} {t : TA} {C : Addr} {dvs : List V}
theorem pe_df (D : Df X.prog X.w X.K X.mg X.base CX k x ps sp) (hr : Room k X.A) (hx : Passes CX X E) (ha : PA X (e :: es) t) (hg : Gl X x := by rfl) (hdb : (x == ("__debug__" : Str)) = false := by decide)
    (he : starEach (e :: es) X.env = (false, eval e X.env) :: starEach es X.env := by rfl) (hpl : (backTo pos (starEach es X.env)).any (·.1) = false := by rfl) :
    PE X (.Call (.Name x p) (e :: es) [] pos) (tCall sp [] E t) := by
  obtain ⟨f, fd, h1, h2, h3, h4⟩ := D.ex
  exact pe_call h3 hr hg h1 h2 h4 .nil hx ha hdb he hpl
theorem pe_df0 (D : Df X.prog X.w X.K X.mg X.base CX k x ps sp) (hr : Room k X.A) (hx : Passes CX X E) (hg : Gl X x := by rfl) (hdb : (x == ("__debug__" : Str)) = false := by decide) :
    PE X (.Call (.Name x p) [] [] pos) (tCall sp [] E tNil) := by
  obtain ⟨f, fd, h1, h2, h3, h4⟩ := D.ex
  exact pe_call0 h3 hr hg h1 h2 h4 .nil hx hdb
theorem pe_dfS {ES : L2.St → XK} (D : Df X.prog X.w X.K X.mg X.base CX k x ps sp) (hr : Room k X.A) (hx : ∀ σ, PassesAt CX X σ (ES σ)) (ha : PA X (e :: es) t) (hg : Gl X x := by rfl) (hdb : (x == ("__debug__" : Str)) = false := by decide)
    (he : starEach (e :: es) X.env = (false, eval e X.env) :: starEach es X.env := by rfl) (hpl : (backTo pos (starEach es X.env)).any (·.1) = false := by rfl) :
    PE X (.Call (.Name x p) (e :: es) [] pos) (tCallS sp ES t) := by
  obtain ⟨f, fd, h1, h2, h3, h4⟩ := D.ex
  exact pe_callS h3 hr hg h1 h2 h4 hx ha hdb he hpl
theorem pe_mkd (D : Md X.prog X.w X.K X.mg X.base CX k C ps dvs sp) (hr : Room (k + 1) X.A) (hm : X.mg x = some (.ref C)) (hx : Passes CX X E) (ha : PA X (e :: es) t) (hg : Gl X x := by rfl) (hdb : (x == ("__debug__" : Str)) = false := by decide)
    (he : starEach (e :: es) X.env = (false, eval e X.env) :: starEach es X.env := by rfl) (hpl : (backTo pos (starEach es X.env)).any (·.1) = false := by rfl) :
    PE X (.Call (.Name x p) (e :: es) [] pos) (tMake C sp [] E t) := by
  obtain ⟨f, fd, ds, h1, h2, h3, h4, h5⟩ := D.ex
  exact pe_make h1 h2 hr hg hm h4 .nil hx ha hdb he hpl
/-- with its defaults -/
theorem pe_mkd1 (D : Md X.prog X.w X.K X.mg X.base CX k C ps dvs sp) (hr : Room (k + 1) X.A) (hm : X.mg x = some (.ref C)) (hx : Passes CX X E) (ha : PA X (e :: es) t) (hg : Gl X x := by rfl) (hdb : (x == ("__debug__" : Str)) = false := by decide)
    (he : starEach (e :: es) X.env = (false, eval e X.env) :: starEach es X.env := by rfl) (hpl : (backTo pos (starEach es X.env)).any (·.1) = false := by rfl) :
    PE X (.Call (.Name x p) (e :: es) [] pos) (tMake C sp dvs E t) := by
  obtain ⟨f, fd, ds, h1, h2, h3, h4, h5⟩ := D.ex
  exact pe_make h1 h2 hr hg hm h3 h5 hx ha hdb he hpl
end
/-- all parameters of a def with defaults are given -/
theorem binds_all {K : PySem.W.Frag} {x qual : Str} {params : Arguments} {body : List Stmt} {scope : Scope} {dvs : List V} {kws : List (Str × V)} {f : Addr} {fd : FuncData} {ps : List Str} (F : FunD K x qual params body scope dvs kws f fd)
    (h : ∀ (dV kV doc pm : Value) (an : Option Addr) (cdv ct : Value) (us : List Value), us.length = ps.length → bindArgs (PySem.W.fnOf x qual params body scope dV kV doc pm an cdv ct) ⟨us, []⟩ = pure (ps.zip us)) : Binds K fd ps [] := by
  obtain ⟨oc, od, dV, kV, doc, pm, an, cdv, ct, osl, rfl, _⟩ := F.ex
  exact .all fun us hl => h dV kV doc pm an cdv ct us hl
/-! ### readings, step by step -/
section
variable {D : Ends} {σ : L2.St} {H : Hp} {Q : VK} {QB : Bool → Hp → Prop} {QL : List V → Hp → Prop} {t u : TS} {te ta tb : TE} {c c1 c2 : TT} {g : TG} {tr : TA} {i j : Nat} {v x y : V} {r : R2} {K : PySem.W.Frag}
theorem rd_seq (h : t { D with nx := u D } σ H) : tSeq t u D σ H := h
theorem rd_next (h : D.nx σ H) : tNext D σ H := h
theorem rd_asg (h : te σ H fun x H1 => g x σ H1 D.nx) : tAsg te g D σ H := h
theorem rd_drop (h : te σ H fun _ H1 => D.nx σ H1) : tDrop te D σ H := h
theorem rd_ret (h : te σ H D.rt) : tRet te D σ H := h
theorem rd_retN (h : D.rt .non H) : tRetN D σ H := h
theorem rd_ifS (h : c σ H fun b H1 => if b = true then t D σ H1 else u D σ H1) : tIfS c t u D σ H := h
/-- an if whose ways meet: M holds behind it -/
theorem rd_if2 (M : L2.St → Hp → Prop) (rest : ∀ σ' H', M σ' H' → D.nx σ' H') (h : (∀ σ' H', M σ' H' → D.nx σ' H') → c σ H fun b H1 => if b = true then t D σ H1 else u D σ H1) : tIfS c t u D σ H := h rest
theorem rd_par (h : ta σ H fun x H1 => tb σ H1 fun y H2 => D.nx ((σ.set i (some x)).set j (some y)) H2) : tPar i j (tCons ta (tCons tb tNil)) D σ H := by
  refine (show ta σ H (fun x H1 => tb σ H1 fun y H2 => ∃ v w, [x, y] = [v, w] ∧ D.nx ((σ.set i (some v)).set j (some w)) H2) from ?_)
  have e : (fun (x : V) (H1 : Hp) => tb σ H1 fun y H2 => ∃ v w, [x, y] = [v, w] ∧ D.nx ((σ.set i (some v)).set j (some w)) H2) = (fun x H1 => tb σ H1 fun y H2 => D.nx ((σ.set i (some x)).set j (some y)) H2) := by
    funext x H1
    congr 1
    funext y H2
    apply propext
    constructor
    · rintro ⟨v, w, q, z⟩
      cases q
      exact z
    · intro z
      exact ⟨x, y, rfl, z⟩
  rw [e]
  exact h
theorem rd_name {Qs : L2.St → Hp → Prop} (h : Qs (σ.set i (some v)) H) : gName i v σ H Qs := h
theorem rd_var (e : σ[i]? = some (some v)) (h : Q v H) : tVar i σ H Q := ⟨v, e, h⟩
theorem rd_c (h : Q v H) : tC v σ H Q := h
theorem rd_op (h : ta σ H fun x H1 => tb σ H1 fun y H2 => r x y H2 Q) : tOp r ta tb σ H Q := h
theorem rd_un {r : V → Hp → VK → Prop} (h : ta σ H fun x H1 => r x H1 Q) : tUn r ta σ H Q := h
theorem rd_U {f : Int → V} {n : Int} (h : Q (f n) H) : rU f (.int n) H Q := ⟨n, rfl, h⟩
theorem rd_I0 {f : Int → Int → V} {a b : Int} (h : Q (f a b) H) : rI0 f (.int a) (.int b) H Q := ⟨a, b, rfl, rfl, h⟩
theorem rd_I {C : Int → Int → Prop} {f : Int → Int → V} {a b : Int} (hc : C a b) (h : Q (f a b) H) : rI C f (.int a) (.int b) H Q := ⟨a, b, rfl, rfl, hc, h⟩
def kB (Q : Bool → Hp → Prop) : VK := fun x H1 => ∃ k, x = .bl k ∧ Q k H1
theorem rd_kB {b : Bool} (h : QB b H) : kB QB (.bl b) H := ⟨b, rfl, h⟩
theorem rd_test (h : te σ H (kB QB)) : tTest te σ H QB := h
theorem rd_B (h : te σ H (kB QB)) : tB te σ H QB := h
theorem rd_and (h : c1 σ H fun b H1 => if b = true then c2 σ H1 QB else QB false H1) : tAnd c1 c2 σ H QB := h
theorem rd_or (h : c1 σ H fun b H1 => if b = true then QB true H1 else c2 σ H1 QB) : tOr c1 c2 σ H QB := h
theorem rd_not (h : c σ H fun b H1 => QB (!b) H1) : tNot c σ H QB := h
theorem rd_andV (h : ta σ H (kB fun b H1 => if b = true then tb σ H1 Q else Q (.bl false) H1)) : tAndV ta tb σ H Q := h
theorem rd_orV (h : ta σ H (kB fun b H1 => if b = true then Q (.bl true) H1 else tb σ H1 Q)) : tOrV ta tb σ H Q := h
theorem rd_notV (h : ta σ H (kB fun b H1 => Q (.bl (!b)) H1)) : tNotV ta σ H Q := h
theorem rd_if (h : c σ H fun b H1 => if b = true then ta σ H1 Q else tb σ H1 Q) : tIf c ta tb σ H Q := h
theorem rd_eq (hs : scal x y = true) (h : Q (.bl (decide (x = y))) H) : rEq x y H Q := ⟨hs, h⟩
theorem rd_ne (hs : scal x y = true) (h : Q (.bl (!decide (x = y))) H) : rNe x y H Q := ⟨hs, h⟩
theorem rd_eqI {a b : Int} (h : Q (.bl (decide (a = b))) H) : rEq (.int a) (.int b) H Q := by
  refine ⟨rfl, ?_⟩
  have e : decide (V.int a = V.int b) = decide (a = b) := by by_cases q : a = b <;> simp [q]
  rw [e]
  exact h
theorem rd_neI {a b : Int} (h : Q (.bl (!decide (a = b))) H) : rNe (.int a) (.int b) H Q := by
  refine ⟨rfl, ?_⟩
  have e : decide (V.int a = V.int b) = decide (a = b) := by by_cases q : a = b <;> simp [q]
  rw [e]
  exact h
theorem rd_cons (h : ta σ H fun x H1 => tr σ H1 fun xs H2 => QL (x :: xs) H2) : tCons ta tr σ H QL := h
theorem rd_nil (h : QL [] H) : tNil σ H QL := h
theorem rd_call {sp : Sp} {dvs : List V} {E : XK} (h : tr σ H fun vs H1 => sp (vs ++ dvs) H1 Q E) : tCall sp dvs E tr σ H Q := h
theorem rd_callS {sp : Sp} {ES : L2.St → XK} (h : tr σ H fun vs H1 => sp vs H1 Q (ES σ)) : tCallS sp ES tr σ H Q := h
def kMake (C : Addr) (sp : Sp) (dvs : List V) (E : XK) (Q : VK) : List V → Hp → Prop := fun vs H1 => ∀ x dx, H1 x = none → H1 dx = none → dx ≠ x → sp (.ref x :: (vs ++ dvs)) (upd (upd H1 dx (.own x)) x (.ins C dx [])) (fun v H2 => v = .non ∧ Q (.ref x) H2) E
theorem rd_make {sp : Sp} {dvs : List V} {E : XK} {C : Addr} (h : tr σ H (kMake C sp dvs E Q)) : tMake C sp dvs E tr σ H Q := h
theorem rd_CB {r : List V → Hp → VK → Prop} (h : tr σ H fun vs H1 => r vs H1 Q) : tCB r tr σ H Q := h
def kTup (Q : VK) : List V → Hp → Prop := fun xs H1 => xs.length ≤ sizeLine ∧ ∀ p, H1 p = none → Q (.ref p) (upd H1 p (.tup xs))
def kLst (Q : VK) : List V → Hp → Prop := fun xs H1 => xs.length ≤ sizeLine ∧ ∀ p, H1 p = none → Q (.ref p) (upd H1 p (.lst xs))
theorem rd_tup (h : tr σ H (kTup Q)) : tTup tr σ H Q := h
theorem rd_lst (h : tr σ H (kLst Q)) : tLst tr σ H Q := h
theorem rd_kTup {xs : List V} (hl : Nat.ble xs.length 1000 = true) (h : ∀ p, H p = none → Q (.ref p) (upd H p (.tup xs))) : kTup Q xs H := ⟨Nat.le_trans (Nat.le_of_ble_eq_true hl) (by decide), h⟩
theorem rd_kLst {xs : List V} (hl : Nat.ble xs.length 1000 = true) (h : ∀ p, H p = none → Q (.ref p) (upd H p (.lst xs))) : kLst Q xs H := ⟨Nat.le_trans (Nat.le_of_ble_eq_true hl) (by decide), h⟩
theorem rd_ixL {p : Addr} {xs : List V} {n : Int} (hl : SqL K H p xs) (ha : atI xs n = some v) (h : Q v H) : rIxL K (.ref p) (.int n) H Q := ⟨p, xs, n, v, rfl, rfl, hl, ha, h⟩
theorem rd_ixT {p : Addr} {xs : List V} {n : Int} (hl : SqT K H p xs) (ha : atI xs n = some v) (h : Q v H) : rIxT K (.ref p) (.int n) H Q := ⟨p, xs, n, v, rfl, rfl, hl, ha, h⟩
theorem rd_mul {a b : Int} (hc : CMulA a b) (h : Q (.int (a * b)) H) : rMulA (.int a) (.int b) H Q := ⟨a, b, rfl, rfl, hc, h⟩
theorem rd_div {a b : Int} (hc : CDivA a b) (h : Q (.int (a.fdiv b)) H) : rDivA (.int a) (.int b) H Q := ⟨a, b, rfl, rfl, hc, h⟩
theorem rd_divP {a b : Int} (h0 : 0 < b) (hc : CDivA a b) (h : Q (.int (a / b)) H) : rDivA (.int a) (.int b) H Q := ⟨a, b, rfl, rfl, hc, (show Q (.int (a.fdiv b)) H by rw [fdiv_pos h0]; exact h)⟩
theorem rd_mod {a b : Int} (hc : b ≠ 0) (h : Q (.int (a.fmod b)) H) : rModA (.int a) (.int b) H Q := ⟨a, b, rfl, rfl, hc, h⟩
theorem rd_modP {a b : Int} (h0 : 0 < b) (h : Q (.int (a % b)) H) : rModA (.int a) (.int b) H Q := ⟨a, b, rfl, rfl, (by omega : b ≠ 0), (show Q (.int (a.fmod b)) H by rw [fmod_pos h0]; exact h)⟩
theorem rd_pow {a b : Int} (h0 : 0 ≤ b) (h1 : b ≤ 1000000) (h2 : a.natAbs < 2 ^ 64) (h : Q (.int (a ^ b.toNat)) H) : rPowA (.int a) (.int b) H Q := ⟨a, b, rfl, rfl, ⟨h0, h1, h2⟩, h⟩
theorem rd_int {a : Int} (h : Q (.int a) H) : rInt [.int a] H Q := .inl ⟨a, rfl, h⟩
theorem rd_intB {b : Bool} (h : Q (.int (if b then 1 else 0)) H) : rInt [.bl b] H Q := .inr ⟨b, rfl, h⟩
theorem rd_abs {a : Int} (h : Q (.int (if a < 0 then -a else a)) H) : rAbs [.int a] H Q := ⟨a, rfl, h⟩
theorem ite_d {p : Prop} [Decidable p] {A B : Prop} (h1 : p → A) (h2 : ¬ p → B) : if decide p = true then A else B := by
  by_cases h : p
  · rw [if_pos (decide_eq_true h)]; exact h1 h
  · rw [if_neg (by simp [h])]; exact h2 h
theorem ite_nd {p : Prop} [Decidable p] {A B : Prop} (h1 : ¬ p → A) (h2 : p → B) : if (!decide p) = true then A else B := by
  by_cases h : p
  · rw [if_neg (by simp [h])]; exact h2 h
  · rw [if_pos (by simp [h])]; exact h1 h
theorem ite_b {b : Bool} {A B : Prop} (h1 : b = true → A) (h2 : b = false → B) : if b = true then A else B := by
  cases b with
  | true => exact iteT (h1 rfl)
  | false => exact iteF (h2 rfl)
theorem rd_len {p : Addr} {ys : List V} (h : SqL K H p ys) (q : Q (.int ys.length) H) : rLen K [.ref p] H Q := ⟨p, ys, rfl, .inl h, q⟩
theorem rd_lenT {p : Addr} {ys : List V} (h : SqT K H p ys) (q : Q (.int ys.length) H) : rLen K [.ref p] H Q := ⟨p, ys, rfl, .inr h, q⟩
theorem rd_listOf {p : Addr} {ys : List V} (h : SqL K H p ys) (k : ∀ l, H l = none → Q (.ref l) (upd H l (.lst ys))) : rListOf K [.ref p] H Q := ⟨p, ys, rfl, .inl h, k⟩
theorem rd_sum {p : Addr} {ns : List Int} (h : SqL K H p (ns.map V.int)) (hz : ns.length ≤ 100000) (k : Q (.int ns.sum) H) : rSum K [.ref p] H Q := by
  refine ⟨p, ns, rfl, ?_⟩
  first | exact ⟨.inl h, k⟩ | exact ⟨h, k⟩ | exact ⟨h, Nat.le_trans hz (by decide), k⟩ | exact ⟨.inl h, Nat.le_trans hz (by decide), k⟩
def kFld (K : PySem.W.Frag) (f : Str) (Q : VK) : VK := fun x H1 => ∃ a C dx fs v, x = .ref a ∧ H1 a = some (.ins C dx fs) ∧ Cls K C ∧ NoAttr K C f ∧ fs.lookup f = some v ∧ Q v H1
theorem rd_fld {f : Str} (h : ta σ H (kFld K f Q)) : tFld K ta f σ H Q := h
theorem rd_kFld {f : Str} {a C dx : Addr} {fs : List (Str × V)} (ho : H a = some (.ins C dx fs)) (c : Cls K C) (n : NoAttr K C f) (l : fs.lookup f = some v) (q : Q v H) : kFld K f Q (.ref a) H := ⟨a, C, dx, fs, v, rfl, ho, c, n, l, q⟩
def kSet (K : PySem.W.Frag) (f : Str) (y : V) (N : Hp → Prop) : VK := fun x H2 => ∃ a C dx fs, x = .ref a ∧ H2 a = some (.ins C dx fs) ∧ Cls K C ∧ NoAttr K C f ∧ fs.length < 1000 ∧ N (upd H2 a (.ins C dx (putF f y fs)))
theorem rd_sfld {f : Str} {tv : TE} (h : tv σ H fun y H1 => ta σ H1 (kSet K f y (D.nx σ))) : sFld K ta tv f D σ H := h
theorem rd_kSet {f : Str} {N : Hp → Prop} {a C dx : Addr} {fs : List (Str × V)} (ho : H a = some (.ins C dx fs)) (c : Cls K C) (n : NoAttr K C f) (l : Nat.blt fs.length 1000 = true) (q : N (upd H a (.ins C dx (putF f y fs)))) : kSet K f y N (.ref a) H := ⟨a, C, dx, fs, rfl, ho, c, n, (by have z : fs.length + 1 ≤ 1000 := Nat.le_of_ble_eq_true l; exact z), q⟩
theorem rd_isi {z c : V} {tt uu : Value} {b : Bool} (k : ClsV c uu) (ty : TyX K H z tt) (e : PySem.W.kitOne K tt uu = some b) (q : Q (.bl b) H) : rIsi K [z, c] H Q := ⟨z, c, tt, uu, b, rfl, k, ty, e, q⟩
theorem rd_gcd {a b : Int} (q : Q (.int ((Nat.gcd a.natAbs b.natAbs : Nat) : Int)) H) : rGcd [.int a, .int b] H Q := ⟨a, b, rfl, q⟩
theorem rd_powC {a b n : Int} (h0 : 0 ≤ b) (h1 : b ≤ 1000000) (h2 : a.natAbs < 2 ^ 64) (e : a ^ b.toNat = n) (h : Q (.int n) H) : rPowA (.int a) (.int b) H Q := ⟨a, b, rfl, rfl, ⟨h0, h1, h2⟩, by subst e; exact h⟩
theorem rd_gtup {ts : TGs} {n : Nat} {Qs : L2.St → Hp → Prop} {p : Addr} {xs : List V} (hs : SqT K H p xs) (hn : xs.length = n) (h : ts xs σ H Qs) : gTup K n ts (.ref p) σ H Qs := ⟨p, xs, rfl, hs, hn, h⟩
theorem rd_gcons {ts : TGs} {xs : List V} {Qs : L2.St → Hp → Prop} (h : g x σ H fun σ' H' => ts xs σ' H' Qs) : gCons g ts (x :: xs) σ H Qs := ⟨x, xs, rfl, h⟩
theorem rd_gnil {Qs : L2.St → Hp → Prop} (h : Qs σ H) : gNil [] σ H Qs := ⟨rfl, h⟩
theorem kit_same {t : Value} (h : (t == t) = true := by rfl) : PySem.W.kitOne K t t = some true := if_pos h
theorem rd_cat {l b : Addr} {xs zs : List V} (h1 : H l = some (.lst xs)) (h2 : H b = some (.lst zs)) (hz : xs.length + zs.length ≤ 100000) (k : ∀ p, H p = none → Q (.ref p) (upd H p (.lst (xs ++ zs)))) : rCat (.ref l) (.ref b) H Q :=
  ⟨l, b, xs, zs, rfl, rfl, h1, h2, Nat.le_trans hz (by decide), k⟩
theorem rd_sl {r : V → Option Int → Option Int → Hp → VK → Prop} {tl th : TO} (h : te σ H fun x H1 => tl σ H1 fun l H2 => th σ H2 fun u H3 => r x l u H3 Q) : tSl r te tl th σ H Q := h
theorem rd_noPart {QO : Option Int → Hp → Prop} (h : QO none H) : tNoPart σ H QO := h
def kPart (QO : Option Int → Hp → Prop) : VK := fun x H1 => ∃ i, x = .int i ∧ QO (some i) H1
theorem rd_part {QO : Option Int → Hp → Prop} (h : te σ H (kPart QO)) : tPart te σ H QO := h
theorem rd_kPart {QO : Option Int → Hp → Prop} {n : Int} (h : QO (some n) H) : kPart QO (.int n) H := ⟨n, rfl, h⟩
theorem rd_slL {a : Addr} {xs : List V} {lo hi : Option Int} (hs : SqL K H a xs) (k : ∀ p, H p = none → Q (.ref p) (upd H p (.lst (cutV xs lo hi)))) : rSlL K (.ref a) lo hi H Q := ⟨a, xs, rfl, hs, k⟩
def kFor (K : PySem.W.Frag) (g : TG) (tb : TS) (D : Ends) (σ : L2.St) : VK := fun x H1 => ∃ a, x = .ref a ∧ (∃ xs, SqL K H1 a xs) ∧ ∃ W : Nat → Nat → L2.St → Hp → Prop, (∃ m, W 0 m σ H1) ∧ ∀ i m σ H, W i m σ H →
  ((Itl K a).stop i H ∧ D.nx σ H) ∨ ((Itl K a).go i H ∧ ∃ N : L2.St → Hp → Prop, (∀ σ' H', N σ' H' → ∃ m', m' < m ∧ W (i + 1) m' σ' H') ∧ ∀ x H', (Itl K a).yld i H x H' → g x σ H' fun σ2 H2 => tb { D with nx := N, ct := N, bk := D.nx } σ2 H2)
theorem rd_for {tb : TS} (h : te σ H (kFor K g tb D σ)) : tFor (iList K te) g tb D σ H := h
theorem rd_kFor {tb : TS} {a : Addr} {xs : List V} (Pv : Nat → L2.St → Hp → Prop) (hq : SqL K H a xs) (h0 : Pv 0 σ H) (hl : ∀ i σ H, i ≤ xs.length → Pv i σ H → SqL K H a xs)
    (hs : ∀ i x σ H, xs[i]? = some x → Pv i σ H → g x σ H fun σ2 H2 => tb { D with nx := Pv (i + 1), ct := Pv (i + 1), bk := D.nx } σ2 H2) (hd : ∀ σ H, Pv xs.length σ H → D.nx σ H) : kFor K g tb D σ (.ref a) H := ⟨a, rfl, ⟨xs, hq⟩, for_list Pv h0 hl hs hd⟩
/-- a list made item by item, without a test; J i acc D H: i items are done, acc stands at D -/
def kLc (K : PySem.W.Frag) (g : TG) (te : TE) (vs : List Nat) (σ : L2.St) (Q : VK) : VK := fun x H1 => ∃ a, x = .ref a ∧ (∃ xs, SqL K H1 a xs) ∧ ∀ D, H1 D = none → ∃ W : Nat → Nat → Hp → Prop, (∃ m, W 0 m (upd H1 D (.lst []))) ∧ ∀ i m H, W i m H →
  ((Itl K a).stop i H ∧ Q (.ref D) H) ∨ ((Itl K a).go i H ∧ ∃ Nx : Hp → Prop, (∀ H', Nx H' → ∃ m', m' < m ∧ W (i + 1) m' H') ∧ ∀ x H', (Itl K a).yld i H x H' → g x (wipe σ vs) H' fun σ2 H2 => wipe σ2 vs = wipe σ vs ∧ tYes σ2 H2 fun b H3 =>
    if b = true then te σ2 H3 fun y H4 => ∃ acc, H4 D = some (.lst acc) ∧ acc.length < sizeLine ∧ Nx (upd H4 D (.lst (acc ++ [y]))) else Nx H3)
theorem rd_lc {vs : List Nat} (h : ta σ H (kLc K g te vs σ Q)) : tLc (iList K ta) g tYes te vs σ H Q := h
def kLcEnd (J : Nat → List V → Addr → Hp → Prop) (D : Addr) (i : Nat) : VK := fun y H4 => ∃ acc, H4 D = some (.lst acc) ∧ acc.length < sizeLine ∧ ∃ acc2, acc2.length = i + 1 ∧ upd H4 D (.lst (acc ++ [y])) D = some (.lst acc2) ∧ J (i + 1) acc2 D (upd H4 D (.lst (acc ++ [y])))
theorem rd_lcEnd {J : Nat → List V → Addr → Hp → Prop} {D : Addr} {i : Nat} {acc : List V} {y : V} (h1 : H D = some (.lst acc)) (h2 : acc.length = i) (hz : i < 200000) (h3 : J (i + 1) (acc ++ [y]) D (upd H D (.lst (acc ++ [y])))) : kLcEnd J D i y H :=
  ⟨acc, h1, by rw [h2]; exact Nat.lt_trans hz (by decide), acc ++ [y], by rw [List.length_append, h2]; rfl, upd_same, h3⟩
theorem rd_kLc {vs : List Nat} {a : Addr} {xs : List V} (J : Nat → List V → Addr → Hp → Prop) (hq : SqL K H a xs) (h0 : ∀ D, H D = none → J 0 [] D (upd H D (.lst []))) (hl : ∀ i acc D H', J i acc D H' → SqL K H' a xs)
    (hs : ∀ i x acc D H', H D = none → i < xs.length → xs[i]? = some x → H' D = some (.lst acc) → acc.length = i → J i acc D H' → g x (wipe σ vs) H' fun σ2 H2 => wipe σ2 vs = wipe σ vs ∧ te σ2 H2 (kLcEnd J D i))
    (mono : ∀ x H' (Q1 Q2 : L2.St → Hp → Prop), (∀ s h, Q1 s h → Q2 s h) → g x (wipe σ vs) H' Q1 → g x (wipe σ vs) H' Q2)
    (hd : ∀ acc D H', H D = none → acc.length = xs.length → H' D = some (.lst acc) → J xs.length acc D H' → Q (.ref D) H') : kLc K g te vs σ Q (.ref a) H := by
  refine ⟨a, rfl, ⟨xs, hq⟩, fun D hD => ?_⟩
  refine lc_list (fun i H' => ∃ acc, acc.length = i ∧ H' D = some (.lst acc) ∧ J i acc D H') ⟨[], rfl, upd_same, h0 D hD⟩ (fun i H' _ ⟨acc, _, _, j⟩ => hl i acc D H' j) ?_ fun H' ⟨acc, e, h, j⟩ => hd acc D H' hD e h j
  rintro i x H' hx ⟨acc, e, h, j⟩
  refine mono x H' _ _ (fun s h' z => ?_) (hs i x acc D H' hD (List.getElem?_eq_some_iff.mp hx).1 hx h e j)
  refine ⟨z.1, ?_⟩
  unfold tYes
  dsimp only
  rw [if_pos rfl]
  exact z.2
theorem g_mono (i : Nat) (vs : List Nat) : ∀ x H' (Q1 Q2 : L2.St → Hp → Prop), (∀ s h, Q1 s h → Q2 s h) → gName i x (wipe σ vs) H' Q1 → gName i x (wipe σ vs) H' Q2 := fun _ _ _ _ f q => f _ _ q
def rRevL (K : PySem.W.Frag) (Q : VK) : VK := fun x H1 => ∃ a xs, x = .ref a ∧ SqL K H1 a xs ∧ ∀ p, H1 p = none → Q (.ref p) (upd H1 p (.lst xs.reverse))
theorem rd_rev (h : te σ H (rRevL K Q)) : tRevL K te σ H Q := h
theorem rd_kRev {a : Addr} {xs : List V} (hq : SqL K H a xs) (k : ∀ p, H p = none → Q (.ref p) (upd H p (.lst xs.reverse))) : rRevL K Q (.ref a) H := ⟨a, xs, rfl, hq, k⟩
def kRng1 (g : TG) (tb : TS) (D : Ends) (σ : L2.St) : List V → Hp → Prop := fun vs H1 => ∃ j : Int, vs = [.int j] ∧ -(2 ^ 62) ≤ j ∧ j < 2 ^ 62 ∧ ∃ W : Nat → Nat → L2.St → Hp → Prop, (∃ m, W 0 m σ H1) ∧ ∀ i m σ H, W i m σ H →
  ((Itr 0 j.toNat).stop i H ∧ D.nx σ H) ∨ ((Itr 0 j.toNat).go i H ∧ ∃ N : L2.St → Hp → Prop, (∀ σ' H', N σ' H' → ∃ m', m' < m ∧ W (i + 1) m' σ' H') ∧ ∀ x H', (Itr 0 j.toNat).yld i H x H' → g x σ H' fun σ2 H2 => tb { D with nx := N, ct := N, bk := D.nx } σ2 H2)
theorem rd_forR {tb : TS} (h : tr σ H (kRng1 g tb D σ)) : tFor (iRng1 tr) g tb D σ H := h
theorem rd_kRng1 {tb : TS} {j : Int} (h1 : -(2 ^ 62) ≤ j) (h2 : j < 2 ^ 62) (Pv : Nat → L2.St → Hp → Prop) (h0 : Pv 0 σ H)
    (hs : ∀ i σ H, i < j.toNat → Pv i σ H → g (.int (0 + i)) σ H fun σ2 H2 => tb { D with nx := Pv (i + 1), ct := Pv (i + 1), bk := D.nx } σ2 H2) (hd : ∀ σ H, Pv j.toNat σ H → D.nx σ H) : kRng1 g tb D σ [.int j] H := ⟨j, rfl, h1, h2, for_range (lo := 0) (n := j.toNat) Pv h0 hs hd⟩
def kRng2 (g : TG) (tb : TS) (D : Ends) (σ : L2.St) : List V → Hp → Prop := fun vs H1 => ∃ i j : Int, vs = [.int i, .int j] ∧ (-(2 ^ 62) ≤ i ∧ i < 2 ^ 62 ∧ -(2 ^ 62) ≤ j ∧ j < 2 ^ 62) ∧ ∃ W : Nat → Nat → L2.St → Hp → Prop, (∃ m, W 0 m σ H1) ∧ ∀ k m σ H, W k m σ H →
  ((Itr i (j - i).toNat).stop k H ∧ D.nx σ H) ∨ ((Itr i (j - i).toNat).go k H ∧ ∃ N : L2.St → Hp → Prop, (∀ σ' H', N σ' H' → ∃ m', m' < m ∧ W (k + 1) m' σ' H') ∧ ∀ x H', (Itr i (j - i).toNat).yld k H x H' → g x σ H' fun σ2 H2 => tb { D with nx := N, ct := N, bk := D.nx } σ2 H2)
theorem rd_forR2 {tb : TS} (h : tr σ H (kRng2 g tb D σ)) : tFor (iRng2 tr) g tb D σ H := h
theorem rd_kRng2 {tb : TS} {a b : Int} (h1 : -(2 ^ 62) ≤ a ∧ a < 2 ^ 62 ∧ -(2 ^ 62) ≤ b ∧ b < 2 ^ 62) (Pv : Nat → L2.St → Hp → Prop) (h0 : Pv 0 σ H)
    (hs : ∀ i σ H, i < (b - a).toNat → Pv i σ H → g (.int (a + i)) σ H fun σ2 H2 => tb { D with nx := Pv (i + 1), ct := Pv (i + 1), bk := D.nx } σ2 H2) (hd : ∀ σ H, Pv (b - a).toNat σ H → D.nx σ H) : kRng2 g tb D σ [.int a, .int b] H := ⟨a, b, rfl, h1, for_range (lo := a) (n := (b - a).toNat) Pv h0 hs hd⟩
theorem rd_glst {ts : TGs} {n : Nat} {Qs : L2.St → Hp → Prop} {p : Addr} {xs : List V} (hs : SqL K H p xs) (hn : xs.length = n) (h : ts xs σ H Qs) : gLst K n ts (.ref p) σ H Qs := ⟨p, xs, rfl, hs, hn, h⟩
theorem rd_rep {l : Addr} {xs : List V} {k : Int} (h : H l = some (.lst xs)) (h1 : 0 ≤ k) (h2 : k ≤ 100000) (h3 : xs.length * k.toNat ≤ 1000000) (q : ∀ p, H p = none → Q (.ref p) (upd H p (.lst (List.replicate k.toNat xs).flatten))) : rRep (.ref l) (.int k) H Q :=
  ⟨l, k, xs, rfl, rfl, h, by omega, by omega, Nat.le_trans h3 (by decide), q⟩
def kApp (l : Addr) (Q : VK) : VK := fun y H2 => ∃ xs, H2 l = some (.lst xs) ∧ xs.length < sizeLine ∧ Q .non (upd H2 l (.lst (xs ++ [y])))
theorem rd_app {i : Nat} {l : Addr} {xs : List V} (e : σ[i]? = some (some (.ref l))) (hl : H l = some (.lst xs)) (h : te σ H (kApp l Q)) : tBM K "list" rAppend (tVar i) (tCons te tNil) σ H Q := by
  refine ⟨.ref l, e, .inl ⟨rfl, _, SqL.of hl⟩, ?_⟩
  have q : (fun (x : V) (H1 : Hp) => rAppend (.ref l) [x] H1 Q) = kApp l Q := by
    funext y H2
    apply propext
    constructor
    · rintro ⟨l', xs, y', e1, e2, a, b, c⟩
      cases e1
      cases e2
      exact ⟨xs, a, b, c⟩
    · rintro ⟨xs, a, b, c⟩
      exact ⟨l, xs, y, rfl, rfl, a, b, c⟩
  show te σ H (fun (x : V) (H1 : Hp) => rAppend (.ref l) [x] H1 Q)
  rw [q]
  exact h
theorem rd_kApp {l : Addr} {xs : List V} {y : V} (h : H l = some (.lst xs)) (hz : xs.length < 100000) (k : Q .non (upd H l (.lst (xs ++ [y])))) : kApp l Q y H := ⟨xs, h, Nat.lt_trans hz (by decide), k⟩
theorem rd_int1 {a : Int} (h : Q (.int a) H) : (∃ i, [V.int a] = [.int i] ∧ Q (.int i) H) ∨ ∃ k, [V.int a] = [.bl k] ∧ Q (.int (if k then 1 else 0)) H := .inl ⟨a, rfl, h⟩
theorem rd_int1b {b : Bool} (h : Q (.int (if b then 1 else 0)) H) : (∃ i, [V.bl b] = [.int i] ∧ Q (.int i) H) ∨ ∃ k, [V.bl b] = [.bl k] ∧ Q (.int (if k then 1 else 0)) H := .inr ⟨b, rfl, h⟩
theorem rd_sub {to ti : TE} {ts : TSet} {Qs : L2.St → Hp → Prop} (h : to σ H fun o H1 => ti σ H1 fun i H2 => ts o i v H2 fun H3 => Qs σ H3) : gSub to ti ts v σ H Qs := h
theorem rd_setL {p : Addr} {xs : List V} {n : Int} {j : Nat} {QH : Hp → Prop} (hl : H p = some (.lst xs)) (hj : ixN xs.length n = some j) (h : QH (upd H p (.lst (xs.set j v)))) : rSetL (.ref p) (.int n) v H QH := ⟨p, xs, n, j, rfl, rfl, hl, hj, h⟩
end
/-- a step of a reading -/
local macro_rules | `(tactic| walk_at "rd") => `(tactic| with_reducible (first
  | refine rd_seq ?_ | refine rd_var rfl ?_ | refine rd_op ?_ | refine rd_c ?_ | refine rd_asg ?_ | refine rd_name ?_ | refine rd_I0 ?_ | refine rd_ifS ?_ | refine rd_test ?_ | refine rd_kB ?_
  | refine rd_ret ?_ | refine rd_cons ?_ | refine rd_nil ?_ | refine rd_call ?_ | refine rd_make ?_ | refine rd_CB ?_ | refine rd_par ?_ | refine rd_lst ?_ | refine rd_tup ?_ | refine rd_un ?_ | refine rd_U ?_
  | refine rd_eqI ?_ | refine rd_neI ?_ | refine rd_and ?_ | refine rd_or ?_ | refine rd_not ?_ | refine rd_B ?_ | refine rd_andV ?_ | refine rd_orV ?_ | refine rd_notV ?_ | refine rd_if ?_ | refine rd_drop ?_ | refine rd_next ?_ | refine rd_retN ?_ | refine rd_sub ?_))
end My
set_option Elab.async false
set_option linter.all false
namespace My
open PySem PySem.Spec PyProof.Rows L2
/-! ### defs whose promise wants that no repr is under way (guards) -/
theorem deeper_guards (A : Around) (env : Env) : (A.deeper env).guards = A.guards := rfl
structure FnG (P : Program) (w : World) (K : PySem.W.Frag) (mg : Str → Option Value) (base : Heap) (CX : CXT) (k : Nat) (f : Addr) (fd : FuncData) (ps : List Str) (sp : Sp) : Prop where
  many : ∀ vs H Q E, sp vs H Q E → vs.length = ps.length
  goes : ∀ A : Around, A.guards = some [] → Room k A → ∀ (outer : List Env) (s : Shared) (H : Hp), Env0 P w K mg base A outer s H → ∀ (given : Args) (us : List Value) (vs : List V), BindsTo s fd given (ps.zip us) → Vals vs us → ∀ (Q : VK) (E : XK), sp vs H Q E →
    codeAny (model P w) A (.call (.ref f) given) (CR CX outer P w H s Q E) s
section
variable {P : Program} {w : World} {K : PySem.W.Frag} {mg : Str → Option Value} {base : Heap} {CX : CXT} {k : Nat} {f : Addr} {fd : FuncData} {ps : List Str} {sp : Sp}
theorem FnG.of (F : FnOk P w K mg base CX k f fd ps sp) : FnG P w K mg base CX k f fd ps sp :=
  ⟨F.len, fun A _ hr outer s H e0 given us vs hb hv Q E h => F.run A outer s H given us vs Q E hr e0 hb hv h⟩
/-- the rule for a def, its body as a term, with the guards told -/
theorem okG_any {x qual : Str} {st : Stmt} {N : List Str} (F : Fun K x qual st f fd) (S : FnScope N ps (defScope st)) (many : ∀ vs H Q E, sp vs H Q E → vs.length = ps.length)
    (hb : ∀ (cdv : Value) (A : Around) (outer : List Env) (s : Shared) (H : Hp) (vs : List V) (Q : VK) (E : XK), A.guards = some [] → Room k (A.deeper (envOfC qual (defScope st) s.heap.objs.size f cdv)) → sp vs H Q E →
      ∃ t, PSs (cxOf CX P w K mg base N qual (defScope st) f cdv A outer s H E) (defBody st) t ∧ t { nx := fun _ H' => Q .non H', rt := Q } (start N vs) H) : FnG P w K mg base CX (k + 1) f fd ps sp := by
  obtain ⟨oc, od, kV, doc, pm, an, cdv, ct, osl, rfl, lk, hcd⟩ := F.ex
  constructor
  · exact many
  intro A hgu hr outer s H e0 given us vs hbd r Q E hsp
  have inK : K.In s.heap := e0.mod.kin.keeps (fun b o q => (e0.bs b o q).1)
  have noL : s.heap.NoLimit := e0.mod.nolimit.keeps (fun b o q => (e0.bs b o q).1)
  have kinds : ∀ y ∈ ps.zip us, (defScope st).names.lookup y.1 = some .local ∨ ((defScope st).names.lookup y.1 = some .cell ∧ ((cellsFrom (s.heap.objs.size + 1) (defScope st).names []).lookup y.1).isSome = true) := by
    rintro ⟨n, v⟩ hy
    cases S.par n (List.of_mem_zip hy).1 with
    | inl q => exact Or.inl q
    | inr q => exact Or.inr ⟨q, PySem.W.cellsFrom_some _ _ _ (Or.inl q)⟩
  apply codeAny_call_function hr.depth (inK _ _ lk) rfl S.co S.gen rfl (PySem.W.codeRec_of inK hcd) (hbd _ _ _ _ _)
  apply wpAny_newFunctionEnv_cells S.kind kinds
  intro env he s1 z
  subst he
  refine And.intro (noL.keeps z.toInCall.keep) (codeAny_func ?_)
  obtain ⟨t, ht, hq⟩ := hb cdv A outer s H vs Q E hgu (hr.deeper _) hsp
  have I0 := inv_start (CX := CX) (E := E) S hr.hd e0 (many _ _ _ _ hsp) r z
  refine wpAny_mono (ht.run [] s1 (start N vs) H _ I0 hq) ?_ (fun _ _ q => q)
  intro fl s' hs
  cases fl with
  | brk => exact hs.elim fun _ a => a.elim fun _ b => (b.2 : False).elim
  | cont => exact hs.elim fun _ a => a.elim fun _ b => (b.2 : False).elim
  | next =>
    obtain ⟨σ', H', J, q⟩ := hs
    exact (⟨V.non, H', J.os, J.bare, J.base, J.hok, rfl, q⟩ : CE outer P w H s Q Value.none s')
  | ret u =>
    obtain ⟨v, σ', H', J, rv, q⟩ := hs
    exact (⟨v, H', J.os, J.bare, J.base, J.hok, rv, q⟩ : CE outer P w H s Q u s')
/-- .. that lets nothing out -/
theorem okG {x qual : Str} {st : Stmt} {N : List Str} (F : Fun K x qual st f fd) (S : FnScope N ps (defScope st)) (many : ∀ vs H Q E, sp vs H Q E → vs.length = ps.length)
    (hb : ∀ (cdv : Value) (A : Around) (outer : List Env) (s : Shared) (H : Hp) (vs : List V) (Q : VK) (E : XK), A.guards = some [] → Room k (A.deeper (envOfC qual (defScope st) s.heap.objs.size f cdv)) → sp vs H Q E →
      ∃ t, PSs (cxOf CX P w K mg base N qual (defScope st) f cdv A outer s H E).nox (defBody st) t ∧ t { nx := fun _ H' => Q .non H', rt := Q } (start N vs) H) : FnG P w K mg base CX (k + 1) f fd ps sp :=
  okG_any F S many fun cdv A outer s H vs Q E hg hr h => by
    obtain ⟨t, a, b⟩ := hb cdv A outer s H vs Q E hg hr h
    exact ⟨t, a.nox, b⟩
end
structure Dg (P : Program) (w : World) (K : PySem.W.Frag) (mg : Str → Option Value) (base : Heap) (CX : CXT) (k : Nat) (x : Str) (ps : List Str) (sp : Sp) : Prop where
  ex : ∃ (f : Addr) (fd : FuncData), mg x = some (.ref f) ∧ PySem.W.keepIn K (.ref f) = true ∧ FnG P w K mg base CX k f fd ps sp ∧ Binds K fd ps []
section
variable {X : Cx} {CX : CXT} {k : Nat} {x : Str} {f : Addr} {fd : FuncData} {ps : List Str} {sp : Sp} {E : XK} {p pos : Pos} {e : Expr} {es : List Expr} {t : TA}
theorem run_G {pins : List (Addr × Obj)} {σ : L2.St} {H : Hp} {s : Shared} {Q : VK} {us : List Value} {vs : List V} (F : FnG X.prog X.w X.K X.mg X.base CX k f fd ps sp) (hr : Room k X.A) (hg : X.A.guards = some []) (hb : Binds X.K fd ps []) (hx : Passes CX X E)
    (I : Inv X pins σ H s) (r : Vals vs us) (h : sp vs H Q E) : wpAny (model X.prog X.w) X.A (call (.ref f) us) (EP X pins σ Q) X.xe s := by
  have n : us.length = ps.length := r.length.symm.trans (F.many _ _ _ _ h)
  have bd := hb s us I.kIn (by rw [List.append_nil]; exact n)
  rw [List.append_nil] at bd
  refine wpAny_call (codeAny_mono (F.goes X.A hg hr X.stack s H I.env0 _ us vs bd r Q E h) ?_)
  intro r s' hq
  match r, hq with
  | .error e, hq => exact hx pins σ H s e s' I hq
  | .ok (.ret u), hq => exact I.after hq
  | .ok .next, hq => exact (hq : False).elim
  | .ok .brk, hq => exact (hq : False).elim
  | .ok .cont, hq => exact (hq : False).elim
theorem pe_dg (D : Dg X.prog X.w X.K X.mg X.base CX k x ps sp) (hr : Room k X.A) (hgu : X.A.guards = some []) (hx : Passes CX X E) (ha : PA X (e :: es) t) (hg : Gl X x := by rfl) (hdb : (x == ("__debug__" : Str)) = false := by decide)
    (he : starEach (e :: es) X.env = (false, eval e X.env) :: starEach es X.env := by rfl) (hpl : (backTo pos (starEach es X.env)).any (·.1) = false := by rfl) :
    PE X (.Call (.Name x p) (e :: es) [] pos) (tCall sp [] E t) := by
  obtain ⟨f, fd, hm, hk, F, hb⟩ := D.ex
  constructor
  intro pins s σ H Q I h
  apply wpAny_Call_Name_kw (ld_glob I hg hm _ hdb)
  apply PySem.W.callWith_K (h₀ := X.base) I.ok.mod.kin hk _ he hpl
  apply thn (ha.run pos pins s σ H _ I h)
  rintro us s1 ⟨vs, H1, I1, r, q⟩
  rw [List.append_nil] at q
  exact ⟨I1.kIn, run_G F hr hgu hb hx I1 r q⟩
/-- repr of data -/
def rRepr (K : PySem.W.Frag) : List V → Hp → VK → Prop := fun vs H Q => ∃ (a : Addr) (d : PyData), vs = [.ref a] ∧ Dp K H (.ref a) d ∧ d.showable = true ∧ d.hasDict = false ∧ d.depth ≤ 30 ∧ d.shown.length ≤ sizeLine ∧ Q (.str d.shown) H
theorem cr_repr (hu : X.A.units + 64 < cLine) (hg : X.A.guards = some []) : CallR X (.builtin "repr") (rRepr X.K) := by
  intro pins s σ H vs us Q I r h
  obtain ⟨a, d, rfl, hd, h1, h2, h3, h4, q⟩ := h
  obtain ⟨u, rfl, ru⟩ := vals1 r
  cases (show u = Value.ref a from ru)
  obtain ⟨as, rd⟩ := Dp.reads I d _ _ hd rfl
  exact repr_of_reads' rd h1 (fun z => by rw [h2] at z; cases z) hg (by omega) (fun _ _ z => z) (fun h' u tk hk => ⟨.str d.shown, H, I.kept hk, ⟨_, rfl⟩, q⟩) h4
end
/-! ### the law's own call -/
/-- the law's promise, told of a list of its ints, of at most 2 ^ 20 bits each -/
theorem script_run {P : Program} {w : World} {K : PySem.W.Frag} {mg mb : Str → Option Value} {k : Nat} {fa a : Addr} {fd : FuncData} {x : Str} {sp : Sp} {s₁ : Shared} {vs : List Value} {ns : List Int} (KX : K.In s₁.heap) (hns : s₁.heap.Ns mainGlobals mg)
    (hb : s₁.heap.Ns builtinsNs mb) (hbb : ∀ x : Str, x ≠ "__name__" → mb x = bootBuiltins x) (hlim : s₁.heap.NoLimit) (hg : s₁.gens = #[]) (ha : s₁.heap.get? a = some { cls := .type "list", data := .seq vs.toArray }) (hi : IntsAre vs ns) (hl : ns.length ≤ sizeLine)
    (hr : Room k callerA) (F : ∀ base : Heap, K.In base → base.Ns mainGlobals mg → FnG P w K mg base CX0 k fa fd [x] sp) (hbind : ∀ (s : Shared) (u : Value), BindsTo s fd ⟨[u], []⟩ [(x, u)])
    (hsp : ∀ H : Hp, Only H → SqL K H a (ns.map V.int) → sp [.ref a] H (fun v _ => v = .bl true) E0) :
    codeAny (model P w) callerA (.call (.ref fa) ⟨[.ref a], []⟩) (fun r s' => r = .ok (.ret (.bool true)) ∧ OldK s₁.heap s'.heap ∧ s'.os = s₁.os ∧ AllBare s'.gens) s₁ := by
  have main : ∀ H : Hp, (∀ b, H b ≠ none → b = a) → (H a ≠ none → K.lookup a = none) → Only H → HOk P w H s₁.heap → SqL K H a (ns.map V.int) →
      codeAny (model P w) callerA (.call (.ref fa) ⟨[.ref a], []⟩) (fun r s' => r = .ok (.ret (.bool true)) ∧ OldK s₁.heap s'.heap ∧ s'.os = s₁.os ∧ AllBare s'.gens) s₁ := by
    intro H alone apart hO hok hS
    have hidden : ∀ b o, s₁.heap.get? b = some o → (∀ u, H b = some u → False) → (hidT s₁.heap H).get? b = some o := fun b o q n => hidT_get q (by
      cases z : H b with
      | none => rfl
      | some u => exact (n u z).elim)
    have dicts : ∀ {b : Addr} {m : Str → Option Value}, s₁.heap.Ns b m → (hidT s₁.heap H).Ns b m := by
      rintro b m ⟨o, es, ep, q, d, r⟩
      refine ⟨o, es, ep, hidden b o q fun u z => ?_, d, r⟩
      have ab : b = a := alone b (by rw [z]; exact fun y => nomatch y)
      rw [ab, ha] at q
      cases q
      exact nomatch d
    have hK : K.In (hidT s₁.heap H) := fun b o q => hidden b o (KX b o q) fun u z => by
      have ab : b = a := alone b (by rw [z]; exact fun y => nomatch y)
      rw [ab] at z q
      rw [apart (by rw [z]; exact fun y => nomatch y)] at q
      cases q
    obtain ⟨mc, l1, l2⟩ := hlim
    have M : Mod K mg (hidT s₁.heap H) := { kin := hK, glob := dicts hns, blt := ⟨mb, dicts hb, hbb⟩, nolimit := ⟨mc, dicts l1, l2⟩ }
    have e0 : Env0 P w K mg (hidT s₁.heap H) callerA [] s₁ H :=
      { frames := rfl, mod := M, bs := fun _ _ q => of_hidT q, bsz := Nat.le_of_eq (hidT_size _ _), funs := trivial, frf := fun b z => (nomatch (show b ∈ ([] : List Addr) from z)), hok := hok, bare := .of_eq hg }
    have G := (F _ hK (dicts hns)).goes callerA rfl hr [] s₁ H e0 ⟨[.ref a], []⟩ [.ref a] [.ref a] (hbind s₁ (.ref a)) (.cons rfl .nil) _ _ (hsp H hO hS)
    refine codeAny_mono G ?_
    intro r s' h
    match r, h with
    | .error e, h => exact (h : False).elim
    | .ok .next, h => exact (h : False).elim
    | .ok .brk, h => exact (h : False).elim
    | .ok .cont, h => exact (h : False).elim
    | .ok (.ret u), ⟨v, H', os, bare, un, hok', rv, q⟩ =>
      have q : v = V.bl true := q
      rw [q] at rv
      have rv : u = Value.bool true := rv
      subst rv
      refine ⟨rfl, OldK.of_keep (fun b o z => ?_), os, bare⟩
      cases y : H b with
      | none => exact un.keep b o z y (fun m => (nomatch (show b ∈ ([] : List Addr) from m))) (fun m => nomatch m)
      | some u =>
        rcases hO b with n | ⟨ob, xs, n⟩
        · rw [n] at y
          exact nomatch y
        · have l1 := (hok b _ n).1
          have l2 := (hok' b _ (un.frzs b ob _ n)).1
          rw [z] at l1
          cases l1
          exact l2
  have rv := vals_ints hi
  cases q : K.lookup a with
  | none =>
    let one : HO := .frz { cls := .type "list", data := .seq vs.toArray } (.lst (ns.map V.int))
    have at_a : (fun b => if b = a then some one else none : Hp) a = some one := if_pos rfl
    have off_a : ∀ b, b ≠ a → (fun b => if b = a then some one else none : Hp) b = none := fun b n => if_neg n
    refine main (fun b => if b = a then some one else none) (fun b n => ?_) (fun _ => q) (fun b => ?_) (fun b u z => ?_) (Or.inl (Or.inr ⟨_, at_a⟩))
    · exact Classical.byContradiction fun y => n (off_a b y)
    · rcases Classical.em (b = a) with y | y
      · subst y
        exact Or.inr ⟨_, _, at_a⟩
      · exact Or.inl (off_a b y)
    · rcases Classical.em (b = a) with y | y
      · subst y
        rw [at_a] at z
        cases z
        exact ⟨ha, ⟨by simpa using hl, vs, _, rv, ha⟩⟩
      · rw [off_a b y] at z
        cases z
  | some o =>
    have z := KX a o q
    rw [ha] at z
    cases z
    refine main (fun _ => none) (fun b n => (n rfl).elim) (fun n => (n rfl).elim) (fun _ => Or.inl rfl) (fun b u z => nomatch (z : (none : Option HO) = some u)) (Or.inr ⟨_, vs.toArray, _, q, rfl, rfl, rfl, ?_, ?_⟩)
    · rw [List.size_toArray, hi.length]
      exact hl
    · simpa using rv
theorem walk_ofG {l : PySem.W.OpenLaw} {n k : Nat} {q : Program} {loose : List Str} {XP : (Str → Option Value) → Heap → Prop} {YP : World → Heap → Prop} {d : DefRec} {K : Params → PySem.W.Frag} {sp : World → Sp} {x : Str} (hn : l.most = some n) (hn2 : n ≤ sizeLine) (hdf : d.params.defaults = [])
    (hr : Room k callerA) (hY : ∀ (w : World) (h : Heap), YP w h → (K w.params).In h) (F : ∀ (w : World) (mg : Str → Option Value) (fa : Addr) (h : Heap), (K w.params).In h → h.Ns mainGlobals mg → XP mg h → mg d.name = some (.ref fa) →
      ∃ fd : FuncData, (∀ (s : Shared) (u : Value), BindsTo s fd ⟨[u], []⟩ [(x, u)]) ∧ ∀ base : Heap, (K w.params).In base → base.Ns mainGlobals mg → FnG l.prog w (K w.params) mg base CX0 k fa fd [x] (sp w))
    (hsp : ∀ (w : World) (H : Hp) (a : Addr) (ns : List Int), ns.length ≤ n → (∀ z ∈ ns, Builtin.Int.intBits z ≤ 1048576) → Only H → SqL (K w.params) H a (ns.map V.int) → sp w [.ref a] H (fun v _ => v = .bl true) E0) :
    PySem.W.WalkO q loose XP YP l.row.toRowW d [] (fun f vs => PySem.call f vs) := by
  apply Att.attach_callB hn hdf
  intro w s₀ s₁ mg mb fa o pm cd doc a vs ns G Y ho hd hcd hmg hobj hints hlen hbits hg
  obtain ⟨fd, hb, hF⟩ := F w mg fa _ (hY w _ Y) G.T.g G.X hmg
  exact script_run (hY w _ Y) G.T.g G.T.b G.T.builtins G.T.nolimit hg hobj hints (Nat.le_trans hlen hn2) hr hF hb (fun H hO hS => hsp w H a ns hlen hbits hO hS)
/-- .. where the promise hangs on the written part alone -/
theorem walk_ofGK {l : PySem.W.OpenLaw} {n k : Nat} {q : Program} {loose : List Str} {XP : (Str → Option Value) → Heap → Prop} {YP : World → Heap → Prop} {d : DefRec} {K : Params → PySem.W.Frag} {sp : PySem.W.Frag → Sp} {x : Str} (hn : l.most = some n) (hn2 : n ≤ sizeLine)
    (hdf : d.params.defaults = []) (hr : Room k callerA) (hY : ∀ (w : World) (h : Heap), YP w h → (K w.params).In h) (hsp : ∀ (K : PySem.W.Frag) (H : Hp) (a : Addr) (ns : List Int), ns.length ≤ n → (∀ z ∈ ns, Builtin.Int.intBits z ≤ 1048576) → Only H → SqL K H a (ns.map V.int) → sp K [.ref a] H (fun v _ => v = .bl true) E0)
    (F : ∀ (w : World) (mg : Str → Option Value) (fa : Addr) (h : Heap), (K w.params).In h → h.Ns mainGlobals mg → XP mg h → mg d.name = some (.ref fa) →
      ∃ fd : FuncData, (∀ (s : Shared) (u : Value), BindsTo s fd ⟨[u], []⟩ [(x, u)]) ∧ ∀ base : Heap, (K w.params).In base → base.Ns mainGlobals mg → FnG l.prog w (K w.params) mg base CX0 k fa fd [x] (sp (K w.params))) :
    PySem.W.WalkO q loose XP YP l.row.toRowW d [] (fun f vs => PySem.call f vs) :=
  walk_ofG (K := K) (sp := fun w => sp (K w.params)) hn hn2 hdf hr hY F fun w H a ns h1 h2 h3 h4 => hsp (K w.params) H a ns h1 h2 h3 h4
end My
namespace My
/-! ### fractions -/
def com (a b : Int) : Int := if b < 0 then -((Nat.gcd a.natAbs b.natAbs : Nat) : Int) else ((Nat.gcd a.natAbs b.natAbs : Nat) : Int)
theorem gcd_pos {a b : Int} (h : b ≠ 0) : 0 < Nat.gcd a.natAbs b.natAbs := Nat.gcd_pos_of_pos_right _ (by omega)
theorem com_ne {a b : Int} (h : b ≠ 0) : com a b ≠ 0 := by
  have := gcd_pos (a := a) h
  unfold com
  split <;> omega
theorem com_abs {a b : Int} : (com a b).natAbs = Nat.gcd a.natAbs b.natAbs := by
  unfold com
  split <;> omega
theorem com_le {a b : Int} (h : b ≠ 0) : (com a b).natAbs ≤ b.natAbs := by
  rw [com_abs]
  exact Nat.gcd_le_right _ (by omega)
theorem int_gcd (a b : Int) : b.gcd a = Nat.gcd a.natAbs b.natAbs := Nat.gcd_comm _ _
theorem fdiv_com {a b c : Int} (hb : b ≠ 0) (hc : ((Nat.gcd a.natAbs b.natAbs : Nat) : Int) ∣ c) : c.fdiv (com a b) = b.sign * c / ((Nat.gcd a.natAbs b.natAbs : Nat) : Int) := by
  have g0 := gcd_pos (a := a) hb
  generalize eg : Nat.gcd a.natAbs b.natAbs = g at *
  obtain ⟨k, rfl⟩ := hc
  have gi : (g : Int) ≠ 0 := by omega
  unfold com
  rw [eg]
  by_cases h : b < 0
  · rw [if_pos h, Int.sign_eq_neg_one_of_neg h]
    have e1 : (g : Int) * k = (-k) * (-(g : Int)) := by rw [Int.neg_mul_neg, Int.mul_comm]
    have e2 : -1 * ((g : Int) * k) = (g : Int) * (-k) := by rw [Int.neg_mul, Int.one_mul, Int.mul_neg]
    rw [e2, Int.mul_ediv_cancel_left _ gi, e1, Int.mul_fdiv_cancel _ (by omega)]
  · rw [if_neg h, Int.sign_eq_one_of_pos (by omega), Int.one_mul, Int.mul_ediv_cancel_left _ gi, Int.mul_comm, Int.mul_fdiv_cancel _ gi]
theorem low_num {a b : Int} (hb : b ≠ 0) : a.fdiv (com a b) = (Rat.divInt a b).num := by
  rw [Rat.num_divInt, int_gcd]
  exact fdiv_com hb (Int.ofNat_dvd_left.mpr (Nat.gcd_dvd_left _ _))
theorem low_den {a b : Int} (hb : b ≠ 0) : b.fdiv (com a b) = ((Rat.divInt a b).den : Int) := by
  rw [Rat.den_divInt, int_gcd, if_neg hb, fdiv_com hb (Int.ofNat_dvd_left.mpr (Nat.gcd_dvd_right _ _)), Int.natCast_ediv, Int.sign_mul_self]
theorem num_le {a b : Int} (hb : b ≠ 0) : (Rat.divInt a b).num.natAbs ≤ a.natAbs := by
  rw [Rat.num_divInt, int_gcd]
  have g0 := gcd_pos (a := a) hb
  have d1 : ((Nat.gcd a.natAbs b.natAbs : Nat) : Int) ∣ a := Int.ofNat_dvd_left.mpr (Nat.gcd_dvd_left _ _)
  generalize Nat.gcd a.natAbs b.natAbs = g at *
  obtain ⟨k, rfl⟩ := d1
  have e : b.sign * ((g : Int) * k) = (g : Int) * (b.sign * k) := by rw [← Int.mul_assoc, Int.mul_comm b.sign, Int.mul_assoc]
  rw [e, Int.mul_ediv_cancel_left _ (by omega), Int.natAbs_mul, Int.natAbs_mul, Int.natAbs_sign_of_ne_zero hb, Nat.one_mul]
  exact Nat.le_mul_of_pos_left _ (by omega)
theorem den_le {a b : Int} (hb : b ≠ 0) : (Rat.divInt a b).den ≤ b.natAbs := by
  rw [Rat.den_divInt, if_neg hb]
  exact Nat.div_le_self _ _
end My
namespace My
/-- a number's top and bottom have at most B bits -/
def Sz (B : Nat) (q : Rat) : Prop := q.num.natAbs < 2 ^ B ∧ q.den < 2 ^ B
theorem Sz.mono {B B' : Nat} {q : Rat} (h : Sz B q) (l : B ≤ B') : Sz B' q :=
  ⟨Nat.lt_of_lt_of_le h.1 (Nat.pow_le_pow_right (by decide) l), Nat.lt_of_lt_of_le h.2 (Nat.pow_le_pow_right (by decide) l)⟩
theorem Sz.of {B : Nat} {a b : Int} (hb : b ≠ 0) (h1 : a.natAbs < 2 ^ B) (h2 : b.natAbs < 2 ^ B) : Sz B (Rat.divInt a b) := ⟨Nat.lt_of_le_of_lt (num_le hb) h1, Nat.lt_of_le_of_lt (den_le hb) h2⟩
theorem q_eq (q : Rat) : q = Rat.divInt q.num (q.den : Int) := (Rat.num_divInt_den q).symm
theorem den_ne (q : Rat) : (q.den : Int) ≠ 0 := by have := q.den_nz; omega
theorem add_is (q r : Rat) : Rat.divInt (q.num * (r.den : Int) + r.num * (q.den : Int)) ((q.den : Int) * (r.den : Int)) = q + r := by
  rw [← Rat.divInt_add_divInt _ _ (den_ne q) (den_ne r), ← q_eq, ← q_eq]
theorem sub_is (q r : Rat) : Rat.divInt (q.num * (r.den : Int) - r.num * (q.den : Int)) ((q.den : Int) * (r.den : Int)) = q - r := by
  rw [← Rat.divInt_sub_divInt _ _ (den_ne q) (den_ne r), ← q_eq, ← q_eq]
theorem mul_is (q r : Rat) : Rat.divInt (q.num * r.num) ((q.den : Int) * (r.den : Int)) = q * r := by
  rw [← Rat.divInt_mul_divInt, ← q_eq, ← q_eq]
theorem inv_divInt {a b : Int} (ha : a ≠ 0) (hb : b ≠ 0) : (Rat.divInt a b)⁻¹ = Rat.divInt b a := by
  have h : Rat.divInt a b * Rat.divInt b a = 1 := by
    rw [Rat.divInt_mul_divInt, Int.mul_comm b a]
    exact Rat.divInt_self' (Int.mul_ne_zero ha hb)
  have n : Rat.divInt a b ≠ 0 := fun z => by
    rw [z, Rat.zero_mul] at h
    exact absurd h (by decide)
  have h2 := Rat.inv_mul_cancel (Rat.divInt a b) n
  rw [← Rat.mul_one ((Rat.divInt a b)⁻¹), ← h, ← Rat.mul_assoc, h2, Rat.one_mul]
theorem div_is (q r : Rat) (h : r.num ≠ 0) : Rat.divInt (q.num * (r.den : Int)) ((q.den : Int) * r.num) = q / r := by
  rw [← Rat.divInt_mul_divInt, ← q_eq, Rat.div_def]
  congr 1
  have e := inv_divInt h (den_ne r)
  rw [← q_eq] at e
  exact e.symm
theorem num_zero {q : Rat} : q.num = 0 ↔ q = 0 := by
  constructor
  · intro h
    rw [q_eq q, h]
    simp
  · rintro rfl
    rfl
theorem div_divInt {a b c d : Int} (hc : c ≠ 0) (hd : d ≠ 0) : Rat.divInt a b / Rat.divInt c d = Rat.divInt (a * d) (b * c) := by
  rw [Rat.div_def, inv_divInt hc hd, Rat.divInt_mul_divInt]
theorem lt94 {n : Nat} (h : n < 10 ^ 28) : n < 2 ^ 94 := Nat.lt_trans h (by decide)
end My
namespace My
theorem lcm_pos' : ∀ (qs : List Rat) (n : Nat), 0 < n → 0 < qs.foldl (fun n q => Nat.lcm n q.den) n
  | [], n, h => h
  | q :: r, n, h => lcm_pos' r _ (Nat.lcm_pos h (Nat.pos_of_ne_zero q.den_nz))
theorem lcm_dvd' : ∀ (qs : List Rat) (n : Nat), n ∣ qs.foldl (fun n q => Nat.lcm n q.den) n
  | [], n => Nat.dvd_refl n
  | q :: r, n => Nat.dvd_trans (Nat.dvd_lcm_left n q.den) (lcm_dvd' r _)
def lcmAll (qs : List Rat) : Nat := qs.foldl (fun n q => Nat.lcm n q.den) 1
theorem lcm_pos (qs : List Rat) : 0 < lcmAll qs := lcm_pos' qs 1 (by decide)
theorem lcm_take (qs : List Rat) (n : Nat) : (qs.take n).foldl (fun n q => Nat.lcm n q.den) 1 ≤ lcmAll qs := by
  have e : lcmAll qs = (qs.drop n).foldl (fun n q => Nat.lcm n q.den) ((qs.take n).foldl (fun n q => Nat.lcm n q.den) 1) := by
    rw [← List.foldl_append, List.take_append_drop]
    rfl
  rw [e]
  refine Nat.le_of_dvd ?_ (lcm_dvd' _ _)
  rw [← e]
  exact lcm_pos qs
theorem den_dvd' : ∀ (qs : List Rat) (n : Nat) (q : Rat), q ∈ qs → q.den ∣ qs.foldl (fun n q => Nat.lcm n q.den) n
  | p :: r, n, q, h => by
    rcases List.mem_cons.mp h with e | e
    · subst e
      exact Nat.dvd_trans (Nat.dvd_lcm_right n q.den) (lcm_dvd' r _)
    · exact den_dvd' r _ q e
theorem den_dvd {qs : List Rat} {q : Rat} (h : q ∈ qs) : q.den ∣ lcmAll qs := den_dvd' qs 1 q h
def topsOf (qs : List Rat) : List Int := qs.map fun q => q.num * (((lcmAll qs : Nat) : Int) / (q.den : Int))
theorem top_is {q : Rat} {B : Nat} (hB : 0 < B) (h : q.den ∣ B) : Rat.divInt (q.num * ((B : Int) / (q.den : Int))) (B : Int) = q := by
  obtain ⟨k, rfl⟩ := h
  have hd := q.den_nz
  have kn : (k : Int) ≠ 0 := by
    intro z
    have : k = 0 := by omega
    subst this
    exact absurd hB (by simp)
  rw [Int.natCast_mul, Int.mul_ediv_cancel_left _ (by omega), Rat.divInt_mul_right kn]
  exact (q_eq q).symm
theorem sum_divInt (B : Int) (hB : B ≠ 0) : ∀ l : List Int, Rat.divInt l.sum B = (l.map fun n => Rat.divInt n B).sum
  | [] => by
    rw [List.map_nil, List.sum_nil, List.sum_nil]
    simp
  | n :: r => by
    rw [List.map_cons, List.sum_cons, List.sum_cons, ← sum_divInt B hB r, Rat.divInt_add_divInt _ _ hB hB, ← Int.add_mul, Rat.divInt_mul_right hB]
theorem tops_sum (qs : List Rat) : Rat.divInt (topsOf qs).sum ((lcmAll qs : Nat) : Int) = qs.sum := by
  have hB := lcm_pos qs
  rw [sum_divInt _ (by omega)]
  unfold topsOf
  rw [List.map_map]
  congr 1
  conv => rhs; rw [← List.map_id qs]
  apply List.map_congr_left
  intro q hq
  exact top_is hB (den_dvd hq)
end My
namespace My
open PySem PySem.Spec PyProof.Rows L2
/-! ### a class with its own ==, str, len -/
theorem ns_some_of {K : PySem.W.Frag} {h : Heap} {N : Addr} {mg : Str → Option Value} {n : Str} {v : Value} (X : K.In h) (G : h.Ns N mg) (e : PySem.W.nsIn K N n = some (some v)) : mg n = some v := by
  obtain ⟨o, es, ep, ho, hd, _, hf⟩ := G
  unfold PySem.W.nsIn at e
  split at e
  · rename_i c d es' n' sl q
    have z := X _ _ q
    rw [z] at ho
    injection ho with ho
    subst ho
    injection hd with h1 h2
    subst h1
    split at e
    · rename_i en he
      injection e with e
      rw [← hf, ← e]
      simp only [nsFind, findBy]
      rw [← Array.find?_toList, he]
      rfl
    · split at e <;> exact nomatch e
  · exact nomatch e
/-- a method m of the class at C -/
structure Mt (P : Program) (w : World) (K : PySem.W.Frag) (mg : Str → Option Value) (base : Heap) (k : Nat) (C : Addr) (m : Str) (ps : List Str) (sp : Sp) : Prop where
  ex : ∃ (f : Addr) (fd : FuncData), PySem.W.findIn K (.ref C) m = some (some (.ref f)) ∧ PySem.W.isFn K (.ref f) = true ∧ PySem.W.keepIn K (.ref f) = true ∧ FnOk P w K mg base CX0 k f fd ps sp ∧ Binds K fd ps []
/-- the class at C has an own == and no own != -/
structure EqC (P : Program) (w : World) (K : PySem.W.Frag) (mg : Str → Option Value) (base : Heap) (k : Nat) (C : Addr) (sp : Sp) : Prop where
  nf : PySem.W.notFirst K C (.ref C) = true
  ex : ∃ (f : Addr) (fd : FuncData), PySem.W.findIn K (.ref C) "__eq__" = some (some (.ref f)) ∧ PySem.W.isFn K (.ref f) = true ∧ FnOk P w K mg base CX0 k f fd ["self", "other"] sp ∧ Binds K fd ["self", "other"] [] ∧
    (∃ o, K.lookup f = some o ∧ o.cls = .type "function") ∧ ∃ (nm qn : Str) (N : Addr) (bs : List Value) (hdct : Bool) (sn : List Str) (sub : List Value) (ab : Bool) (col : Option Bool) (dd : Option Addr) (k0 k1 k2 k3 k5 : Option Value) (newId : String),
      K.lookup C = some (excClassObj nm qn C N bs [.type "object"] hdct sn sub ab col dd k0 k1 k2 k3 k5 newId) ∧ PySem.W.nsOkIn K N = true ∧ PySem.W.nsIn K N "__eq__" = some (some (.ref f)) ∧ PySem.W.nsIn K N "__ne__" = some none
section
variable {X : Cx} {k : Nat} {C : Addr} {sp : Sp}
/-- a method's def called by the machine, within A' -/
theorem run_in {A' : Around} {f : Addr} {fd : FuncData} {ps : List Str} {pins : List (Addr × Obj)} {σ : L2.St} {H : Hp} {s : Shared} {Q : VK} {us : List Value} {vs : List V} (F : FnOk X.prog X.w X.K X.mg X.base CX0 k f fd ps sp) (hr : Room k A') (e0 : Env0 X.prog X.w X.K X.mg X.base A' X.stack s H)
    (hb : Binds X.K fd ps []) (I : Inv X pins σ H s) (r : Vals vs us) (h : sp vs H Q E0) : wpAny (model X.prog X.w) A' (call (.ref f) us) (EP X pins σ Q) X.xe s := by
  have n : us.length = ps.length := r.length.symm.trans (F.len _ _ _ _ h)
  have bd := hb s us I.kIn (by rw [List.append_nil]; exact n)
  rw [List.append_nil] at bd
  refine wpAny_call (codeAny_mono (F.run A' X.stack s H ⟨us, []⟩ us vs Q E0 hr e0 bd r h) ?_)
  intro r s' hq
  match r, hq with
  | .error e, hq => exact (hq : False).elim
  | .ok (.ret u), hq => exact I.after hq
  | .ok .next, hq => exact (hq : False).elim
  | .ok .brk, hq => exact (hq : False).elim
  | .ok .cont, hq => exact (hq : False).elim
def rEqO (C : Addr) (sp : Sp) : R2 := fun x y H Q => ∃ a dx fs b dy gs, x = .ref a ∧ y = .ref b ∧ H a = some (.ins C dx fs) ∧ H b = some (.ins C dy gs) ∧ sp [.ref a, .ref b] H Q E0
def rNeO (C : Addr) (sp : Sp) : R2 := fun x y H Q => ∃ a dx fs b dy gs, x = .ref a ∧ y = .ref b ∧ H a = some (.ins C dx fs) ∧ H b = some (.ins C dy gs) ∧ sp [.ref a, .ref b] H (fun v H' => ∃ t, v = .bl t ∧ Q (.bl (!t)) H') E0
theorem op_eqO (D : EqC X.prog X.w X.K X.mg X.base k C sp) (hr : Room k X.A) : OpR X (compareOp .Eq) (rEqO C sp) := by
  intro pins s σ H x y v u Q I rx ry h
  obtain ⟨a, dx, fs, b, dy, gs, rfl, rfl, ha, hb, q⟩ := h
  cases (show v = Value.ref a from rx)
  cases (show u = Value.ref b from ry)
  obtain ⟨f, fd, hs, hf, F, bd, _⟩ := D.ex
  obtain ⟨mA, O, _⟩ := ins_get I.hok ha
  obtain ⟨od, J, _⟩ := O.look
  obtain ⟨mB, O', _⟩ := ins_get I.hok hb
  obtain ⟨od', J', _⟩ := O'.look
  obtain ⟨m, hF⟩ := I.fr
  refine PySem.W.cmp_ofEq (PySem.W.cmp_K (op := .Eq) (tb := .ref C) hr.units0 hF I.ok.mod.kin J J'.type D.nf hs hf ?_)
  refine wpAny_mono (run_in (us := [.ref a, .ref b]) (vs := [.ref a, .ref b]) F hr I.env0 bd I (.cons rfl (.cons rfl .nil)) q) (fun w s' z => ?_) fun _ _ x => x
  obtain ⟨z', H', I', rz, qz⟩ := z
  exact SlX.cmpback rz ⟨z', H', I', rz, qz⟩
theorem op_neO (D : EqC X.prog X.w X.K X.mg X.base k C sp) (hr : Room (k + 1) X.A) : OpR X (compareOp .NotEq) (rNeO C sp) := by
  intro pins s σ H x y v u Q I rx ry h
  obtain ⟨a, dx, fs, b, dy, gs, rfl, rfl, ha, hb, q⟩ := h
  cases (show v = Value.ref a from rx)
  cases (show u = Value.ref b from ry)
  obtain ⟨f, fd, hs, hf, F, bd, ⟨of, lf, cf⟩, nm, qn, N, bs, hdct, sn, sub, ab, col, dd, k0, k1, k2, k3, k5, newId, lC, ok, e1, e2⟩ := D.ex
  obtain ⟨mA, O, _⟩ := ins_get I.hok ha
  obtain ⟨mB, O', _⟩ := ins_get I.hok hb
  have KI := I.kIn
  have hN : s.heap.Ns N (s.heap.nsMap N) := .of_isNs (PySem.W.isNs_of_in KI ok)
  have own : s.heap.OwnEqNoNe a C f "object" [.type "object"] :=
    ⟨_, of, nm, qn, N, bs, hdct, sn, sub, ab, col, dd, k0, k1, k2, k3, k5, newId, _, _, O.obj, rfl, KI _ _ lC, hN, ns_some_of KI hN e1, KI _ _ lf, cf, PySem.F.cmp_object.mro, PySem.F.cmp_object.eq.lookup, PySem.W.nsMap_none_of_in KI ok e2⟩
  have un := hr.units0
  have hu : X.A.units + 1 < cLine := by have := hr.un; omega
  obtain ⟨hp, g, d, t, os⟩ := s
  refine compareOp_ne_ownEq PySem.F.cmp_object own O'.obj rfl hu ?_
  refine wpAny_mono (run_in (us := [.ref a, .ref b]) (vs := [.ref a, .ref b]) F hr.in1 I.env0.in1 bd I (.cons rfl (.cons rfl .nil)) q) (fun w s' z => ?_) fun _ _ x => x
  obtain ⟨z', H', I', rz, t', et, qz⟩ := z
  subst et
  cases (show w = Value.bool t' from rz)
  exact ⟨t', rfl, .bl (!t'), H', I', rfl, qz⟩
/-- str of an instance with its own __str__ -/
def rStrO (C : Addr) (sp : Sp) : List V → Hp → VK → Prop := fun vs H Q => ∃ a dx fs, vs = [.ref a] ∧ H a = some (.ins C dx fs) ∧ sp [.ref a] H (fun v H' => ∃ x, v = .str x ∧ Q (.str x) H') E0
theorem cr_strO (D : Mt X.prog X.w X.K X.mg X.base k C "__str__" ["self"] sp) (hr : Room (k + 2) X.A) : CallR X (.type "str") (rStrO C sp) := by
  intro pins s σ H vs us Q I r h
  obtain ⟨a, dx, fs, rfl, ha, q⟩ := h
  obtain ⟨u, rfl, ru⟩ := vals1 r
  cases (show u = Value.ref a from ru)
  obtain ⟨f, fd, hs, hf, _, F, bd⟩ := D.ex
  obtain ⟨mA, O, _⟩ := ins_get I.hok ha
  obtain ⟨od, J, _⟩ := O.look
  have hr2 : Room k X.A.in1.in1 := (hr.in1 (k := k + 1)).in1
  refine PySem.W.kso_call hr2.units0 I.kIn J hs hf (wpAny_mono (run_in (us := [.ref a]) (vs := [.ref a]) F hr2 I.env0.in1.in1 bd I (.cons rfl .nil) q) (fun w s' z => ?_) fun _ _ x => x)
  obtain ⟨z', H', I', rz, x, ex, qz⟩ := z
  subst ex
  obtain ⟨t, rfl⟩ := rz
  exact ⟨.str x, H', I', ⟨t, rfl⟩, qz⟩
/-- math.lcm -/
def rLcm : List V → Hp → VK → Prop := fun vs H Q => ∃ a b : Int, vs = [.int a, .int b] ∧ a.natAbs < 2 ^ 13000 ∧ b.natAbs < 2 ^ 13000 ∧ Q (.int ((Nat.lcm a.natAbs b.natAbs : Nat) : Int)) H
theorem lcm_one (n : Nat) : Nat.lcm 1 n = n := by
  rw [Nat.lcm_one_left]
theorem lim_one {n : Nat} (h : n < 2 ^ 13000) : ¬ n.log2 / 30 + 1 > 450 := by
  rcases Nat.eq_zero_or_pos n with z | z
  · subst z
    decide
  · have q := (Nat.log2_lt (by omega)).mpr h
    omega
theorem max_lt {a b n : Nat} (h1 : a < n) (h2 : b < n) : max a b < n := by omega
theorem lcm_lt {a b m : Nat} (ha : a < 2 ^ m) (hb : b < 2 ^ m) : Nat.lcm a b < 2 ^ (m + m) := by
  rcases Nat.eq_zero_or_pos a with z | z
  · subst z
    rw [Nat.lcm_zero_left]
    exact Nat.two_pow_pos _
  · rcases Nat.eq_zero_or_pos b with y | y
    · subst y
      rw [Nat.lcm_zero_right]
      exact Nat.two_pow_pos _
    · have q := Nat.lcm_le_mul z y
      rw [Nat.pow_add]
      exact Nat.lt_of_le_of_lt q (Nat.mul_lt_mul'' ha hb)
theorem cr_lcm : CallR X (.builtin "math.lcm") rLcm := by
  intro pins s σ H vs us Q I r h
  obtain ⟨a, b, rfl, ha, hb, q⟩ := h
  obtain ⟨t, u, rfl⟩ := Vals.int2 r
  have e : (((Nat.lcm 1 a.natAbs).lcm b.natAbs : Nat) : Int) = ((Nat.lcm a.natAbs b.natAbs : Nat) : Int) := by rw [lcm_one]
  have big : ((((Nat.lcm 1 a.natAbs).lcm b.natAbs : Nat) : Int)).natAbs.log2 < bitsLine := by
    rw [e, Int.natAbs_natCast]
    have z := lcm_lt ha hb
    exact Nat.lt_trans (PySem.Flt.log2_lt_of (by decide) z) (by decide)
  refine call_function_meets PySem.W.MGF.kind_lcm PySem.W.MGF.plain_lcm PySem.W.MGF.entry_lcm (PySem.W.MGF.args_lcm _ _) (PySem.W.mg_run_lcm a t b u (lim_one (max_lt (Nat.one_lt_two_pow (by decide)) ha)) (lim_one (max_lt ha hb)) big).meets ?_
  rw [e]
  exact ⟨.int _, H, I.tok _, ⟨_, rfl⟩, q⟩
end
end My
namespace My
open PySem PySem.Spec PyProof.Rows L2
section
variable {X : Cx}
/-- xs.count(b) of a list of truths -/
def rCntB (K : PySem.W.Frag) : V → List V → Hp → VK → Prop := fun x xs H Q => ∃ (p : Addr) (bs : List Bool) (k : Bool), x = .ref p ∧ xs = [.bl k] ∧ SqL K H p (bs.map V.bl) ∧ Q (.int (countIn (.bool k) (bs.map PyData.bool))) H
theorem dp_bools {K : PySem.W.Frag} {H : Hp} : ∀ bs : List Bool, DpAll K H (bs.map V.bl) (bs.map PyData.bool)
  | [] => .nil
  | b :: r => .cons (.bl b) (dp_bools r)
theorem has_bools : ∀ bs : List Bool, (bs.map PyData.bool).all Shape.bool.has = true
  | [] => rfl
  | b :: r => by
    rw [List.map_cons, List.all_cons, has_bools r]
    rfl
theorem mt_countB : MtR X "list.count" (rCntB X.K) := by
  intro pins s σ H x xs v us Q I rx rxs h
  obtain ⟨p, bs, k, rfl, rfl, hs, q⟩ := h
  cases (show v = Value.ref p from rx)
  obtain ⟨u, rfl, ru⟩ := rxs.one
  cases (show u = Value.bool k from ru)
  obtain ⟨its, rv, hl, _⟩ := I.list hs
  obtain ⟨as, ra⟩ := Dp.readsAll I _ _ its (dp_bools bs) rv
  exact count_list_bools hl.isList ra (has_bools bs) ⟨.int _, H, I.tok _, ⟨_, rfl⟩, q⟩
end
end My
namespace My
open PySem PySem.Spec PyProof.Rows L2
def keyStr (e : DictEntry) : Bool := match e.key with | .str _ _ => true | _ => false
theorem nsOk_of {K : PySem.W.Frag} {N : Addr} {c : Value} {d : Option Addr} {es : Array DictEntry} {n : Nat} {sl : Array (Option Value)} (l : K.lookup N = some ⟨c, d, .dict es n, sl⟩) (h : es.all keyStr = true) : PySem.W.nsOkIn K N = true := by
  unfold PySem.W.nsOkIn
  rw [l]
  exact h
end My
namespace My
open PySem PySem.Spec PyProof.Rows L2
section
variable {X : Cx}
def allRef (xs : List V) : Prop := ∀ x ∈ xs, ∃ a, x = .ref a
theorem vals_refs : ∀ {xs : List V} {us vs : List Value}, allRef xs → Vals xs us → Vals xs vs → us = vs := by
  intro xs
  induction xs with
  | nil =>
    intro us vs _ r1 r2
    cases r1
    cases r2
    rfl
  | cons x xs ih =>
    intro us vs h r1 r2
    obtain ⟨a, rfl⟩ := h x (List.mem_cons_self ..)
    cases r1 with
    | cons q1 r1 =>
      cases r2 with
      | cons q2 r2 =>
        cases q1
        cases q2
        rw [ih (fun y hy => h y (List.mem_cons_of_mem _ hy)) r1 r2]
theorem allRef_map (as : List Addr) : allRef (as.map V.ref) := fun x hx => by
  obtain ⟨a, _, e⟩ := List.mem_map.mp hx
  exact ⟨a, e.symm⟩
/-- != of two lists: of the same objects, or of other lengths -/
def rNeL (K : PySem.W.Frag) : R2 := fun x y H Q => ∃ a b xs ys, x = .ref a ∧ y = .ref b ∧ SqL K H a xs ∧ SqL K H b ys ∧ ((xs = ys ∧ allRef xs ∧ Q (.bl false) H) ∨ (xs.length ≠ ys.length ∧ Q (.bl true) H))
theorem op_neL (hu : X.A.units < cLine) : OpR X (compareOp .NotEq) (rNeL X.K) := by
  intro pins s σ H x y v u Q I rx ry h
  obtain ⟨a, b, xs, ys, rfl, rfl, ha, hb, h⟩ := h
  cases (show v = Value.ref a from rx)
  cases (show u = Value.ref b from ry)
  obtain ⟨its, r1, l1, _⟩ := I.list ha
  obtain ⟨its2, r2, l2, _⟩ := I.list hb
  show wpAny (model X.prog X.w) X.A (richCompare .NotEq (.ref a) (.ref b)) (EP X pins σ Q) X.xe s
  rcases h with ⟨e, ar, q⟩ | ⟨n, q⟩
  · subst e
    have e := vals_refs ar r1 r2
    subst e
    have z := SeqAt.RcNeAt.lists (A := X.A) (s := s) (e := fun _ => true) l1.isList l2.isList rfl hu (fun j _ _ => SeqAt.EqAt.same _)
    have t : (!(List.range its.toArray.size).all fun _ => true) = false := by simp
    rw [t] at z
    exact z X.prog X.w X.xe _ ⟨.bl false, H, I, rfl, q⟩
  · have z := SeqAt.RcNeAt.lists_lengths (A := X.A) (s := s) l1.isList l2.isList (by
      rw [List.size_toArray, List.size_toArray, ← r1.length, ← r2.length]
      simpa using n) hu
    exact z X.prog X.w X.xe _ ⟨.bl true, H, I, rfl, q⟩
end
section
variable {K : PySem.W.Frag} {g : TG} {tb : TS} {D : Ends} {σ : L2.St} {H : Hp}
def kZip (K : PySem.W.Frag) (g : TG) (tb : TS) (D : Ends) (σ : L2.St) : List V → Hp → Prop := fun vs H1 => ∃ a b xs ys, vs = [.ref a, .ref b] ∧ SqL K H1 a xs ∧ SqL K H1 b ys ∧ ∃ W : Nat → Nat → L2.St → Hp → Prop, (∃ m, W 0 m σ H1) ∧ ∀ i m σ H, W i m σ H →
  ((Itz K a b).stop i H ∧ D.nx σ H) ∨ ((Itz K a b).go i H ∧ ∃ N : L2.St → Hp → Prop, (∀ σ' H', N σ' H' → ∃ m', m' < m ∧ W (i + 1) m' σ' H') ∧ ∀ x H', (Itz K a b).yld i H x H' → g x σ H' fun σ2 H2 => tb { D with nx := N, ct := N, bk := D.nx } σ2 H2)
theorem rd_forZ {tr : TA} (h : tr σ H (kZip K g tb D σ)) : tFor (iZip K tr) g tb D σ H := h
theorem rd_kZip {a b : Addr} {xs ys : List V} (hl : xs.length = ys.length) (ha : SqL K H a xs) (hb : SqL K H b ys) (Pv : Nat → L2.St → Hp → Prop) (h0 : Pv 0 σ H) (hq : ∀ i σ H, Pv i σ H → SqL K H a xs ∧ SqL K H b ys)
    (hs : ∀ (i : Nat) (x y : V) (T : Addr) (σ : L2.St) (H : Hp), xs[i]? = some x → ys[i]? = some y → Pv i σ H → H T = none → g (.ref T) σ (upd H T (.tup [x, y])) fun σ2 H2 => tb { D with nx := Pv (i + 1), ct := Pv (i + 1), bk := D.nx } σ2 H2)
    (hd : ∀ σ H, Pv xs.length σ H → D.nx σ H) : kZip K g tb D σ [.ref a, .ref b] H := ⟨a, b, xs, ys, rfl, ha, hb, RZ.for_zipL hl Pv h0 hq hs hd⟩
theorem g_mono2 (i j : Nat) (vs : List Nat) : ∀ x H' (Q1 Q2 : L2.St → Hp → Prop), (∀ s h, Q1 s h → Q2 s h) → gTup K 2 (gCons (gName i) (gCons (gName j) gNil)) x (wipe σ vs) H' Q1 → gTup K 2 (gCons (gName i) (gCons (gName j) gNil)) x (wipe σ vs) H' Q2 := by
  rintro x H' Q1 Q2 f ⟨p, xs, e, hs, hn, y, r, e2, y2, r2, e3, e4, q⟩
  exact ⟨p, xs, e, hs, hn, y, r, e2, y2, r2, e3, e4, f _ _ q⟩
end
section
variable {K : PySem.W.Frag} {g : TG} {te : TE} {σ : L2.St} {H : Hp} {Q : VK}
/-- the turns of a comprehension over the numbers from lo, n of them -/
def kLcN (g : TG) (te : TE) (vs : List Nat) (σ : L2.St) (Q : VK) (lo : Int) (n : Nat) : Hp → Prop := fun H1 => ∀ D, H1 D = none → ∃ W : Nat → Nat → Hp → Prop, (∃ m, W 0 m (upd H1 D (.lst []))) ∧ ∀ i m H, W i m H →
  ((Itr lo n).stop i H ∧ Q (.ref D) H) ∨ ((Itr lo n).go i H ∧ ∃ Nx : Hp → Prop, (∀ H', Nx H' → ∃ m', m' < m ∧ W (i + 1) m' H') ∧ ∀ x H', (Itr lo n).yld i H x H' → g x (wipe σ vs) H' fun σ2 H2 => wipe σ2 vs = wipe σ vs ∧ tYes σ2 H2 fun b H3 =>
    if b = true then te σ2 H3 fun y H4 => ∃ acc, H4 D = some (.lst acc) ∧ acc.length < sizeLine ∧ Nx (upd H4 D (.lst (acc ++ [y]))) else Nx H3)
def kLcR1 (g : TG) (te : TE) (vs : List Nat) (σ : L2.St) (Q : VK) : List V → Hp → Prop := fun xs H1 => ∃ j : Int, xs = [.int j] ∧ -(2 ^ 62) ≤ j ∧ j < 2 ^ 62 ∧ kLcN g te vs σ Q 0 j.toNat H1
def kLcR2 (g : TG) (te : TE) (vs : List Nat) (σ : L2.St) (Q : VK) : List V → Hp → Prop := fun xs H1 => ∃ i j : Int, xs = [.int i, .int j] ∧ (-(2 ^ 62) ≤ i ∧ i < 2 ^ 62 ∧ -(2 ^ 62) ≤ j ∧ j < 2 ^ 62) ∧ kLcN g te vs σ Q i (j - i).toNat H1
theorem rd_lcR1 {tr : TA} {vs : List Nat} (h : tr σ H (kLcR1 g te vs σ Q)) : tLc (iRng1 tr) g tYes te vs σ H Q := h
theorem rd_lcR2 {tr : TA} {vs : List Nat} (h : tr σ H (kLcR2 g te vs σ Q)) : tLc (iRng2 tr) g tYes te vs σ H Q := h
theorem rd_kLcN {vs : List Nat} {lo : Int} {n : Nat} (J : Nat → List V → Addr → Hp → Prop) (h0 : ∀ D, H D = none → J 0 [] D (upd H D (.lst [])))
    (hs : ∀ i acc D H', H D = none → i < n → H' D = some (.lst acc) → acc.length = i → J i acc D H' → g (.int (lo + i)) (wipe σ vs) H' fun σ2 H2 => wipe σ2 vs = wipe σ vs ∧ te σ2 H2 (kLcEnd J D i))
    (mono : ∀ x H' (Q1 Q2 : L2.St → Hp → Prop), (∀ s h, Q1 s h → Q2 s h) → g x (wipe σ vs) H' Q1 → g x (wipe σ vs) H' Q2)
    (hd : ∀ acc D H', H D = none → acc.length = n → H' D = some (.lst acc) → J n acc D H' → Q (.ref D) H') : kLcN g te vs σ Q lo n H := by
  intro D hD
  refine lc_range (fun i H' => ∃ acc, acc.length = i ∧ H' D = some (.lst acc) ∧ J i acc D H') ⟨[], rfl, upd_same, h0 D hD⟩ ?_ fun H' ⟨acc, e, h, j⟩ => hd acc D H' hD e h j
  rintro i H' hi ⟨acc, e, h, j⟩
  refine mono _ H' _ _ (fun s h' z => ?_) (hs i acc D H' hD hi h e j)
  refine ⟨z.1, ?_⟩
  unfold tYes
  dsimp only
  rw [if_pos rfl]
  exact z.2
end
end My
namespace My
theorem rsum_append (a b : List Rat) : (a ++ b).sum = a.sum + b.sum := by
  induction a with
  | nil => rw [List.nil_append, List.sum_nil, Rat.zero_add]
  | cons x r ih => rw [List.cons_append, List.sum_cons, List.sum_cons, ih, Rat.add_assoc]
theorem rsum_rev (a : List Rat) : a.reverse.sum = a.sum := by
  induction a with
  | nil => rfl
  | cons x r ih => rw [List.reverse_cons, rsum_append, List.sum_cons, ih, List.sum_cons, List.sum_nil, Rat.add_zero, Rat.add_comm]
theorem rsum_succ (f : Nat → Rat) (n : Nat) : ((List.range (n + 1)).map f).sum = ((List.range n).map f).sum + f n := by
  rw [List.range_succ, List.map_append, rsum_append, List.map_cons, List.map_nil, List.sum_cons, List.sum_nil, Rat.add_zero]
def nearQ (k : Nat) : Rat := Rat.divInt 1 ((1 + (k : Int)) * (1 + (k : Int) + 1))
theorem near_sum (n : Nat) : ((List.range n).map nearQ).sum = Rat.divInt (n : Int) ((n : Int) + 1) := by
  induction n with
  | zero => rw [List.range_zero, List.map_nil, List.sum_nil]; simp
  | succ n ih =>
    rw [rsum_succ, ih]
    unfold nearQ
    have h0 : ((n : Int) + 1) ≠ 0 := by omega
    have h1 : ((n + 1 : Nat) : Int) + 1 ≠ 0 := by omega
    have h2 : (1 + (n : Int)) * (1 + (n : Int) + 1) ≠ 0 := Int.mul_ne_zero (by omega) (by omega)
    rw [Rat.divInt_add_divInt _ _ h0 h2, Rat.divInt_eq_divInt_iff (Int.mul_ne_zero h0 h2) h1]
    grind
def partQ (b : Int) (k : Nat) : Rat := Rat.divInt (b - 1) (b ^ (k + 1))
theorem part_sum (b : Int) (hb : 0 < b) (n : Nat) : ((List.range n).map (partQ b)).sum = Rat.divInt (b ^ n - 1) (b ^ n) := by
  induction n with
  | zero => rw [List.range_zero, List.map_nil, List.sum_nil]; simp
  | succ n ih =>
    rw [rsum_succ, ih]
    unfold partQ
    have h0 : b ^ n ≠ 0 := Int.ne_of_gt (Int.pow_pos hb)
    have h1 : b ^ (n + 1) ≠ 0 := Int.ne_of_gt (Int.pow_pos hb)
    rw [Rat.divInt_add_divInt _ _ h0 h1, Rat.divInt_eq_divInt_iff (Int.mul_ne_zero h0 h1) h1, Int.pow_succ]
    grind
def oddQ (m : Int) (k : Nat) : Rat := Rat.divInt (2 * (k : Int) + 1) (m * m)
theorem odd_sum (m : Int) (hm : m ≠ 0) (n : Nat) : ((List.range n).map (oddQ m)).sum = Rat.divInt ((n : Int) * n) (m * m) := by
  have h0 := Int.mul_ne_zero hm hm
  induction n with
  | zero => rw [List.range_zero, List.map_nil, List.sum_nil]; simp
  | succ n ih =>
    rw [rsum_succ, ih]
    unfold oddQ
    rw [Rat.divInt_add_divInt _ _ h0 h0, Rat.divInt_eq_divInt_iff (Int.mul_ne_zero h0 h0) h0]
    grind
theorem odd_all (n : Nat) (h : 0 < n) : ((List.range n).map (oddQ n)).sum = Rat.divInt 1 1 := by
  rw [odd_sum _ (by omega), Rat.divInt_eq_divInt_iff (Int.mul_ne_zero (by omega) (by omega)) (by decide)]
  grind
theorem neg_sum (qs : List Rat) : (qs ++ qs.map fun q => Rat.divInt 0 1 - q).sum = Rat.divInt 0 1 := by
  have z : Rat.divInt 0 1 = 0 := by decide +kernel
  rw [rsum_append, z]
  induction qs with
  | nil => decide +kernel
  | cons q r ih =>
    rw [List.map_cons, List.sum_cons, List.sum_cons]
    grind
theorem rep_sum (n : Nat) (h : 0 < n) (b : Int) : (List.replicate n (Rat.divInt b n)).sum = Rat.divInt b 1 := by
  have g : ∀ k : Nat, (List.replicate k (Rat.divInt b n)).sum = Rat.divInt (k * b) n := fun k => by
    induction k with
    | zero => rw [List.replicate_zero, List.sum_nil]; simp
    | succ k ih =>
      rw [List.replicate_succ, List.sum_cons, ih, Rat.divInt_add_divInt _ _ (by omega) (by omega), Rat.divInt_eq_divInt_iff (Int.mul_ne_zero (by omega) (by omega)) (by omega)]
      grind
  rw [g, Rat.divInt_eq_divInt_iff (by omega) (by decide)]
  grind
end My
namespace My
open PySem PySem.Spec PyProof.Rows L2
local macro_rules | `(tactic| walk_at "rd") => `(tactic| with_reducible (first
  | refine My.rd_seq ?_ | refine My.rd_var rfl ?_ | refine My.rd_op ?_ | refine My.rd_c ?_ | refine My.rd_asg ?_ | refine My.rd_name ?_ | refine My.rd_I0 ?_ | refine My.rd_test ?_ | refine My.rd_kB ?_
  | refine My.rd_ret ?_ | refine My.rd_cons ?_ | refine My.rd_nil ?_ | refine My.rd_call ?_ | refine My.rd_callS ?_ | refine My.rd_make ?_ | refine My.rd_CB ?_ | refine My.rd_par ?_ | refine My.rd_lst ?_ | refine My.rd_tup ?_ | refine My.rd_un ?_ | refine My.rd_U ?_
  | refine My.rd_eqI ?_ | refine My.rd_neI ?_ | refine My.rd_and ?_ | refine My.rd_or ?_ | refine My.rd_not ?_ | refine My.rd_B ?_ | refine My.rd_andV ?_ | refine My.rd_orV ?_ | refine My.rd_notV ?_ | refine My.rd_if ?_ | refine My.rd_drop ?_ | refine My.rd_next ?_ | refine My.rd_retN ?_ | refine My.rd_sub ?_ | refine My.rd_int ?_ | refine My.rd_intB ?_ | refine My.rd_abs ?_ | refine My.rd_fld ?_ | refine My.rd_sfld ?_ | refine My.rd_gcd ?_ | refine My.rd_gcons ?_ | refine My.rd_gnil ?_ | refine My.rd_sl ?_ | refine My.rd_noPart ?_ | refine My.rd_part ?_ | refine My.rd_kPart ?_ | refine My.rd_for ?_ | refine My.rd_lc ?_ | refine My.rd_rev ?_ | refine My.rd_forR ?_ | refine My.rd_forR2 ?_ | refine My.rd_forZ ?_ | refine My.rd_meth ?_ | refine My.rd_chain ?_ | refine My.rd_kChain ?_ | refine My.rd_lcR1 ?_ | refine My.rd_lcR2 ?_))
local macro_rules | `(tactic| walk_at "sd") => `(tactic| (first | decide | omega | assumption))
local macro_rules | `(tactic| walk_at "rt") => `(tactic| (first
  | walk_at "rd"
  | ((with_reducible refine My.rd_modP ?hc ?_); (case hc => walk_at "sd"))
  | ((with_reducible refine My.rd_divP ?hc ?hd ?_); (case hc => walk_at "sd"); (case hd => first | exact My.div_s (by omega) (by omega)))
  | ((with_reducible refine' My.rd_powC ?h0 ?h1 ?h2 ?e ?_); (case e => (simp only [Int.reduceToNat, Int.reducePow]; try rfl)); (case h0 => walk_at "sd"); (case h1 => walk_at "sd"); (case h2 => walk_at "sd"))
  | ((with_reducible refine My.rd_pow ?h0 ?h1 ?h2 ?_); (case h0 => walk_at "sd"); (case h1 => walk_at "sd"); (case h2 => walk_at "sd"))
  | ((with_reducible refine My.rd_mul ?hc ?_); (case hc => first | exact My.mul_r (by omega) (by omega) | exact My.mul_l (by omega) (by omega)))
  | ((with_reducible refine' My.rd_ixL ?hl ?ha ?_); (case hl => assumption); (case ha => rfl))
  | ((with_reducible refine' My.rd_ixT ?hl ?ha ?_); (case hl => assumption); (case ha => rfl))
  | ((with_reducible refine' My.rd_app ?e ?hl ?_); (case e => rfl); (case hl => assumption))
  | ((with_reducible refine' My.rd_glst ?hl ?hn ?_); (case hl => assumption); (case hn => rfl))
  | ((with_reducible refine' My.rd_len ?hl ?_); (case hl => assumption))
  | ((with_reducible refine' My.rd_lenT ?hl ?_); (case hl => assumption))
  | ((with_reducible refine' My.rd_gtup ?hl ?hn ?_); (case hl => assumption); (case hn => rfl))))
local macro_rules | `(tactic| walk_at "rs") => `(tactic| (first | walk_at "rt" | (with_reducible refine My.rd_ifS ?_)))

def top (i : Nat) : Stmt := PySem.Challenge.pw_elderdraw_k06_whole_sums_known_ahead.main.body.getD i (.Pass ⟨0, 0, 0, 0⟩)
abbrev s_is_whole : Stmt := top 5
abbrev s_Share___init__ : Stmt := inClass (top 9) 0
abbrev s_Share___eq__ : Stmt := inClass (top 9) 1
abbrev s_Share___str__ : Stmt := inClass (top 9) 2
abbrev s__figures : Stmt := top 10
abbrev s_plus : Stmt := top 11
abbrev s_minus : Stmt := top 12
abbrev s_less : Stmt := top 13
abbrev s_on_one_bottom : Stmt := top 14
abbrev s_sum_of : Stmt := top 15
abbrev s__law_well : Stmt := top 17
abbrev s__law_draw : Stmt := top 18
abbrev s__law_one : Stmt := top 19
abbrev s__law_rows : Stmt := top 20
abbrev s__law_one_by_one : Stmt := top 21
abbrev s_law : Stmt := top 22
structure Tx (K : PySem.W.Frag) (mg : Str → Option Value) : Prop where
  n_int : mg "int" = none
  n_len : mg "len" = none
  n_abs : mg "abs" = none
  n_repr : mg "repr" = none
  n_isinstance : mg "isinstance" = none
  n_bool : mg "bool" = none
  n_str : mg "str" = none
  n_list : mg "list" = none
  n_tuple : mg "tuple" = none
  n_range : mg "range" = none
  n_zip : mg "zip" = none
  n_enumerate : mg "enumerate" = none
  n_sum : mg "sum" = none
  n_any : mg "any" = none
  n_all : mg "all" = none
  n_min : mg "min" = none
  n_max : mg "max" = none
  n_sorted : mg "sorted" = none
/-- a well at p, from which at most N draws were made -/
def WellAt (H : Hp) (p : Addr) (N : Nat) : Prop := ∃ a b c : Int, H p = some (.lst [.int a, .int b, .int c]) ∧ 0 ≤ b ∧ b < 2147483647 ∧ 0 ≤ c ∧ c ≤ (N : Int)
/-- all but p as it was -/
def But (p : Addr) (H H' : Hp) : Prop := ∀ b o, b ≠ p → H b = some o → H' b = some o
theorem But.refl {p : Addr} {H : Hp} : But p H H := fun _ _ _ h => h
theorem But.trans {p : Addr} {H H1 H2 : Hp} (a : But p H H1) (b : But p H1 H2) : But p H H2 := fun c o n h => b c o n (a c o n h)
theorem But.upd {p : Addr} {H : Hp} {o : HO} : But p H (upd H p o) := fun b u n h => by rw [upd_ne n]; exact h
theorem Same.new {H : Hp} {p : Addr} {o : HO} (h : H p = none) : Same H (upd H p o) := fun b u e => by rw [upd_ne (ne_of_none e h)]; exact e
theorem WellAt.same {H H' : Hp} {p : Addr} {N : Nat} (w : WellAt H p N) (e : Same H H') : WellAt H' p N := by
  obtain ⟨a, b, c, h, r⟩ := w
  exact ⟨a, b, c, e _ _ h, r⟩
section
variable {P : Program} {w : World} {K : PySem.W.Frag} {mg : Str → Option Value} {base : Heap}
def spWell : Sp := fun vs H Q _ => ∃ c : Int, vs = [.int c] ∧ ∀ p H', H p = none → Same H H' → WellAt H' p 0 → Q (.ref p) H'
abbrev N__law_well : List Str := ["_law_cell"]
theorem sc__law_well : FnScope ["_law_cell"] ["_law_cell"] (defScope s__law_well) := ⟨rfl, rfl, rfl, by decide +kernel, rfl, by decide +kernel, by decide +kernel⟩
theorem ok_well {f : Addr} {fd : FuncData} (F : Fun K "_law_well" "_law_well" s__law_well f fd) (T : Tx K mg) : FnOk P w K mg base CX0 1 f fd ["_law_cell"] spWell := by
  refine F.ok sc__law_well (fun vs H Q E h => ?_) (fun cdv A outer s H vs Q E hr h => ?_)
  · obtain ⟨c, rfl, _⟩ := h
    rfl
  · obtain ⟨c, rfl, k⟩ := h
    refine ⟨_, (pss_one (ps_ret (pe_lst (pa_cons (pe_op op_mulA (pv 0) (pe_callTy cr_int (by rfl) T.n_int (by decide +kernel) (pa_cons (pe_cmpR op_ge (pv 0) (pe_op op_powA pe_int pe_int) (nomark _)) pa_nil))) (pa_cons (pe_op op_modA (pv 0) pe_int) (pa_cons pe_int pa_nil)))))), ?_⟩
    repeat walk_at "rs"
    refine rd_kLst rfl fun p hp => ?_
    exact k p _ hp (Same.new hp) ⟨_, _, _, upd_same, by omega, by omega, by omega, by omega⟩
abbrev primes : List V := [V.int 2147483647, V.int 2147483629, V.int 2147483587, V.int 2147483579, V.int 2147483563, V.int 2147483549, V.int 2147483543]
theorem prime_at {i : Int} (h : 0 ≤ i) (h' : i < 7) : ∃ q : Int, atI primes i = some (.int q) ∧ 0 < q ∧ q ≤ 2147483647 := by
  have e : i = 0 ∨ i = 1 ∨ i = 2 ∨ i = 3 ∨ i = 4 ∨ i = 5 ∨ i = 6 := by omega
  rcases e with rfl | rfl | rfl | rfl | rfl | rfl | rfl <;> exact ⟨_, rfl, by decide, by decide⟩
def spDraw : Sp := fun vs H Q _ => ∃ (p : Addr) (m : Int) (N : Nat), vs = [.ref p, .int m] ∧ WellAt H p N ∧ N < 1000000000 ∧ 0 < m ∧ m ≤ 10 ^ 28 ∧
  ∀ r H', 0 ≤ r → r < m → But p H H' → WellAt H' p (N + 1) → Q (.int r) H'
abbrev N__law_draw : List Str := ["_law_well_here", "_law_many", "_law_digit", "_law_prime", "_law_number"]
theorem sc__law_draw : FnScope ["_law_well_here", "_law_many", "_law_digit", "_law_prime", "_law_number"] ["_law_well_here", "_law_many"] (defScope s__law_draw) := ⟨rfl, rfl, rfl, by decide +kernel, rfl, by decide +kernel, by decide +kernel⟩
theorem ok_draw {f : Addr} {fd : FuncData} (F : Fun K "_law_draw" "_law_draw" s__law_draw f fd) (T : Tx K mg) : FnOk P w K mg base CX0 1 f fd ["_law_well_here", "_law_many"] spDraw := by
  refine F.ok sc__law_draw (fun vs H Q E h => ?_) (fun cdv A outer s H vs Q E hr h => ?_)
  · obtain ⟨p, m, N, rfl, _⟩ := h
    rfl
  · obtain ⟨p, m, N, rfl, ⟨a, b, c, hw, hb0, hb1, hc0, hc1⟩, hN, hm0, hm1, k⟩ := h
    have hm9 : CDivA a m := div_b (b := 100) (by omega) (by omega) (by decide) (by decide)
    refine ⟨_, (pss_cons (ps_if (pt_cmpR op_gt (pe_ix ix_list (pv 0) pe_int (fun _ _ => rfl)) pe_int (nomark _)) (pss_cons (ps_set (i := 2) sc__law_draw.nd rfl (Or.inl rfl) (pe_op op_modA (pe_ix ix_list (pv 0) pe_int (fun _ _ => rfl)) (pv 1)))
 (pss_cons (ps_asg (pe_op op_fdivA (pe_ix ix_list (pv 0) pe_int (fun _ _ => rfl)) (pv 1)) (pg_sub (pv 0) pe_int set_list))
 (pss_one (ps_ret (pv 2))))) pss_nil)
 (pss_cons (ps_asg (pe_op op_add (pe_ix ix_list (pv 0) pe_int (fun _ _ => rfl)) pe_int) (pg_sub (pv 0) pe_int set_list))
 (pss_cons (ps_set (i := 3) sc__law_draw.nd rfl (Or.inl rfl) (pe_ix ix_list (pe_lst (pa_cons pe_int (pa_cons pe_int (pa_cons pe_int (pa_cons pe_int (pa_cons pe_int (pa_cons pe_int (pa_cons pe_int pa_nil)))))))) (pe_op op_modA (pe_ix ix_list (pv 0) pe_int (fun _ _ => rfl)) pe_int) (fun _ _ => rfl)))
 (pss_cons (ps_set (i := 4) sc__law_draw.nd rfl (Or.inl rfl) (pe_op op_modA (pe_op op_powA (pe_op op_add (pe_op op_add (pe_ix ix_list (pv 0) pe_int (fun _ _ => rfl)) (pe_op op_mulA pe_int (pe_ix ix_list (pv 0) pe_int (fun _ _ => rfl)))) pe_int) pe_int) (pv 3)))
 (pss_cons (ps_set (i := 4) sc__law_draw.nd rfl (Or.inl rfl) (pe_op op_modA (pe_op op_mulA (pe_op op_add (pv 4) (pe_ix ix_list (pv 0) pe_int (fun _ _ => rfl))) (pe_op op_add (pe_op op_fdivA (pv 4) pe_int) pe_int)) (pv 3)))
 (pss_one (ps_ret (pe_op op_modA (pe_op op_fdivA (pv 4) pe_int) (pv 1))))))))), ?_⟩
    have hq : SqL K H p [.int a, .int b, .int c] := SqL.of hw
    repeat walk_at "rs"
    refine ite_d (fun ha => ?_) (fun ha => ?_)
    · repeat walk_at "rs"
      refine rd_divP hm0 hm9 ?_
      repeat walk_at "rs"
      refine rd_setL hw (j := 0) rfl ?_
      repeat walk_at "rs"
      exact k _ _ (Int.emod_nonneg _ (by omega)) (Int.emod_lt_of_pos _ hm0) But.upd ⟨_, _, _, upd_same, hb0, hb1, hc0, by omega⟩
    · repeat walk_at "rs"
      refine rd_setL hw (j := 2) rfl ?_
      have hq : SqL K (upd H p (.lst [.int a, .int b, .int (c + 1)])) p [.int a, .int b, .int (c + 1)] := SqL.of upd_same
      repeat walk_at "rs"
      refine rd_kLst rfl fun l hl => ?_
      have npl : p ≠ l := ne_of_none upd_same hl
      have hq : SqL K (upd (upd H p (.lst [.int a, .int b, .int (c + 1)])) l (.lst primes)) p [.int a, .int b, .int (c + 1)] := SqL.of (by rw [upd_ne npl]; exact upd_same)
      repeat walk_at "rs"
      obtain ⟨q, eq, q0, q1⟩ := prime_at (i := (c + 1) % 7) (by omega) (by omega)
      refine rd_ixL (SqL.of upd_same) eq ?_
      repeat walk_at "rs"
      have x0 := Int.emod_nonneg ((b + 7919 * (c + 1) + 1) ^ 5) (show q ≠ 0 by omega)
      have x1 := Int.emod_lt_of_pos ((b + 7919 * (c + 1) + 1) ^ 5) q0
      generalize (b + 7919 * (c + 1) + 1) ^ 5 % q = z at x0 x1
      refine rd_mul ?_ ?_
      · exact mul_r (by omega) (by omega)
      repeat walk_at "rs"
      have y0 := Int.emod_nonneg ((z + (c + 1)) * (z / 1009 + 69621)) (show q ≠ 0 by omega)
      exact k _ _ (Int.emod_nonneg _ (by omega)) (Int.emod_lt_of_pos _ hm0) (fun b o n h => by rw [upd_ne (ne_of_none (show upd H p _ b = some o by rw [upd_ne n]; exact h) hl), upd_ne n]; exact h)
        ⟨a, b, c + 1, by rw [upd_ne npl]; exact upd_same, hb0, hb1, by omega, by omega⟩
theorem sbut {p : Addr} {H H' : Hp} (e : Same H H') : But p H H' := fun b o _ h => e b o h
theorem But.seq {p l : Addr} {H H' : Hp} {xs : List V} (e : But p H H') (n : l ≠ p) (h : SqL K H l xs) : SqL K H' l xs := by
  rcases h with (h | ⟨o, h⟩) | h
  · exact .inl (.inl (e _ _ n h))
  · exact .inl (.inr ⟨o, e _ _ n h⟩)
  · exact .inr h
theorem WellAt.ne_new {H : Hp} {p l : Addr} {N : Nat} (w : WellAt H p N) (h : H l = none) : l ≠ p := by
  obtain ⟨a, b, c, e, _⟩ := w
  exact (ne_of_none e h).symm
theorem at_int {xs : List V} {r : Int} (h0 : 0 ≤ r) (h1 : r < (xs.length : Int)) : ∃ v, atI xs r = some v ∧ v ∈ xs := by
  obtain ⟨n, rfl⟩ : ∃ n : Nat, r = (n : Int) := ⟨r.toNat, by omega⟩
  have h : n < xs.length := by omega
  exact ⟨xs[n], atI_nat (List.getElem?_eq_getElem h), List.getElem_mem h⟩
def spOne (K : PySem.W.Frag) : Sp := fun vs H Q _ => ∃ (p l : Addr) (xs : List V) (N : Nat), vs = [.ref p, .ref l] ∧ WellAt H p N ∧ N < 1000000000 ∧ SqL K H l xs ∧ l ≠ p ∧ 0 < xs.length ∧ xs.length ≤ 100000 ∧
  ∀ v H', v ∈ xs → But p H H' → WellAt H' p (N + 1) → Q v H'
abbrev N__law_one : List Str := ["_law_well_here", "_law_some"]
theorem sc__law_one : FnScope ["_law_well_here", "_law_some"] ["_law_well_here", "_law_some"] (defScope s__law_one) := ⟨rfl, rfl, rfl, by decide +kernel, rfl, by decide +kernel, by decide +kernel⟩
theorem ok_one {f : Addr} {fd : FuncData} (F : Fun K "_law_one" "_law_one" s__law_one f fd) (T : Tx K mg) (d__law_draw : Df P w K mg base CX0 1 "_law_draw" ["_law_well_here", "_law_many"] spDraw) : FnOk P w K mg base CX0 2 f fd ["_law_well_here", "_law_some"] (spOne K) := by
  refine F.ok sc__law_one (fun vs H Q E h => ?_) (fun cdv A outer s H vs Q E hr h => ?_)
  · obtain ⟨p, l, xs, N, rfl, _⟩ := h
    rfl
  · obtain ⟨p, l, xs, N, rfl, hw, hN, hl, hne, h0, h1, k⟩ := h
    refine ⟨_, (pss_one (ps_ret (pe_ix ix_list (pv 1) (pe_df d__law_draw (hr.mono (by decide)) pass0 (pa_cons (pv 0) (pa_cons (pe_callB cr_len (by rfl) T.n_len PySem.boot_len (pa_cons (pv 1) pa_nil)) pa_nil))) (fun _ _ => rfl)))), ?_⟩
    repeat walk_at "rs"
    refine ⟨p, _, N, rfl, hw, hN, by omega, by omega, fun r H' r0 r1 e w' => ?_⟩
    obtain ⟨v, hv, hm⟩ := at_int r0 r1
    exact rd_ixL (e.seq hne hl) hv (k v H' hm e w')
/-- what the top has written of Share and of NoShare -/
structure TS (K : PySem.W.Frag) (mg : Str → Option Value) (C_Share C_NoShare : Addr) : Prop extends Tx K mg where
  cl : Cls K C_Share
  nT : NoAttr K C_Share "top"
  nB : NoAttr K C_Share "bottom"
  g_Share : mg "Share" = some (.ref C_Share)
  cc : PySem.W.findIn K (.ref C_Share) "__class__" = some (some (.builtin "object.__class__"))
  cg : PySem.W.specialIn K (.builtin "object.__class__") "__get__" = some (some (.builtin "getset_descriptor.__get__"))
  ct : PySem.W.takesIn K (.builtin "object.__class__") = some true
  cm : PySem.W.mroIn K C_Share (.type "object") = some true
  g_gcd : mg "gcd" = some (.builtin "math.gcd")
  g_NoShare : mg "NoShare" = some (.ref C_NoShare)
  x_NoShare : PySem.W.excIn K C_NoShare [.type "ValueError", .type "Exception", .type "BaseException", .type "object"] "ValueError.__new__" = true
  k_NoShare : PySem.W.keepIn K (.ref C_NoShare) = true
  b_NoShare : PySem.W.subIn K (.ref C_NoShare) (.type "BaseException") = some true
  t_NoShare : PySem.W.typeIn K (.ref C_NoShare) = some (.type "type")
  i_NoShare : PySem.W.hasDictIn K C_NoShare = true
  s_NoShare : PySem.W.subIn K (.ref C_NoShare) (.ref C_NoShare) = some true
/-- a share's attributes, in the order in which they are stored -/
def shF (n d : Int) : List (Str × V) := putF "bottom" (.int d) (putF "top" (.int n) [])
theorem shF_top (n d : Int) : (shF n d).lookup ("top" : Str) = some (.int n) := by
  unfold shF
  rw [lookup_putF, if_neg (by decide +kernel), lookup_putF, if_pos rfl]
theorem shF_bot (n d : Int) : (shF n d).lookup ("bottom" : Str) = some (.int d) := by
  unfold shF
  rw [lookup_putF, if_pos rfl]
/-- at a stands a share of the number q -/
def ShAt (C : Addr) (H : Hp) (a : Addr) (q : Rat) : Prop := ∃ dx, H a = some (.ins C dx (shF q.num (q.den : Int)))
theorem ShAt.same {C a : Addr} {H H' : Hp} {q : Rat} (h : ShAt C H a q) (e : Same H H') : ShAt C H' a q := by
  obtain ⟨dx, z⟩ := h
  exact ⟨dx, e _ _ z⟩
theorem ShAt.but {C a p : Addr} {H H' : Hp} {q : Rat} (h : ShAt C H a q) (e : But p H H') (n : a ≠ p) : ShAt C H' a q := by
  obtain ⟨dx, z⟩ := h
  exact ⟨dx, e _ _ n z⟩
theorem ShAt.ne {C a p : Addr} {H : Hp} {q : Rat} {N : Nat} (h : ShAt C H a q) (w : WellAt H p N) : a ≠ p := by
  obtain ⟨dx, z⟩ := h
  obtain ⟨_, _, _, e, _⟩ := w
  exact ne_of z e (fun y => nomatch y)
/-- any thing: whether it is an int and no bool -/
def spWhole (K : PySem.W.Frag) : Sp := fun vs H Q _ => ∃ (v : V) (t : Value) (b1 b2 : Bool), vs = [v] ∧ TyX K H v t ∧ PySem.W.kitOne K t (.type "int") = some b1 ∧ PySem.W.kitOne K t (.type "bool") = some b2 ∧ Q (.bl (b1 && !b2)) H
abbrev N_is_whole : List Str := ["thing"]
theorem sc_is_whole : FnScope ["thing"] ["thing"] (defScope s_is_whole) := ⟨rfl, rfl, rfl, by decide +kernel, rfl, by decide +kernel, by decide +kernel⟩
theorem ok_whole {f : Addr} {fd : FuncData} (F : Fun K "is_whole" "is_whole" s_is_whole f fd) (T : Tx K mg) : FnOk P w K mg base CX0 1 f fd ["thing"] (spWhole K) := by
  refine F.ok sc_is_whole (fun vs H Q E h => ?_) (fun cdv A outer s H vs Q E hr h => ?_)
  · obtain ⟨v, t, b1, b2, rfl, _⟩ := h
    rfl
  · obtain ⟨v, t, b1, b2, rfl, ty, e1, e2, k⟩ := h
    refine ⟨_, (pss_one (ps_ret (pe_and (pe_callB call_isi (by rfl) T.n_isinstance (by decide +kernel) (pa_cons (pv 0) (pa_cons (pe_bltn (v := .ty "int") (by rfl) T.n_int (by decide +kernel) rfl) pa_nil))) (pe_one (pe_not (pe_callB call_isi (by rfl) T.n_isinstance (by decide +kernel) (pa_cons (pv 0) (pa_cons (pe_bltn (v := .ty "bool") (by rfl) T.n_bool (by decide +kernel) rfl) pa_nil)))))))), ?_⟩
    repeat walk_at "rs"
    refine rd_isi (ClsV.ty _) ty e1 ?_
    repeat walk_at "rs"
    cases b1 with
    | false => exact iteF k
    | true =>
      refine iteT ?_
      repeat walk_at "rs"
      refine rd_isi (ClsV.ty _) ty e2 ?_
      repeat walk_at "rs"
      exact k
theorem whole_int {H : Hp} {Q : VK} {E : XK} {n : Int} (k : Q (.bl true) H) : spWhole K [.int n] H Q E := ⟨_, _, true, false, rfl, .base (.int n), kit_ty (by decide +kernel), kit_ty (by decide +kernel), k⟩
/-- __init__: of two ints, the bottom not 0; or refused -/
def spInit (C C_NoShare : Addr) : Sp := fun vs H Q E => ∃ (x dx : Addr) (n d : Int), vs = [.ref x, .int n, .int d] ∧ H x = some (.ins C dx []) ∧ d.natAbs < 2 ^ 8999 ∧
  (d = 0 → E (.ref C_NoShare) none H) ∧ (d ≠ 0 → Q .non (upd H x (.ins C dx (shF (Rat.divInt n d).num ((Rat.divInt n d).den : Int)))))
abbrev N_Share___init__ : List Str := ["self", "top", "bottom", "common"]
theorem sc_Share___init__ : FnScope ["self", "top", "bottom", "common"] ["self", "top", "bottom"] (defScope s_Share___init__) := ⟨rfl, rfl, rfl, by decide +kernel, rfl, by decide +kernel, by decide +kernel⟩
theorem ok_init {f C_Share C_NoShare : Addr} {fd : FuncData} (F : FunD K "__init__" "Share.__init__" (defArgs s_Share___init__) (defBody s_Share___init__) (defScope s_Share___init__) [.int 1] [] f fd) (T : TS K mg C_Share C_NoShare) (d_is_whole : Df P w K mg base CX0 1 "is_whole" ["thing"] (spWhole K)) :
    FnOk P w K mg base (CX P w) 2 f fd ["self", "top", "bottom"] (spInit C_Share C_NoShare) := by
  refine F.ok sc_Share___init__ (fun vs H Q E h => ?_) (fun cdv A outer s H vs Q E hr h => ?_)
  · obtain ⟨x, dx, n, d, rfl, _⟩ := h
    rfl
  · obtain ⟨x, dx, n, d, rfl, hx, hz, kE, kQ⟩ := h
    refine ⟨_, (pss_cons (ps_if (PW.pt (pw_or (pt_not (pt_val (pe_df d_is_whole (hr.mono (by decide)) pass0 (pa_cons (pv 1) pa_nil)))) (pw_or (pt_not (pt_val (pe_df d_is_whole (hr.mono (by decide)) pass0 (pa_cons (pv 2) pa_nil)))) (pw_or1 (pt_cmpR op_eq (pv 2) pe_int (nomark _)))))) (pss_one (ps_raise rfl (takes_of rfl rfl rfl rfl) (pmk_own PySem.F.excBase_ValueError T.x_NoShare T.g_NoShare T.k_NoShare (raises_own T.b_NoShare T.t_NoShare) (by exact rfl)))) pss_nil)
 (pss_cons (ps_set (i := 3) sc_Share___init__.nd rfl (Or.inl rfl) (pe_callBfun cr_gcd (by rfl) T.g_gcd (pa_cons (pv 1) (pa_cons (pv 2) pa_nil))))
 (pss_cons (ps_if (pt_cmpR op_lt (pv 2) pe_int (nomark _)) (pss_one (ps_set (i := 3) sc_Share___init__.nd rfl (Or.inl rfl) (pe_un un_neg (pv 3)))) pss_nil)
 (pss_cons (ps_fld (pv 0) (pe_op op_fdivA (pv 1) (pv 3)) rfl)
 (pss_one (ps_fld (pv 0) (pe_op op_fdivA (pv 2) (pv 3)) rfl)))))), ?_⟩
    repeat walk_at "rs"
    refine whole_int ?_
    repeat walk_at "rs"
    refine iteF ?_
    repeat walk_at "rs"
    refine whole_int ?_
    repeat walk_at "rs"
    refine iteF ?_
    repeat walk_at "rs"
    refine ite_d (fun c => ?_) (fun c => ?_)
    · exact kE c
    · have dv : ∀ i, CDivA i (com n d) := fun i => div_b (b := 8999) (com_ne c) (Nat.lt_of_le_of_lt (com_le c) hz) (by decide) (by decide)
      repeat walk_at "rs"
      refine ite_d (fun c2 => ?_) (fun c2 => ?_)
      all_goals
        repeat walk_at "rs"
      · have e : -((Nat.gcd n.natAbs d.natAbs : Nat) : Int) = com n d := by unfold com; rw [if_pos c2]
        rw [e]
        refine rd_div (dv _) ?_
        repeat walk_at "rs"
        refine rd_kSet hx T.cl T.nT rfl ?_
        repeat walk_at "rs"
        refine rd_div (dv _) ?_
        repeat walk_at "rs"
        refine rd_kSet upd_same T.cl T.nB rfl ?_
        rw [low_num c, low_den c, upd_upd]
        exact kQ c
      · have e : ((Nat.gcd n.natAbs d.natAbs : Nat) : Int) = com n d := by unfold com; rw [if_neg c2]
        rw [e]
        refine rd_div (dv _) ?_
        repeat walk_at "rs"
        refine rd_kSet hx T.cl T.nT rfl ?_
        repeat walk_at "rs"
        refine rd_div (dv _) ?_
        repeat walk_at "rs"
        refine rd_kSet upd_same T.cl T.nB rfl ?_
        rw [low_num c, low_den c, upd_upd]
        exact kQ c
/-- a new share, of two ints, the bottom not 0 -/
theorem rd_share {C CN : Addr} {n d : Int} {H : Hp} {Q : VK} {E : XK} (h : d ≠ 0) (hz : d.natAbs < 2 ^ 8999) (k : ∀ x H', H x = none → Same H H' → ShAt C H' x (Rat.divInt n d) → Q (.ref x) H') :
    kMake C (spInit C CN) [] E Q [.int n, .int d] H := by
  intro x dx hx hdx ne
  refine ⟨x, dx, n, d, rfl, upd_same, hz, fun c => absurd c h, fun _ => ⟨rfl, ?_⟩⟩
  rw [upd_upd]
  refine k x _ hx (fun b o e => ?_) ⟨dx, upd_same⟩
  rw [upd_ne (ne_of_none e hx), upd_ne (ne_of_none e hdx)]
  exact e
theorem rd_share1 {C CN : Addr} {n : Int} {H : Hp} {Q : VK} {E : XK} (k : ∀ x H', H x = none → Same H H' → ShAt C H' x (Rat.divInt n 1) → Q (.ref x) H') : kMake C (spInit C CN) [.int 1] E Q [.int n] H :=
  rd_share (C := C) (CN := CN) (n := n) (d := 1) (E := E) (by decide) (by have e : Int.natAbs 1 = 1 := rfl; rw [e]; exact Nat.one_lt_two_pow (by decide)) k
theorem rd_top {C a : Addr} {H : Hp} {Q : VK} {q : Rat} {C_NoShare : Addr} (T : TS K mg C C_NoShare) (h : ShAt C H a q) (k : Q (.int q.num) H) : kFld K "top" Q (.ref a) H := by
  obtain ⟨dx, z⟩ := h
  exact rd_kFld z T.cl T.nT (shF_top _ _) k
theorem rd_bot {C a : Addr} {H : Hp} {Q : VK} {q : Rat} {C_NoShare : Addr} (T : TS K mg C C_NoShare) (h : ShAt C H a q) (k : Q (.int (q.den : Int)) H) : kFld K "bottom" Q (.ref a) H := by
  obtain ⟨dx, z⟩ := h
  exact rd_kFld z T.cl T.nB (shF_bot _ _) k
local macro_rules | `(tactic| walk_at "rg") => `(tactic| (first
  | walk_at "rt"
  | ((with_reducible refine' My.rd_top ?ht ?hs ?_); (case ht => assumption); (case hs => assumption))
  | ((with_reducible refine' My.rd_bot ?ht ?hs ?_); (case ht => assumption); (case hs => assumption))
  | ((with_reducible refine My.rd_mul ?hc ?_); (case hc => first | assumption | exact My.mul_b (by assumption) (by assumption) (by decide)))))
local macro_rules | `(tactic| walk_at "rf") => `(tactic| (first | walk_at "rg" | (with_reducible refine My.rd_ifS ?_)))

/-- a new share of two: op of their numbers -/
def spBin (C : Addr) (B : Nat) (op : Rat → Rat → Rat) : Sp := fun vs H Q _ => ∃ (a b : Addr) (q r : Rat), vs = [.ref a, .ref b] ∧ ShAt C H a q ∧ ShAt C H b r ∧ Sz B q ∧ Sz B r ∧ ∀ x H', H x = none → Same H H' → ShAt C H' x (op q r) → Q (.ref x) H'
theorem pw_lt {a b n : Nat} {x y : Int} (hx : x.natAbs < 2 ^ a) (hy : y.natAbs < 2 ^ b) (h : a + b ≤ n) : (x * y).natAbs < 2 ^ n := Nat.lt_of_lt_of_le (wide_lt hx hy) (Nat.pow_le_pow_right (by decide) h)
theorem den_nat {B : Nat} {q : Rat} (h : Sz B q) : ((q.den : Int)).natAbs < 2 ^ B := by rw [Int.natAbs_natCast]; exact h.2
theorem add_lt {a b : Int} {m : Nat} (ha : a.natAbs < 2 ^ m) (hb : b.natAbs < 2 ^ m) : (a + b).natAbs < 2 ^ (m + 1) := by
  rw [Nat.pow_succ]
  omega
theorem sub_lt {a b : Int} {m : Nat} (ha : a.natAbs < 2 ^ m) (hb : b.natAbs < 2 ^ m) : (a - b).natAbs < 2 ^ (m + 1) := by
  rw [Nat.pow_succ]
  omega
/-- a new share of two, of numbers of at most A and B bits -/
def spBin2 (C : Addr) (A B : Nat) (op : Rat → Rat → Rat) : Sp := fun vs H Q _ => ∃ (a b : Addr) (q r : Rat), vs = [.ref a, .ref b] ∧ ShAt C H a q ∧ ShAt C H b r ∧ Sz A q ∧ Sz B r ∧ ∀ x H', H x = none → Same H H' → ShAt C H' x (op q r) → Q (.ref x) H'
abbrev N_plus : List Str := ["one", "other"]
theorem sc_plus : FnScope ["one", "other"] ["one", "other"] (defScope s_plus) := ⟨rfl, rfl, rfl, by decide +kernel, rfl, by decide +kernel, by decide +kernel⟩
theorem ok_plus {f C_Share C_NoShare : Addr} {fd : FuncData} (F : Fun K "plus" "plus" s_plus f fd) (T : TS K mg C_Share C_NoShare) (m_Share : Md P w K mg base (CX P w) 2 C_Share ["self", "top", "bottom"] [.int 1] (spInit C_Share C_NoShare)) :
    FnOk P w K mg base CX0 4 f fd ["one", "other"] (spBin2 C_Share 8000 100 fun q r => q + r) := by
  refine F.ok sc_plus (fun vs H Q E h => ?_) (fun cdv A outer s H vs Q E hr h => ?_)
  · obtain ⟨a, b, q, r, rfl, _⟩ := h
    rfl
  · obtain ⟨a, b, q, r, rfl, ha, hb, hq, hr', k⟩ := h
    refine ⟨_, (pss_one (ps_ret (pe_mkd m_Share (hr.mono (by decide)) T.g_Share passL (pa_cons (pe_op op_add (pe_op op_mulA (pe_fld (pv 0) rfl) (pe_fld (pv 1) rfl)) (pe_op op_mulA (pe_fld (pv 1) rfl) (pe_fld (pv 0) rfl))) (pa_cons (pe_op op_mulA (pe_fld (pv 0) rfl) (pe_fld (pv 1) rfl)) pa_nil))))), ?_⟩
    have hqn := hq.1
    have hrn := hr'.1
    have hqd := den_nat hq
    have hrd := den_nat hr'
    repeat walk_at "rf"
    refine rd_share (Int.mul_ne_zero (den_ne q) (den_ne r)) (pw_lt hqd hrd (by decide)) fun x H' hx e hs => ?_
    rw [add_is] at hs
    exact k x H' hx e hs
abbrev N_minus : List Str := ["one", "other"]
theorem sc_minus : FnScope ["one", "other"] ["one", "other"] (defScope s_minus) := ⟨rfl, rfl, rfl, by decide +kernel, rfl, by decide +kernel, by decide +kernel⟩
theorem ok_minus {f C_Share C_NoShare : Addr} {fd : FuncData} (F : Fun K "minus" "minus" s_minus f fd) (T : TS K mg C_Share C_NoShare) (m_Share : Md P w K mg base (CX P w) 2 C_Share ["self", "top", "bottom"] [.int 1] (spInit C_Share C_NoShare)) :
    FnOk P w K mg base CX0 4 f fd ["one", "other"] (spBin2 C_Share 8000 100 fun q r => q - r) := by
  refine F.ok sc_minus (fun vs H Q E h => ?_) (fun cdv A outer s H vs Q E hr h => ?_)
  · obtain ⟨a, b, q, r, rfl, _⟩ := h
    rfl
  · obtain ⟨a, b, q, r, rfl, ha, hb, hq, hr', k⟩ := h
    refine ⟨_, (pss_one (ps_ret (pe_mkd m_Share (hr.mono (by decide)) T.g_Share passL (pa_cons (pe_op op_sub (pe_op op_mulA (pe_fld (pv 0) rfl) (pe_fld (pv 1) rfl)) (pe_op op_mulA (pe_fld (pv 1) rfl) (pe_fld (pv 0) rfl))) (pa_cons (pe_op op_mulA (pe_fld (pv 0) rfl) (pe_fld (pv 1) rfl)) pa_nil))))), ?_⟩
    have hqn := hq.1
    have hrn := hr'.1
    have hqd := den_nat hq
    have hrd := den_nat hr'
    repeat walk_at "rf"
    refine rd_share (Int.mul_ne_zero (den_ne q) (den_ne r)) (pw_lt hqd hrd (by decide)) fun x H' hx e hs => ?_
    rw [sub_is] at hs
    exact k x H' hx e hs
/-- ==, of two shares -/
def spEq (C : Addr) : Sp := fun vs H Q _ => ∃ (a b : Addr) (q r : Rat), vs = [.ref a, .ref b] ∧ ShAt C H a q ∧ ShAt C H b r ∧ Q (.bl (decide (q = r))) H
theorem rat_eq {q r : Rat} : q = r ↔ q.num = r.num ∧ (q.den : Int) = (r.den : Int) := by
  constructor
  · rintro rfl
    exact ⟨rfl, rfl⟩
  · rintro ⟨a, b⟩
    exact Rat.ext a (by omega)
abbrev N_Share___eq__ : List Str := ["self", "other"]
theorem sc_Share___eq__ : FnScope ["self", "other"] ["self", "other"] (defScope s_Share___eq__) := ⟨rfl, rfl, rfl, by decide +kernel, rfl, by decide +kernel, by decide +kernel⟩
theorem ok_eq {f C_Share C_NoShare : Addr} {fd : FuncData} (F : Fun K "__eq__" "Share.__eq__" s_Share___eq__ f fd) (T : TS K mg C_Share C_NoShare) : FnOk P w K mg base CX0 1 f fd ["self", "other"] (spEq C_Share) := by
  refine F.ok sc_Share___eq__ (fun vs H Q E h => ?_) (fun cdv A outer s H vs Q E hr h => ?_)
  · obtain ⟨a, b, q, r, rfl, _⟩ := h
    rfl
  · obtain ⟨a, b, q, r, rfl, ha, hb, k⟩ := h
    refine ⟨_, (pss_one (ps_ret (pe_and (pe_callB call_isi (by rfl) T.n_isinstance (by decide +kernel) (pa_cons (pv 1) (pa_cons (pe_glob (v := .ref C_Share) rfl T.g_Share rfl) pa_nil))) (pe_and (pe_cmpR op_eq (pe_fld (pv 0) rfl) (pe_fld (pv 1) rfl) (nomark _)) (pe_one (pe_cmpR op_eq (pe_fld (pv 0) rfl) (pe_fld (pv 1) rfl) (nomark _))))))), ?_⟩
    repeat walk_at "rf"
    have z := hb
    obtain ⟨dx, hz⟩ := z
    refine rd_isi (ClsV.own _) (.base (.ins hz T.cl T.cc T.cg T.ct T.cm)) (kit_same (beq_self_eq_true _)) ?_
    repeat walk_at "rf"
    refine iteT ?_
    repeat walk_at "rf"
    refine ite_d (fun c => ?_) (fun c => ?_)
    · repeat walk_at "rf"
      have e : decide ((q.den : Int) = (r.den : Int)) = decide (q = r) := by
        rw [decide_eq_decide, rat_eq]
        exact ⟨fun d => ⟨c, d⟩, fun d => d.2⟩
      rw [e]
      exact k
    · have e : decide (q = r) = false := decide_eq_false (fun d => c (rat_eq.mp d).1)
      rw [e] at k
      exact k
def spLess (C : Addr) (B : Nat) : Sp := fun vs H Q _ => ∃ (a b : Addr) (q r : Rat), vs = [.ref a, .ref b] ∧ ShAt C H a q ∧ ShAt C H b r ∧ Sz B q ∧ Sz B r ∧ Q (.bl (decide (q < r))) H
abbrev N_less : List Str := ["one", "other"]
theorem sc_less : FnScope ["one", "other"] ["one", "other"] (defScope s_less) := ⟨rfl, rfl, rfl, by decide +kernel, rfl, by decide +kernel, by decide +kernel⟩
theorem ok_less {f C_Share C_NoShare : Addr} {fd : FuncData} (F : Fun K "less" "less" s_less f fd) (T : TS K mg C_Share C_NoShare) : FnOk P w K mg base CX0 1 f fd ["one", "other"] (spLess C_Share 8900) := by
  refine F.ok sc_less (fun vs H Q E h => ?_) (fun cdv A outer s H vs Q E hr h => ?_)
  · obtain ⟨a, b, q, r, rfl, _⟩ := h
    rfl
  · obtain ⟨a, b, q, r, rfl, ha, hb, hq, hr', k⟩ := h
    refine ⟨_, (pss_one (ps_ret (pe_cmpR op_lt (pe_op op_mulA (pe_fld (pv 0) rfl) (pe_fld (pv 1) rfl)) (pe_op op_mulA (pe_fld (pv 1) rfl) (pe_fld (pv 0) rfl)) (nomark _)))), ?_⟩
    have hqn := hq.1
    have hrn := hr'.1
    have hqd := den_nat hq
    have hrd := den_nat hr'
    repeat walk_at "rf"
    have e : decide (q.num * (r.den : Int) < r.num * (q.den : Int)) = decide (q < r) := by rw [decide_eq_decide, Rat.lt_iff]
    rw [e]
    exact k
/-- the shares of a list -/
def ShAll (C : Addr) (H : Hp) (as : List Addr) (qs : List Rat) : Prop := as.length = qs.length ∧ ∀ (i : Nat) (a : Addr) (q : Rat), as[i]? = some a → qs[i]? = some q → ShAt C H a q
theorem ShAll.same {C : Addr} {H H' : Hp} {as : List Addr} {qs : List Rat} (h : ShAll C H as qs) (e : Same H H') : ShAll C H' as qs := ⟨h.1, fun i a q x y => (h.2 i a q x y).same e⟩
theorem sh_at {C : Addr} {H : Hp} {as : List Addr} {qs : List Rat} {i : Nat} {x : V} (h : ShAll C H as qs) (e : (as.map V.ref)[i]? = some x) : ∃ a q, x = .ref a ∧ qs[i]? = some q ∧ ShAt C H a q := by
  rw [List.getElem?_map] at e
  cases ea : as[i]? with
  | none =>
    rw [ea] at e
    cases e
  | some a =>
    rw [ea] at e
    cases e
    have hi := (List.getElem?_eq_some_iff.mp ea).1
    rw [h.1] at hi
    exact ⟨a, qs[i], rfl, List.getElem?_eq_getElem hi, h.2 i a _ ea (List.getElem?_eq_getElem hi)⟩
/-- on_one_bottom -/
def spOne1 (K : PySem.W.Frag) (C : Addr) : Sp := fun vs H Q _ => ∃ (l : Addr) (as : List Addr) (qs : List Rat), vs = [.ref l] ∧ SqL K H l (as.map V.ref) ∧ ShAll C H as qs ∧ as.length ≤ 100000 ∧ (∀ q ∈ qs, Sz 4000 q) ∧ lcmAll qs < 2 ^ 8000 ∧
  ∀ t l' H', H t = none → Same H H' → H' t = some (.tup [.ref l', .int ((lcmAll qs : Nat) : Int)]) → H' l' = some (.lst ((topsOf qs).map V.int)) → Q (.ref t) H'
abbrev N_on_one_bottom : List Str := ["shares", "bottom", "share", "tops"]
theorem sc_on_one_bottom : FnScope ["shares", "bottom", "share", "tops"] ["shares"] (defScope s_on_one_bottom) := ⟨rfl, rfl, rfl, by decide +kernel, rfl, by decide +kernel, by decide +kernel⟩
theorem ok_one1 {f C_Share C_NoShare : Addr} {fd : FuncData} (F : Fun K "on_one_bottom" "on_one_bottom" s_on_one_bottom f fd) (T : TS K mg C_Share C_NoShare) (g_lcm : mg "lcm" = some (.builtin "math.lcm")) : FnOk P w K mg base CX0 1 f fd ["shares"] (spOne1 K C_Share) := by
  refine F.ok sc_on_one_bottom (fun vs H Q E h => ?_) (fun cdv A outer s H vs Q E hr h => ?_)
  · obtain ⟨l, as, qs, rfl, _⟩ := h
    rfl
  · obtain ⟨l, as, qs, rfl, hl, hS, hz, hsz, hlc, k⟩ := h
    refine ⟨_, (pss_cons (ps_set (i := 1) sc_on_one_bottom.nd rfl (Or.inr rfl) pe_int)
 (pss_cons (ps_for PassesOwn.never rfl (pi_list (pv 0)) (pg_name (i := 2) sc_on_one_bottom.nd rfl (Or.inl rfl))
 (pss_one (ps_set (i := 1) sc_on_one_bottom.nd rfl (Or.inr rfl) (pe_callBfun cr_lcm (by rfl) g_lcm (pa_cons (pv 1) (pa_cons (pe_fld (pv 2) rfl) pa_nil))))))
 (pss_cons (ps_setLc (i := 3) (own := [("share", 2)]) (g := gName 2) (tt := tYes) (te := (tOp rMulA (tFld K (tVar 2) "top") (tOp rDivA (tVar 1) (tFld K (tVar 2) "bottom")))) (by rfl) sc_on_one_bottom.nd rfl rfl (sw_true rfl rfl rfl (by decide +kernel)) (pi_list (pv 0)) (blkOk_by (own := [("share", 2)]) (N := N_on_one_bottom) (sc := defScope s_on_one_bottom) (by decide +kernel)) (fun _ _ _ _ _ => (pg_name (i := 2) sc_on_one_bottom.nd rfl (Or.inl rfl))) (fun _ _ _ _ _ => pts_nil) (fun _ _ _ _ _ => (pe_op op_mulA (pe_fld (pv 2) rfl) (pe_op op_fdivA (pv 1) (pe_fld (pv 2) rfl)))))
 (pss_one (ps_ret (pe_tup (pa_cons (pv 3) (pa_cons (pv 1) pa_nil)))))))), ?_⟩
    repeat walk_at "rf"
    have foldt : ∀ {n : Nat} {q : Rat}, qs[n]? = some q → (qs.take (n + 1)).foldl (fun n q => Nat.lcm n q.den) 1 = Nat.lcm ((qs.take n).foldl (fun n q => Nat.lcm n q.den) 1) q.den := fun {n q} h => by
      rw [List.take_add_one, h, Option.toList_some, List.foldl_append]
      rfl
    have le13 : ∀ n, (qs.take n).foldl (fun n q => Nat.lcm n q.den) 1 < 2 ^ 13000 := fun n => Nat.lt_of_le_of_lt (lcm_take qs n) (Nat.lt_trans hlc (Nat.pow_lt_pow_right (by decide) (by decide)))
    refine rd_kFor (xs := as.map V.ref) (fun i σ H' => H' = H ∧ ∃ v3 v4, σ = [some (.ref l), some (.int (((qs.take i).foldl (fun n q => Nat.lcm n q.den) 1 : Nat) : Int)), v3, v4]) hl ⟨rfl, _, _, rfl⟩ (fun i σ H' _ ⟨e, _⟩ => by rw [e]; exact hl) ?_ ?_
    · rintro i x σ H' hx ⟨rfl, v3, v4, rfl⟩
      obtain ⟨a, q, rfl, hq, ha⟩ := sh_at hS hx
      have hd := (hsz q (List.mem_of_getElem? hq)).2
      repeat walk_at "rf"
      refine ⟨_, _, rfl, by rw [Int.natAbs_natCast]; exact le13 i, by rw [Int.natAbs_natCast]; exact Nat.lt_trans hd (Nat.pow_lt_pow_right (by decide) (by decide)), ?_⟩
      repeat walk_at "rf"
      refine ⟨rfl, some (V.ref a), v4, ?_⟩
      rw [foldt hq]
      rfl
    · rintro σ H' ⟨e, v3, v4, rfl⟩
      have e' := e.symm
      subst e'
      rw [List.length_map, hS.1, List.take_length]
      change tSeq _ _ _ [_, some (V.int ((lcmAll qs : Nat) : Int)), _, _] _
      have hb := lcm_pos qs
      repeat walk_at "rf"
      refine rd_kLc (fun i acc D H' => Same H H' ∧ acc = ((topsOf qs).take i).map V.int) hl (fun D hD => ⟨Same.new hD, rfl⟩) (fun i acc D H' ⟨e, _⟩ => e.seq hl) ?_ (g_mono _ _) ?_
      · rintro i x acc D H' hD hi hx hacc hlen ⟨e, ea⟩
        obtain ⟨a, q, rfl, hq, ha⟩ := sh_at hS hx
        have ha := ha.same e
        have zq := hsz q (List.mem_of_getElem? hq)
        have zd := den_nat zq
        have dv : CDivA ((lcmAll qs : Nat) : Int) (q.den : Int) := div_b (b := 4000) (den_ne q) zd (by decide) (by decide)
        repeat walk_at "rf"
        refine ⟨rfl, ?_⟩
        repeat walk_at "rf"
        refine rd_divP (by have := q.den_nz; omega) dv ?_
        have zn := zq.1
        have zb : ((((lcmAll qs : Nat) : Int)) / (q.den : Int)).natAbs < 2 ^ 8000 := by
          rw [← Int.natCast_ediv, Int.natAbs_natCast]
          exact Nat.lt_of_le_of_lt (Nat.div_le_self _ _) hlc
        repeat walk_at "rf"
        refine rd_lcEnd hacc hlen (by rw [List.length_map] at hi; omega) ⟨fun b o z => ?_, ?_⟩
        · rw [upd_ne (ne_of_none z hD)]
          exact e _ _ z
        · have ht : (topsOf qs)[i]? = some (q.num * (((lcmAll qs : Nat) : Int) / (q.den : Int))) := by
            unfold topsOf
            rw [List.getElem?_map, hq]
            rfl
          rw [List.take_add_one, ht, ea, Option.toList_some, List.map_append]
          rfl
      · rintro acc D H' hD hlen hacc ⟨e, ea⟩
        repeat walk_at "rf"
        refine rd_kTup rfl fun t ht => ?_
        have et : (topsOf qs).take (as.map V.ref).length = topsOf qs := List.take_of_length_le (by unfold topsOf; rw [List.length_map, List.length_map, hS.1]; exact Nat.le_refl _)
        rw [et] at ea
        refine k t D _ (e.free ht) (fun b o z => Same.new ht _ _ (e _ _ z)) upd_same (Same.new ht _ _ ?_)
        rw [hacc, ea]
/-- the sum of a list of shares -/
def spSum (K : PySem.W.Frag) (C : Addr) : Sp := fun vs H Q _ => ∃ (l : Addr) (as : List Addr) (qs : List Rat), vs = [.ref l] ∧ SqL K H l (as.map V.ref) ∧ ShAll C H as qs ∧ as.length ≤ 100000 ∧ (∀ q ∈ qs, Sz 4000 q) ∧ lcmAll qs < 2 ^ 8000 ∧
  ∀ x H', H x = none → Same H H' → ShAt C H' x qs.sum → Q (.ref x) H'
abbrev N_sum_of : List Str := ["shares", "tops", "bottom"]
theorem sc_sum_of : FnScope ["shares", "tops", "bottom"] ["shares"] (defScope s_sum_of) := ⟨rfl, rfl, rfl, by decide +kernel, rfl, by decide +kernel, by decide +kernel⟩
theorem ok_sum {f C_Share C_NoShare : Addr} {fd : FuncData} (F : Fun K "sum_of" "sum_of" s_sum_of f fd) (T : TS K mg C_Share C_NoShare) (m_Share : Md P w K mg base (CX P w) 2 C_Share ["self", "top", "bottom"] [.int 1] (spInit C_Share C_NoShare))
    (d_on_one_bottom : Df P w K mg base CX0 1 "on_one_bottom" ["shares"] (spOne1 K C_Share)) : FnOk P w K mg base CX0 4 f fd ["shares"] (spSum K C_Share) := by
  refine F.ok sc_sum_of (fun vs H Q E h => ?_) (fun cdv A outer s H vs Q E hr h => ?_)
  · obtain ⟨l, as, qs, rfl, _⟩ := h
    rfl
  · obtain ⟨l, as, qs, rfl, hl, hS, hz, hsz, hlc, k⟩ := h
    refine ⟨_, (pss_cons (ps_asg (pe_df d_on_one_bottom (hr.mono (by decide)) pass0 (pa_cons (pv 0) pa_nil)) (pg_tup (by rfl) (pgs_cons (pg_name (i := 1) sc_sum_of.nd rfl (Or.inl rfl)) (pgs_cons (pg_name (i := 2) sc_sum_of.nd rfl (Or.inl rfl)) pgs_nil))))
 (pss_one (ps_ret (pe_mkd m_Share (hr.mono (by decide)) T.g_Share passL (pa_cons (pe_callB (cr_sum rfl) (by rfl) T.n_sum (by decide +kernel) (pa_cons (pv 1) pa_nil)) (pa_cons (pv 2) pa_nil)))))), ?_⟩
    repeat walk_at "rf"
    refine ⟨l, as, qs, rfl, hl, hS, hz, hsz, hlc, fun t l' H1 _ e1 ht hl' => ?_⟩
    have st : SqT K H1 t [.ref l', .int ((lcmAll qs : Nat) : Int)] := SqT.of ht
    repeat walk_at "rf"
    refine rd_sum (SqL.of hl') (by unfold topsOf; rw [List.length_map, ← hS.1]; exact hz) ?_
    repeat walk_at "rf"
    refine rd_share (by have := lcm_pos qs; omega) (by rw [Int.natAbs_natCast]; exact Nat.lt_trans hlc (Nat.pow_lt_pow_right (by decide) (by decide))) fun x H2 hx e2 hs => ?_
    rw [tops_sum] at hs
    exact k x H2 (e1.free hx) (fun b o z => e2 b o (e1 b o z)) hs
theorem But.fresh {p T : Addr} {H H' : Hp} {N : Nat} (e : But p H H') (w : WellAt H' p N) (h : H' T = none) : H T = none := by
  cases q : H T with
  | none => rfl
  | some o =>
    rcases Classical.em (T = p) with rfl | n
    · obtain ⟨_, _, _, e, _⟩ := w
      rw [e] at h
      cases h
    · rw [e T o n q] at h
      cases h
/-- the law's list of cells is one of ints -/
theorem cells_int {ns : List Int} {lo hi : Option Int} {x : V} {i : Nat} {m1 m2 : Int} (h : (cutV (ns.map V.int) lo hi ++ [V.int m1, V.int m2])[i]? = some x) : ∃ z, x = V.int z := by
  have m := List.mem_of_getElem? h
  rcases List.mem_append.mp m with m | m
  · have m' := List.mem_of_mem_drop (List.mem_of_mem_take m)
    obtain ⟨z, _, rfl⟩ := List.mem_map.mp m'
    exact ⟨z, rfl⟩
  · simp only [List.mem_cons, List.not_mem_nil, or_false] at m
    rcases m with rfl | rfl <;> exact ⟨_, rfl⟩
def spLaw (K : PySem.W.Frag) : Sp := fun vs H Q _ => ∃ (a : Addr) (ns : List Int), vs = [.ref a] ∧ SqL K H a (ns.map V.int) ∧ ns.length ≤ 63 ∧ ∀ H', Q (.bl true) H'
end
theorem sz_add2 {A B : Nat} {q r : Rat} (hq : Sz A q) (hr : Sz B r) : Sz (A + B + 1) (q + r) := by
  rw [← add_is]
  refine Sz.of (Int.mul_ne_zero (den_ne q) (den_ne r)) (add_lt ?_ ?_) ?_
  · rw [Int.natAbs_mul, Int.natAbs_natCast, Nat.pow_add]
    exact Nat.mul_lt_mul'' hq.1 hr.2
  · rw [Int.natAbs_mul, Int.natAbs_natCast, Nat.mul_comm, Nat.pow_add]
    exact Nat.mul_lt_mul'' hq.2 hr.1
  · rw [Int.natAbs_mul, Int.natAbs_natCast, Int.natAbs_natCast, Nat.pow_succ, Nat.pow_add]
    have := Nat.mul_lt_mul'' hq.2 hr.2
    omega
theorem sz_sum {B : Nat} : ∀ (qs : List Rat), (∀ q ∈ qs, Sz B q) → Sz (qs.length * (B + 1) + 1) qs.sum
  | [], _ => ⟨(show (0 : Rat).num.natAbs < _ from Nat.two_pow_pos _), (show (0 : Rat).den < _ from Nat.one_lt_two_pow (by omega))⟩
  | q :: r, h => by
    rw [List.sum_cons]
    refine (sz_add2 (h q (List.mem_cons_self ..)) (sz_sum r fun x hx => h x (List.mem_cons_of_mem _ hx))).mono ?_
    rw [List.length_cons, Nat.succ_mul]
    omega
section
variable {P : Program} {w : World} {K : PySem.W.Frag} {mg : Str → Option Value} {base : Heap}
local macro_rules | `(tactic| walk_at "rg") => `(tactic| (first
  | walk_at "rt"
  | ((with_reducible refine' My.rd_top ?ht ?hs ?_); (case ht => assumption); (case hs => assumption))
  | ((with_reducible refine' My.rd_bot ?ht ?hs ?_); (case ht => assumption); (case hs => assumption))
  | ((with_reducible refine My.rd_mul ?hc ?_); (case hc => first | assumption | exact My.mul_b (by assumption) (by assumption) (by decide)))))
local macro_rules | `(tactic| walk_at "rf") => `(tactic| (first | walk_at "rg" | (with_reducible refine My.rd_ifS ?_)))
theorem WellAt.ne_at {H : Hp} {p l : Addr} {N : Nat} {xs : List V} (w : WellAt H p N) (h : H l = some (.lst xs)) (n : xs.length ≠ 3) : l ≠ p := by
  obtain ⟨a, b, c, e, _⟩ := w
  refine ne_of h e fun y => ?_
  injection y with y
  rw [y] at n
  exact n rfl
theorem WellAt.off {H : Hp} {p S : Addr} {N : Nat} {o : HO} (w : WellAt H p N) (n : S ≠ p) : WellAt (upd H S o) p N := by
  obtain ⟨a, b, c, e, r⟩ := w
  exact ⟨a, b, c, by rw [upd_ne n.symm]; exact e, r⟩
theorem ShAt.off {C a S : Addr} {H : Hp} {q : Rat} {xs ys : List V} (h : ShAt C H a q) (hS : H S = some (.lst xs)) : ShAt C (upd H S (.lst ys)) a q := by
  obtain ⟨dx, z⟩ := h
  exact ⟨dx, by rw [upd_ne (ne_of z hS (fun y => nomatch y))]; exact z⟩
theorem ShAll.snoc {C : Addr} {H : Hp} {as : List Addr} {qs : List Rat} {a : Addr} {q : Rat} (h : ShAll C H as qs) (g : ShAt C H a q) : ShAll C H (as ++ [a]) (qs ++ [q]) := by
  refine ⟨by rw [List.length_append, List.length_append, h.1]; rfl, fun i x y h1 h2 => ?_⟩
  have l := h.1
  by_cases hi : i < as.length
  · rw [List.getElem?_append_left hi] at h1
    rw [List.getElem?_append_left (by omega)] at h2
    exact h.2 i x y h1 h2
  · rw [List.getElem?_append_right (by omega)] at h1
    rw [List.getElem?_append_right (by omega)] at h2
    have e : i - as.length = 0 := by
      have := (List.getElem?_eq_some_iff.mp h1).1
      simp at this
      omega
    rw [e] at h1
    rw [show i - qs.length = 0 by omega] at h2
    simp at h1 h2
    subst h1
    subst h2
    exact g
theorem ShAll.off {C S : Addr} {H : Hp} {as : List Addr} {qs : List Rat} {xs ys : List V} (h : ShAll C H as qs) (hS : H S = some (.lst xs)) : ShAll C (upd H S (.lst ys)) as qs := ⟨h.1, fun i a q x y => (h.2 i a q x y).off hS⟩
theorem ShAll.nil {C : Addr} {H : Hp} : ShAll C H [] [] := ⟨rfl, fun i a q h => by simp at h⟩
theorem ShAll.app {C : Addr} {H : Hp} {as bs : List Addr} {qs rs : List Rat} (h : ShAll C H as qs) (g : ShAll C H bs rs) : ShAll C H (as ++ bs) (qs ++ rs) := by
  have l := h.1
  refine ⟨by rw [List.length_append, List.length_append, h.1, g.1], fun i x y h1 h2 => ?_⟩
  by_cases hi : i < as.length
  · rw [List.getElem?_append_left hi] at h1
    rw [List.getElem?_append_left (by omega)] at h2
    exact h.2 i x y h1 h2
  · rw [List.getElem?_append_right (by omega)] at h1
    rw [List.getElem?_append_right (by omega)] at h2
    exact g.2 (i - as.length) x y h1 (by rw [l]; exact h2)
theorem ShAll.rep {C a : Addr} {H : Hp} {q : Rat} {n : Nat} (h : ShAt C H a q) : ShAll C H (List.replicate n a) (List.replicate n q) := by
  refine ⟨by rw [List.length_replicate, List.length_replicate], fun i x y h1 h2 => ?_⟩
  have e1 := (List.mem_replicate.mp (List.mem_of_getElem? h1)).2
  have e2 := (List.mem_replicate.mp (List.mem_of_getElem? h2)).2
  rw [e1, e2]
  exact h
/-- at l stands a list of shares -/
def LsAt (C : Addr) (H : Hp) (l : Addr) (as : List Addr) (qs : List Rat) : Prop := H l = some (.lst (as.map V.ref)) ∧ ShAll C H as qs
theorem LsAt.same {C l : Addr} {H H' : Hp} {as : List Addr} {qs : List Rat} (h : LsAt C H l as qs) (e : Same H H') : LsAt C H' l as qs := ⟨e _ _ h.1, h.2.same e⟩
/-- a row of shares and its sum, a pair -/
def Row6 (C : Addr) (H : Hp) (T : Addr) : Prop := ∃ (l d : Addr) (as : List Addr) (qs : List Rat) (B : Nat), H T = some (.tup [.ref l, .ref d]) ∧ LsAt C H l as qs ∧ ShAt C H d qs.sum ∧ (∀ q ∈ qs, Sz B q) ∧ B ≤ 100 ∧ qs.length * (B + 1) + 1 ≤ 7000
theorem Row6.same {C T : Addr} {H H' : Hp} (h : Row6 C H T) (e : Same H H') : Row6 C H' T := by
  obtain ⟨l, d, as, qs, B, h1, h2, h3, h4⟩ := h
  exact ⟨l, d, as, qs, B, e _ _ h1, h2.same e, h3.same e, h4⟩
theorem Same.trans' {H H1 H2 : Hp} (a : Same H H1) (b : Same H1 H2) : Same H H2 := fun c o h => b c o (a c o h)
theorem Same.updS {H H1 : Hp} {S : Addr} {o : HO} (e : Same H H1) (h : H S = none) : Same H (upd H1 S o) := fun c u q => by rw [upd_ne (ne_of_none q h)]; exact e c u q
theorem rd_neO {C a b : Addr} {H : Hp} {q r : Rat} {Q : VK} (ha : ShAt C H a q) (hb : ShAt C H b r) (k : Q (.bl (!decide (q = r))) H) : rNeO C (spEq C) (.ref a) (.ref b) H Q := by
  obtain ⟨dx, h1⟩ := id ha
  obtain ⟨dy, h2⟩ := id hb
  exact ⟨a, dx, _, b, dy, _, rfl, rfl, h1, h2, a, b, q, r, rfl, ha, hb, _, rfl, k⟩
theorem rd_eqO {C a b : Addr} {H : Hp} {q r : Rat} {Q : VK} (ha : ShAt C H a q) (hb : ShAt C H b r) (k : Q (.bl (decide (q = r))) H) : rEqO C (spEq C) (.ref a) (.ref b) H Q := by
  obtain ⟨dx, h1⟩ := id ha
  obtain ⟨dy, h2⟩ := id hb
  exact ⟨a, dx, _, b, dy, _, rfl, rfl, h1, h2, a, b, q, r, rfl, ha, hb, k⟩
theorem sz_neg {B : Nat} {q : Rat} (h : Sz B q) : Sz B (Rat.divInt 0 1 - q) := by
  have z : Rat.divInt 0 1 = 0 := by decide +kernel
  rw [z, Rat.sub_eq_add_neg, Rat.zero_add]
  exact ⟨by rw [Rat.neg_num, Int.natAbs_neg]; exact h.1, by rw [Rat.neg_den]; exact h.2⟩
theorem take_map_snoc {f : Rat → Rat} {qs : List Rat} {i : Nat} {q : Rat} (h : qs[i]? = some q) : (qs.take (i + 1)).map f = (qs.take i).map f ++ [f q] := by
  rw [List.take_add_one, h, Option.toList_some, List.map_append]
  rfl
theorem rep_flat (n : Nat) (x : Addr) : (List.replicate n [V.ref x]).flatten = (List.replicate n x).map V.ref := by
  induction n with
  | zero => rfl
  | succ n ih =>
    rw [List.replicate_succ, List.flatten_cons, ih, List.replicate_succ]
    rfl
def spRows6 (C : Addr) : Sp := fun vs H Q _ => ∃ m b : Int, vs = [.int m, .int b] ∧ 1 ≤ m ∧ m ≤ 200 ∧ 2 ≤ b ∧ b ≤ 10 ∧ ∀ L (Ts : List Addr) H', Same H H' → H' L = some (.lst (Ts.map V.ref)) → (∀ T ∈ Ts, Row6 C H' T) → Q (.ref L) H'
abbrev N__law_rows : List Str := ["_law_many", "_law_by", "_law_near", "_law_k", "_law_beneath", "_law_parts", "_law_odd", "_law_found", "_law_one_here"]
theorem sc__law_rows : FnScope ["_law_many", "_law_by", "_law_near", "_law_k", "_law_beneath", "_law_parts", "_law_odd", "_law_found", "_law_one_here"] ["_law_many", "_law_by"] (defScope s__law_rows) := ⟨rfl, rfl, rfl, by decide +kernel, rfl, by decide +kernel, by decide +kernel⟩
theorem ok_rows6 {f C_Share C_NoShare : Addr} {fd : FuncData} (F : Fun K "_law_rows" "_law_rows" s__law_rows f fd) (T : TS K mg C_Share C_NoShare) (m_Share : Md P w K mg base (CX P w) 2 C_Share ["self", "top", "bottom"] [.int 1] (spInit C_Share C_NoShare))
    (d_minus : Df P w K mg base CX0 4 "minus" ["one", "other"] (spBin2 C_Share 8000 100 fun q r => q - r)) : FnOk P w K mg base CX0 5 f fd ["_law_many", "_law_by"] (spRows6 C_Share) := by
  refine F.ok sc__law_rows (fun vs H Q E h => ?_) (fun cdv A outer s H vs Q E hr h => ?_)
  · obtain ⟨m, b, rfl, _⟩ := h
    rfl
  · obtain ⟨m, b, rfl, hm1, hm2, hb1, hb2, k⟩ := h
    refine ⟨_, (pss_cons (ps_setLc (i := 2) (own := [("_law_k", 3)]) (g := gName 3) (tt := tYes) (te := (tMake C_Share (spInit C_Share C_NoShare) [] E0 (tCons (tC (V.int (1))) (tCons (tOp rMulA (tVar 3) (tOp (rI0 fun i j => V.int (i + j)) (tVar 3) (tC (V.int (1))))) tNil)))) (by rfl) sc__law_rows.nd rfl rfl (sw_true rfl rfl rfl (by decide +kernel)) (pi_range2 (by rfl) T.n_range (pa_cons pe_int (pa_cons (pe_op op_add (pv 0) pe_int) pa_nil))) (blkOk_by (own := [("_law_k", 3)]) (N := N__law_rows) (sc := defScope s__law_rows) (by decide +kernel)) (fun _ _ _ _ _ => (pg_name (i := 3) sc__law_rows.nd rfl (Or.inl rfl))) (fun _ _ _ _ _ => pts_nil) (fun _ _ _ _ _ => (pe_mkd m_Share (hr.mono (by decide)) T.g_Share passL (pa_cons pe_int (pa_cons (pe_op op_mulA (pv 3) (pe_op op_add (pv 3) pe_int)) pa_nil)))))
 (pss_cons (ps_set (i := 4) sc__law_rows.nd rfl (Or.inl rfl) pe_int)
 (pss_cons (ps_set (i := 5) sc__law_rows.nd rfl (Or.inl rfl) (pe_lst pa_nil))
 (pss_cons (ps_for PassesOwn.never rfl (pi_range1 (by rfl) T.n_range (pa_cons (pe_op op_add (pe_op op_fdivA (pv 0) pe_int) pe_int) pa_nil)) (pg_name (i := 3) sc__law_rows.nd rfl (Or.inl rfl))
 (pss_cons (ps_set (i := 4) sc__law_rows.nd rfl (Or.inl rfl) (pe_op op_mulA (pv 4) (pv 1)))
 (pss_one (ps_expr (pe_bm PySem.F.plainAttrs_list PySem.F.slot_list_append PySem.F.type_list_append mt_append (pv 5) (pa_cons (pe_mkd m_Share (hr.mono (by decide)) T.g_Share passL (pa_cons (pe_op op_sub (pv 1) pe_int) (pa_cons (pv 4) pa_nil))) pa_nil))))))
 (pss_cons (ps_setLc (i := 6) (own := [("_law_k", 3)]) (g := gName 3) (tt := tYes) (te := (tMake C_Share (spInit C_Share C_NoShare) [] E0 (tCons (tOp (rI0 fun i j => V.int (i + j)) (tOp rMulA (tC (V.int (2))) (tVar 3)) (tC (V.int (1)))) (tCons (tOp rMulA (tVar 0) (tVar 0)) tNil)))) (by rfl) sc__law_rows.nd rfl rfl (sw_true rfl rfl rfl (by decide +kernel)) (pi_range1 (by rfl) T.n_range (pa_cons (pv 0) pa_nil)) (blkOk_by (own := [("_law_k", 3)]) (N := N__law_rows) (sc := defScope s__law_rows) (by decide +kernel)) (fun _ _ _ _ _ => (pg_name (i := 3) sc__law_rows.nd rfl (Or.inl rfl))) (fun _ _ _ _ _ => pts_nil) (fun _ _ _ _ _ => (pe_mkd m_Share (hr.mono (by decide)) T.g_Share passL (pa_cons (pe_op op_add (pe_op op_mulA pe_int (pv 3)) pe_int) (pa_cons (pe_op op_mulA (pv 0) (pv 0)) pa_nil)))))
 (pss_cons (ps_set (i := 7) sc__law_rows.nd rfl (Or.inl rfl) (pe_lst (pa_cons (pe_tup (pa_cons (pv 2) (pa_cons (pe_mkd m_Share (hr.mono (by decide)) T.g_Share passL (pa_cons (pv 0) (pa_cons (pe_op op_add (pv 0) pe_int) pa_nil))) pa_nil))) (pa_cons (pe_tup (pa_cons (pv 5) (pa_cons (pe_mkd m_Share (hr.mono (by decide)) T.g_Share passL (pa_cons (pe_op op_sub (pv 4) pe_int) (pa_cons (pv 4) pa_nil))) pa_nil))) (pa_cons (pe_tup (pa_cons (pv 6) (pa_cons (pe_mkd1 m_Share (hr.mono (by decide)) T.g_Share passL (pa_cons pe_int pa_nil)) pa_nil))) pa_nil)))))
 (pss_one (ps_ret (pe_op op_cat (pv 7) (pe_lst (pa_cons (pe_tup (pa_cons (pe_op op_cat (pv 2) (pe_lc (own := [("_law_one_here", 8)]) (g := gName 8) (tt := tYes) (te := (tCall (spBin2 C_Share 8000 100 fun q r => q - r) [] E0 (tCons (tMake C_Share (spInit C_Share C_NoShare) [.int 1] E0 (tCons (tC (V.int (0))) tNil)) (tCons (tVar 8) tNil)))) (by rfl) sc__law_rows.nd (pi_list (pv 2)) (blkOk_by (own := [("_law_one_here", 8)]) (N := N__law_rows) (sc := defScope s__law_rows) (by decide +kernel)) (fun _ _ _ _ _ => (pg_name (i := 8) sc__law_rows.nd rfl (Or.inl rfl))) (fun _ _ _ _ _ => pts_nil) (fun _ _ _ _ _ => (pe_df d_minus (hr.mono (by decide)) pass0 (pa_cons (pe_mkd1 m_Share (hr.mono (by decide)) T.g_Share passL (pa_cons pe_int pa_nil)) (pa_cons (pv 8) pa_nil)))))) (pa_cons (pe_mkd1 m_Share (hr.mono (by decide)) T.g_Share passL (pa_cons pe_int pa_nil)) pa_nil))) (pa_cons (pe_tup (pa_cons (pe_op op_rep (pe_lst (pa_cons (pe_mkd m_Share (hr.mono (by decide)) T.g_Share passL (pa_cons (pv 1) (pa_cons (pv 0) pa_nil))) pa_nil)) (pv 0)) (pa_cons (pe_mkd1 m_Share (hr.mono (by decide)) T.g_Share passL (pa_cons (pv 1) pa_nil)) pa_nil))) pa_nil)))))))))))), ?_⟩
    obtain ⟨n, rfl⟩ : ∃ n : Nat, m = (n : Int) := ⟨m.toNat, by omega⟩
    have hp : ∀ i : Nat, i ≤ 26 → (b ^ i).natAbs < 2 ^ 100 := fun i hi => by
      rw [Int.natAbs_pow]
      exact Nat.lt_of_le_of_lt (Nat.le_trans (Nat.pow_le_pow_left (show b.natAbs ≤ 10 by omega) i) (Nat.pow_le_pow_right (by decide) hi)) (by decide)
    have hb0 : ∀ i : Nat, b ^ i ≠ 0 := fun i => Int.ne_of_gt (Int.pow_pos (by omega))
    have up : ∀ {x : Int}, x.natAbs < 2 ^ 100 → x.natAbs < 2 ^ 8999 := fun h => Nat.lt_trans h (Nat.pow_lt_pow_right (by decide) (by decide))
    have up2 : ∀ {x : Int}, x.natAbs < 2 ^ 16 → x.natAbs < 2 ^ 8999 := fun h => Nat.lt_trans h (Nat.pow_lt_pow_right (by decide) (by decide))
    repeat walk_at "rg"
    -- near
    refine ⟨1, (n : Int) + 1, rfl, by omega, rd_kLcN (fun i acc D H' => Same H H' ∧ ∃ as : List Addr, acc = as.map V.ref ∧ ShAll C_Share H' as ((List.range i).map nearQ)) (fun D hD => ⟨Same.new hD, [], rfl, ShAll.nil⟩) ?_ (g_mono _ _) ?_⟩
    · rintro i acc D H1 hD hi hacc hlen ⟨e, as, rfl, hS⟩
      have hi2 : i < 200 := by omega
      have lt1 : (1 + (i : Int)) * (1 + (i : Int) + 1) < 65536 := by
        have := Int.mul_le_mul (show 1 + (i : Int) ≤ 200 by omega) (show 1 + (i : Int) + 1 ≤ 201 by omega) (by omega) (by omega)
        omega
      have gt1 : 0 < (1 + (i : Int)) * (1 + (i : Int) + 1) := Int.mul_pos (by omega) (by omega)
      repeat walk_at "rg"
      refine ⟨rfl, ?_⟩
      repeat walk_at "rg"
      refine rd_share (by omega) (up2 (by omega)) fun x H2 hx e2 hs => ?_
      refine rd_lcEnd (e2 _ _ hacc) hlen (by omega) ⟨Same.updS (Same.trans' e e2) hD, as ++ [x], by rw [List.map_append]; rfl, ?_⟩
      rw [List.range_succ, List.map_append]
      exact ((hS.same e2).snoc hs).off (e2 _ _ hacc)
    rintro acc D1 H1 hD1 hlen1 hacc1 ⟨e1, as1, rfl, hS1⟩
    have en : ((n : Int) + 1 - 1).toNat = n := by omega
    rw [en] at hS1
    have L1 : LsAt C_Share H1 D1 as1 ((List.range n).map nearQ) := ⟨hacc1, hS1⟩
    clear hS1 hacc1
    have near_sz : ∀ q ∈ (List.range n).map nearQ, Sz 16 q := fun q hq => by
      obtain ⟨i, hi, rfl⟩ := List.mem_map.mp hq
      have hi2 : i < n := List.mem_range.mp hi
      have lt1 : (1 + (i : Int)) * (1 + (i : Int) + 1) < 65536 := by
        have := Int.mul_le_mul (show 1 + (i : Int) ≤ 200 by omega) (show 1 + (i : Int) + 1 ≤ 201 by omega) (by omega) (by omega)
        omega
      have gt1 : 0 < (1 + (i : Int)) * (1 + (i : Int) + 1) := Int.mul_pos (by omega) (by omega)
      exact Sz.of (by omega) (by decide) (by omega)
    repeat walk_at "rg"
    refine rd_kLst rfl fun S hS => ?_
    have s2 := Same.new (o := .lst []) hS
    have hHS : H S = none := Same.free e1 hS
    have e2 := Same.trans' e1 s2
    replace L1 := L1.same s2
    have L2 : LsAt C_Share (upd H1 S (.lst [])) S [] ((List.range 0).map (partQ b)) := ⟨upd_same, ShAll.nil⟩
    generalize upd H1 S (.lst []) = H2 at *
    clear s2 hS e1
    have hne : S ≠ D1 := fun z => by
      have y := hlen1
      rw [en] at y
      have a1 := L1.1
      rw [← z, L2.1] at a1
      injection a1 with a1
      injection a1 with a1
      rw [List.map_nil] at a1
      rw [← a1] at y
      simp at y
      omega
    repeat walk_at "rg"
    -- parts
    refine rd_kRng1 (by omega) (by omega) (fun i σ H' => ∃ v3 as, σ = [some (.int (n : Int)), some (.int b), some (.ref D1), v3, some (.int (b ^ i)), some (.ref S), none, none, none] ∧ Same H H' ∧ LsAt C_Share H' D1 as1 ((List.range n).map nearQ) ∧ LsAt C_Share H' S as ((List.range i).map (partQ b)))
      ⟨_, [], (by rw [Int.pow_zero]; rfl), e2, L1, L2⟩ ?_ ?_
    · rintro i σ H3 hi ⟨v3, as, rfl, e3, L1, L2⟩
      have hi2 : i < 26 := by omega
      have l2 := L2.1
      repeat walk_at "rg"
      rw [← Int.pow_succ]
      refine rd_share (hb0 _) (up (hp _ (by omega))) fun x H4 hx e4 hs => ?_
      replace L1 := L1.same e4
      replace L2 := L2.same e4
      refine rd_kApp L2.1 (by rw [List.length_map, L2.2.1, List.length_map, List.length_range]; omega) ?_
      refine ⟨_, as ++ [x], rfl, Same.updS (Same.trans' e3 e4) hHS, ⟨by rw [upd_ne hne.symm]; exact L1.1, L1.2.off L2.1⟩, by rw [upd_same, List.map_append]; rfl, ?_⟩
      rw [List.range_succ, List.map_append]
      exact (L2.2.snoc hs).off L2.1
    rintro σ H3 ⟨v3, as2, rfl, e3, L1, L2⟩
    clear hne hlen1 e2
    have hk : ((n : Int) / 8 + 1).toNat ≤ 26 := by omega
    generalize ((n : Int) / 8 + 1).toNat = k8 at *
    have part_sz : ∀ q ∈ (List.range k8).map (partQ b), Sz 100 q := fun q hq => by
      obtain ⟨i, hi, rfl⟩ := List.mem_map.mp hq
      have hi2 : i < k8 := List.mem_range.mp hi
      exact Sz.of (hb0 _) (by omega) (hp _ (by omega))
    repeat walk_at "rg"
    -- odd
    have nn : (n : Int) * (n : Int) < 65536 := by
      have := Int.mul_le_mul (show (n : Int) ≤ 200 by omega) (show (n : Int) ≤ 200 by omega) (by omega) (by omega)
      omega
    have np : 0 < (n : Int) * (n : Int) := Int.mul_pos (by omega) (by omega)
    refine ⟨(n : Int), rfl, by omega, by omega, rd_kLcN (fun i acc D H' => Same H3 H' ∧ ∃ as : List Addr, acc = as.map V.ref ∧ ShAll C_Share H' as ((List.range i).map (oddQ n))) (fun D hD => ⟨Same.new hD, [], rfl, ShAll.nil⟩) ?_ (g_mono _ _) ?_⟩
    · rintro i acc D H4 hD hi hacc hlen ⟨e, as, rfl, hS⟩
      repeat walk_at "rg"
      refine ⟨rfl, ?_⟩
      repeat walk_at "rg"
      refine rd_share (by omega) (up2 (by omega)) fun x H5 hx e5 hs => ?_
      rw [Int.zero_add] at hs
      refine rd_lcEnd (e5 _ _ hacc) hlen (by omega) ⟨Same.updS (Same.trans' e e5) hD, as ++ [x], by rw [List.map_append]; rfl, ?_⟩
      rw [List.range_succ, List.map_append]
      exact ((hS.same e5).snoc hs).off (e5 _ _ hacc)
    rintro acc D3 H4 hD3 hlen3 hacc3 ⟨e4, as3, rfl, hS3⟩
    have en : (n : Int).toNat = n := by omega
    rw [en] at hS3
    have L3 : LsAt C_Share H4 D3 as3 ((List.range n).map (oddQ n)) := ⟨hacc3, hS3⟩
    clear hS3 hacc3 hlen3
    replace L1 := L1.same e4
    replace L2 := L2.same e4
    replace e4 := Same.trans' e3 e4
    have odd_sz : ∀ q ∈ (List.range n).map (oddQ n), Sz 16 q := fun q hq => by
      obtain ⟨i, hi, rfl⟩ := List.mem_map.mp hq
      have hi2 : i < n := List.mem_range.mp hi
      exact Sz.of (by omega) (by omega) (by omega)
    repeat walk_at "rg"
    -- (near, Share(many, many + 1))
    refine rd_share (by omega) (up2 (by omega)) fun x1 H5 hx1 s5 hs1 => ?_
    replace e4 := Same.trans' e4 s5
    replace L1 := L1.same s5
    replace L2 := L2.same s5
    replace L3 := L3.same s5
    clear s5
    repeat walk_at "rg"
    refine rd_kTup rfl fun T1 hT1 => ?_
    have s6 := Same.new (o := .tup [.ref D1, .ref x1]) hT1
    have g1 : Row6 C_Share (upd H5 T1 (.tup [.ref D1, .ref x1])) T1 := ⟨D1, x1, as1, _, 16, upd_same, L1.same s6, by rw [near_sum]; exact hs1.same s6, near_sz, by decide, by rw [List.length_map, List.length_range]; omega⟩
    replace e4 := Same.trans' e4 s6
    replace L1 := L1.same s6
    replace L2 := L2.same s6
    replace L3 := L3.same s6
    generalize upd H5 T1 (.tup [.ref D1, .ref x1]) = H6 at *
    clear s6
    repeat walk_at "rg"
    refine rd_share (hb0 _) (up (hp _ (by omega))) fun x2 H7 hx2 s7 hs2 => ?_
    replace e4 := Same.trans' e4 s7
    replace L1 := L1.same s7
    replace L2 := L2.same s7
    replace L3 := L3.same s7
    replace g1 := g1.same s7
    clear s7
    repeat walk_at "rg"
    refine rd_kTup rfl fun T2 hT2 => ?_
    have s8 := Same.new (o := .tup [.ref S, .ref x2]) hT2
    have g2 : Row6 C_Share (upd H7 T2 (.tup [.ref S, .ref x2])) T2 := ⟨S, x2, as2, _, 100, upd_same, L2.same s8, by rw [part_sum b (by omega)]; exact hs2.same s8, part_sz, by decide, by rw [List.length_map, List.length_range]; omega⟩
    replace e4 := Same.trans' e4 s8
    replace L1 := L1.same s8
    replace L3 := L3.same s8
    replace g1 := g1.same s8
    generalize upd H7 T2 (.tup [.ref S, .ref x2]) = H8 at *
    clear s8
    repeat walk_at "rg"
    refine rd_share1 fun x3 H9 hx3 s9 hs3 => ?_
    replace e4 := Same.trans' e4 s9
    replace L1 := L1.same s9
    replace L3 := L3.same s9
    replace g1 := g1.same s9
    replace g2 := g2.same s9
    clear s9
    repeat walk_at "rg"
    refine rd_kTup rfl fun T3 hT3 => ?_
    have s10 := Same.new (o := .tup [.ref D3, .ref x3]) hT3
    have g3 : Row6 C_Share (upd H9 T3 (.tup [.ref D3, .ref x3])) T3 := ⟨D3, x3, as3, _, 16, upd_same, L3.same s10, by rw [odd_all n (by omega)]; exact hs3.same s10, odd_sz, by decide, by rw [List.length_map, List.length_range]; omega⟩
    replace e4 := Same.trans' e4 s10
    replace L1 := L1.same s10
    replace g1 := g1.same s10
    replace g2 := g2.same s10
    generalize upd H9 T3 (.tup [.ref D3, .ref x3]) = H10 at *
    clear s10
    repeat walk_at "rg"
    refine rd_kLst rfl fun G hG => ?_
    have s11 := Same.new (o := .lst [.ref T1, .ref T2, .ref T3]) hG
    have hg := upd_same (H := H10) (a := G) (o := .lst [.ref T1, .ref T2, .ref T3])
    replace e4 := Same.trans' e4 s11
    replace L1 := L1.same s11
    replace g1 := g1.same s11
    replace g2 := g2.same s11
    replace g3 := g3.same s11
    generalize upd H10 G (.lst [.ref T1, .ref T2, .ref T3]) = H11 at *
    clear s11
    repeat walk_at "rg"
    -- near and what takes it away again
    refine rd_kLc (fun i acc D H' => Same H11 H' ∧ ∃ as : List Addr, acc = as.map V.ref ∧ ShAll C_Share H' as ((((List.range n).map nearQ).take i).map fun q => Rat.divInt 0 1 - q)) (SqL.of L1.1) (fun D hD => ⟨Same.new hD, [], rfl, ShAll.nil⟩) (fun i acc D H' ⟨e, _⟩ => SqL.of (e _ _ L1.1)) ?_ (g_mono _ _) ?_
    · rintro i x acc D H12 hD hi hx hacc hlen ⟨e, as, rfl, hS⟩
      obtain ⟨y, q, rfl, hq, hy⟩ := sh_at L1.2 hx
      have zq := near_sz q (List.mem_of_getElem? hq)
      repeat walk_at "rg"
      refine ⟨rfl, ?_⟩
      repeat walk_at "rg"
      refine rd_share1 fun x0 H13 hx0 e13 hs0 => ?_
      repeat walk_at "rg"
      refine ⟨x0, y, _, q, rfl, hs0, (hy.same e).same e13, Sz.of (by decide) (Nat.two_pow_pos _) (Nat.one_lt_two_pow (by decide)), zq.mono (by decide), fun x H14 hx14 e14 hs => ?_⟩
      replace e13 := Same.trans' e13 e14
      refine rd_lcEnd (e13 _ _ hacc) hlen (by rw [List.length_map, L1.2.1, List.length_map, List.length_range] at hi; omega) ⟨Same.updS (Same.trans' e e13) hD, as ++ [x], by rw [List.map_append]; rfl, ?_⟩
      rw [take_map_snoc hq]
      exact ((hS.same e13).snoc hs).off (e13 _ _ hacc)
    rintro acc D4 H12 hD4 hlen4 hacc4 ⟨s12, as4, rfl, hS4⟩
    rw [List.take_of_length_le (by have z := L1.2.1; rw [List.length_map] at z ⊢; rw [List.length_map] ; omega)] at hS4
    replace e4 := Same.trans' e4 s12
    replace L1 := L1.same s12
    replace g1 := g1.same s12
    replace g2 := g2.same s12
    replace g3 := g3.same s12
    replace hg := s12 _ _ hg
    clear s12
    have la1 : as1.length = n := by rw [L1.2.1, List.length_map, List.length_range]
    have la4 : as4.length = n := by rw [hS4.1, List.length_map, List.length_map, List.length_range]
    refine rd_cat L1.1 hacc4 (by rw [List.length_map, List.length_map, la1, la4]; omega) fun D5 hD5 => ?_
    rw [← List.map_append]
    have s13 := Same.new (o := .lst ((as1 ++ as4).map V.ref)) hD5
    have L5 : LsAt C_Share (upd H12 D5 (.lst ((as1 ++ as4).map V.ref))) D5 (as1 ++ as4) (((List.range n).map nearQ) ++ ((List.range n).map nearQ).map fun q => Rat.divInt 0 1 - q) := ⟨upd_same, (L1.2.app hS4).same s13⟩
    replace e4 := Same.trans' e4 s13
    replace g1 := g1.same s13
    replace g2 := g2.same s13
    replace g3 := g3.same s13
    replace hg := s13 _ _ hg
    generalize upd H12 D5 (.lst ((as1 ++ as4).map V.ref)) = H13 at *
    clear s13
    repeat walk_at "rg"
    refine rd_share1 fun x4 H14 hx4 s14 hs4 => ?_
    replace e4 := Same.trans' e4 s14
    replace L5 := L5.same s14
    replace g1 := g1.same s14
    replace g2 := g2.same s14
    replace g3 := g3.same s14
    replace hg := s14 _ _ hg
    clear s14
    repeat walk_at "rg"
    refine rd_kTup rfl fun T4 hT4 => ?_
    have s15 := Same.new (o := .tup [.ref D5, .ref x4]) hT4
    have g4 : Row6 C_Share (upd H14 T4 (.tup [.ref D5, .ref x4])) T4 := ⟨D5, x4, _, _, 16, upd_same, L5.same s15, by rw [neg_sum]; exact hs4.same s15, fun q hq => by
      rcases List.mem_append.mp hq with hq | hq
      · exact near_sz q hq
      · obtain ⟨y, hy, rfl⟩ := List.mem_map.mp hq
        exact sz_neg (near_sz y hy), by decide, by simp only [List.length_append, List.length_map, List.length_range]; omega⟩
    replace e4 := Same.trans' e4 s15
    replace g1 := g1.same s15
    replace g2 := g2.same s15
    replace g3 := g3.same s15
    replace hg := s15 _ _ hg
    generalize upd H14 T4 (.tup [.ref D5, .ref x4]) = H15 at *
    clear s15
    repeat walk_at "rg"
    refine rd_share (by omega) (up2 (by omega)) fun x5 H16 hx5 s16 hs5 => ?_
    replace e4 := Same.trans' e4 s16
    replace g1 := g1.same s16
    replace g2 := g2.same s16
    replace g3 := g3.same s16
    replace g4 := g4.same s16
    replace hg := s16 _ _ hg
    clear s16
    repeat walk_at "rg"
    refine rd_kLst rfl fun D6 hD6 => ?_
    have s17 := Same.new (o := .lst [.ref x5]) hD6
    have h6 := upd_same (H := H16) (a := D6) (o := .lst [.ref x5])
    replace hs5 := hs5.same s17
    replace e4 := Same.trans' e4 s17
    replace g1 := g1.same s17
    replace g2 := g2.same s17
    replace g3 := g3.same s17
    replace g4 := g4.same s17
    replace hg := s17 _ _ hg
    generalize upd H16 D6 (.lst [.ref x5]) = H17 at *
    clear s17
    repeat walk_at "rg"
    refine rd_rep h6 (by omega) (by omega) (by simp; omega) fun D7 hD7 => ?_
    rw [en, rep_flat]
    have s18 := Same.new (o := .lst ((List.replicate n x5).map V.ref)) hD7
    have L7 : LsAt C_Share (upd H17 D7 (.lst ((List.replicate n x5).map V.ref))) D7 (List.replicate n x5) (List.replicate n (Rat.divInt b n)) := ⟨upd_same, ShAll.rep (hs5.same s18)⟩
    replace e4 := Same.trans' e4 s18
    replace g1 := g1.same s18
    replace g2 := g2.same s18
    replace g3 := g3.same s18
    replace g4 := g4.same s18
    replace hg := s18 _ _ hg
    generalize upd H17 D7 (.lst ((List.replicate n x5).map V.ref)) = H18 at *
    clear s18
    repeat walk_at "rg"
    refine rd_share1 fun x6 H19 hx6 s19 hs6 => ?_
    replace e4 := Same.trans' e4 s19
    replace L7 := L7.same s19
    replace g1 := g1.same s19
    replace g2 := g2.same s19
    replace g3 := g3.same s19
    replace g4 := g4.same s19
    replace hg := s19 _ _ hg
    clear s19
    repeat walk_at "rg"
    refine rd_kTup rfl fun T5 hT5 => ?_
    have s20 := Same.new (o := .tup [.ref D7, .ref x6]) hT5
    have g5 : Row6 C_Share (upd H19 T5 (.tup [.ref D7, .ref x6])) T5 := ⟨D7, x6, _, _, 16, upd_same, L7.same s20, by rw [rep_sum n (by omega)]; exact hs6.same s20, fun q hq => by
      rw [List.mem_replicate] at hq
      rw [hq.2]
      exact Sz.of (by omega) (by omega) (by omega), by decide, by rw [List.length_replicate]; omega⟩
    replace e4 := Same.trans' e4 s20
    replace g1 := g1.same s20
    replace g2 := g2.same s20
    replace g3 := g3.same s20
    replace g4 := g4.same s20
    replace hg := s20 _ _ hg
    generalize upd H19 T5 (.tup [.ref D7, .ref x6]) = H20 at *
    clear s20
    repeat walk_at "rg"
    refine rd_kLst rfl fun G2 hG2 => ?_
    have s21 := Same.new (o := .lst [.ref T4, .ref T5]) hG2
    have hg2 := upd_same (H := H20) (a := G2) (o := .lst [.ref T4, .ref T5])
    replace e4 := Same.trans' e4 s21
    replace g1 := g1.same s21
    replace g2 := g2.same s21
    replace g3 := g3.same s21
    replace g4 := g4.same s21
    replace g5 := g5.same s21
    replace hg := s21 _ _ hg
    generalize upd H20 G2 (.lst [.ref T4, .ref T5]) = H21 at *
    clear s21
    refine rd_cat hg hg2 (Nat.le_of_ble_eq_true rfl) fun L hL => ?_
    have s22 := Same.new (o := .lst ([V.ref T1, .ref T2, .ref T3] ++ [.ref T4, .ref T5])) hL
    refine k L [T1, T2, T3, T4, T5] _ (Same.trans' e4 s22) upd_same fun T hT => ?_
    simp only [List.mem_cons, List.not_mem_nil, or_false] at hT
    rcases hT with rfl | rfl | rfl | rfl | rfl
    · exact g1.same s22
    · exact g2.same s22
    · exact g3.same s22
    · exact g4.same s22
    · exact g5.same s22
theorem lcm_lt2 {a b m k : Nat} (ha : a < 2 ^ m) (hb : b < 2 ^ k) : Nat.lcm a b < 2 ^ (m + k) := by
  rcases Nat.eq_zero_or_pos a with z | z
  · subst z
    rw [Nat.lcm_zero_left]
    exact Nat.two_pow_pos _
  · rcases Nat.eq_zero_or_pos b with y | y
    · subst y
      rw [Nat.lcm_zero_right]
      exact Nat.two_pow_pos _
    · have q := Nat.lcm_le_mul z y
      rw [Nat.pow_add]
      exact Nat.lt_of_le_of_lt q (Nat.mul_lt_mul'' ha hb)
theorem lcm_lt' {B : Nat} : ∀ (qs : List Rat) (n m : Nat), n < 2 ^ m → (∀ q ∈ qs, q.den < 2 ^ B) → qs.foldl (fun n q => Nat.lcm n q.den) n < 2 ^ (m + B * qs.length)
  | [], n, m, h, _ => h
  | q :: r, n, m, h, g => by
    rw [List.length_cons, show m + B * (r.length + 1) = m + B + B * r.length by rw [Nat.mul_succ]; omega]
    exact lcm_lt' r _ (m + B) (lcm_lt2 h (g q (List.mem_cons_self ..))) fun x hx => g x (List.mem_cons_of_mem _ hx)
theorem lcmAll_lt {B n : Nat} {qs : List Rat} (h : ∀ q ∈ qs, q.den < 2 ^ B) (l : qs.length ≤ n) : lcmAll qs < 2 ^ (1 + B * n) :=
  Nat.lt_of_lt_of_le (lcm_lt' qs 1 1 (by decide) h) (Nat.pow_le_pow_right (by decide) (Nat.add_le_add_left (Nat.mul_le_mul_left _ l) 1))
theorem cells_int1 {ns : List Int} {lo hi : Option Int} {x : V} {i : Nat} {m1 : Int} (h : (cutV (ns.map V.int) lo hi ++ [V.int m1])[i]? = some x) : ∃ z, x = V.int z := by
  have m := List.mem_of_getElem? h
  rcases List.mem_append.mp m with m | m
  · have m' := List.mem_of_mem_drop (List.mem_of_mem_take m)
    obtain ⟨z, _, rfl⟩ := List.mem_map.mp m'
    exact ⟨z, rfl⟩
  · have e := List.mem_singleton.mp m
    exact ⟨_, e⟩
theorem take_sum {qs : List Rat} {i : Nat} {q : Rat} (h : qs[i]? = some q) : (qs.take (i + 1)).sum = (qs.take i).sum + q := by
  rw [List.take_add_one, h, Option.toList_some, rsum_append, List.sum_cons, List.sum_nil, Rat.add_zero]
theorem less_add (s q : Rat) : decide (Rat.divInt 0 1 < q) = decide (s < s + q) := by
  have z : Rat.divInt 0 1 = 0 := by decide +kernel
  rw [z, decide_eq_decide]
  grind
def spObo (C : Addr) : Sp := fun vs H Q _ => ∃ (l d : Addr) (as : List Addr) (qs : List Rat) (B : Nat), vs = [.ref l, .ref d] ∧ LsAt C H l as qs ∧ ShAt C H d qs.sum ∧ (∀ q ∈ qs, Sz B q) ∧ B ≤ 100 ∧ qs.length * (B + 1) + 1 ≤ 7000 ∧ ∀ H', Same H H' → Q (.bl true) H'
abbrev N__law_one_by_one : List Str := ["_law_row", "_law_due", "_law_found", "_law_one_here", "_law_later"]
theorem sc__law_one_by_one : FnScope ["_law_row", "_law_due", "_law_found", "_law_one_here", "_law_later"] ["_law_row", "_law_due"] (defScope s__law_one_by_one) := ⟨rfl, rfl, rfl, by decide +kernel, rfl, by decide +kernel, by decide +kernel⟩
theorem ok_obo {f C_Share C_NoShare : Addr} {fd : FuncData} (F : Fun K "_law_one_by_one" "_law_one_by_one" s__law_one_by_one f fd) (T : TS K mg C_Share C_NoShare) (m_Share : Md P w K mg base (CX P w) 2 C_Share ["self", "top", "bottom"] [.int 1] (spInit C_Share C_NoShare))
    (d_plus : Df P w K mg base CX0 4 "plus" ["one", "other"] (spBin2 C_Share 8000 100 fun q r => q + r)) (d_less : Df P w K mg base CX0 1 "less" ["one", "other"] (spLess C_Share 8900)) (q_Share : EqC P w K mg base 1 C_Share (spEq C_Share)) : FnOk P w K mg base CX0 5 f fd ["_law_row", "_law_due"] (spObo C_Share) := by
  refine F.ok sc__law_one_by_one (fun vs H Q E h => ?_) (fun cdv A outer s H vs Q E hr h => ?_)
  · obtain ⟨l, d, as, qs, B, rfl, _⟩ := h
    rfl
  · obtain ⟨l, d, as, qs, B, rfl, hL, hd, hz, hB, hn, k⟩ := h
    refine ⟨_, (pss_cons (ps_set (i := 2) sc__law_one_by_one.nd rfl (Or.inl rfl) (pe_mkd1 m_Share (hr.mono (by decide)) T.g_Share passL (pa_cons pe_int pa_nil)))
 (pss_cons (ps_for PassesOwn.never rfl (pi_list (pv 0)) (pg_name (i := 3) sc__law_one_by_one.nd rfl (Or.inl rfl))
 (pss_cons (ps_set (i := 4) sc__law_one_by_one.nd rfl (Or.inl rfl) (pe_df d_plus (hr.mono (by decide)) pass0 (pa_cons (pv 2) (pa_cons (pv 3) pa_nil))))
 (pss_cons (ps_if (pt_cmpR op_ne (pe_df d_less (hr.mono (by decide)) pass0 (pa_cons (pe_mkd1 m_Share (hr.mono (by decide)) T.g_Share passL (pa_cons pe_int pa_nil)) (pa_cons (pv 3) pa_nil))) (pe_df d_less (hr.mono (by decide)) pass0 (pa_cons (pv 2) (pa_cons (pv 4) pa_nil))) (nomark _)) (pss_one (ps_ret pe_bl)) pss_nil)
 (pss_one (ps_set (i := 2) sc__law_one_by_one.nd rfl (Or.inl rfl) (pv 4))))))
 (pss_one (ps_ret (pe_cmpR (op_eqO q_Share (hr.mono (by decide))) (pv 2) (pv 1) (nomark _)))))), ?_⟩
    have hB1 : qs.length ≤ 7000 := Nat.le_trans (Nat.le_trans (Nat.le_mul_of_pos_right _ (by omega)) (Nat.le_succ _)) hn
    have part : ∀ i, Sz 7000 (qs.take i).sum := fun i => by
      refine (sz_sum (B := B) (qs.take i) fun q hq => hz q (List.mem_of_mem_take hq)).mono (Nat.le_trans (Nat.succ_le_succ (Nat.mul_le_mul_right _ ?_)) hn)
      rw [List.length_take]
      omega
    have n01 : Sz 8900 (Rat.divInt 0 1) := Sz.of (by decide) (Nat.two_pow_pos _) (Nat.one_lt_two_pow (by decide))
    repeat walk_at "rf"
    refine rd_share1 fun x0 H1 hx0 e1 hs0 => ?_
    repeat walk_at "rf"
    refine rd_kFor (xs := as.map V.ref) (fun i σ H' => ∃ f v3 v4, σ = [some (.ref l), some (.ref d), some (.ref f), v3, v4] ∧ Same H H' ∧ ShAt C_Share H' f (qs.take i).sum) (SqL.of (e1 _ _ hL.1)) ⟨x0, _, _, rfl, e1, by
      rw [List.take_zero, List.sum_nil]
      exact hs0⟩ (fun i σ H' _ ⟨_, _, _, _, e, _⟩ => SqL.of (e _ _ hL.1)) ?_ ?_
    · rintro i x σ H2 hx ⟨f, v3, v4, rfl, e2, hf⟩
      obtain ⟨y, q, rfl, hq, hy⟩ := sh_at hL.2 hx
      have zq := hz q (List.mem_of_getElem? hq)
      have z8 := part i
      have z9 := part (i + 1)
      rw [take_sum hq] at z9
      repeat walk_at "rf"
      refine ⟨f, y, _, q, rfl, hf, hy.same e2, z8.mono (by decide), zq.mono hB, fun x3 H3 hx3 e3 hs3 => ?_⟩
      repeat walk_at "rf"
      refine rd_share1 fun x4 H4 hx4 e4 hs4 => ?_
      repeat walk_at "rf"
      refine ⟨x4, y, _, q, rfl, hs4, ((hy.same e2).same e3).same e4, n01, zq.mono (by omega), ?_⟩
      repeat walk_at "rf"
      refine ⟨f, x3, _, _, rfl, (hf.same e3).same e4, hs3.same e4, z8.mono (by decide), z9.mono (by decide), ?_⟩
      refine rd_ne rfl ?_
      rw [less_add (qs.take i).sum q, decide_eq_true rfl]
      repeat walk_at "rf"
      refine iteF ?_
      repeat walk_at "rf"
      refine ⟨x3, _, _, rfl, Same.trans' e2 (Same.trans' e3 e4), ?_⟩
      rw [take_sum hq]
      exact hs3.same e4
    · rintro σ H2 ⟨f, v3, v4, rfl, e2, hf⟩
      rw [List.length_map, hL.2.1, List.take_length] at hf
      repeat walk_at "rf"
      refine rd_eqO hf (hd.same e2) ?_
      rw [decide_eq_true rfl]
      exact k H2 e2
theorem lsum_rev {C l p : Addr} {H : Hp} {as : List Addr} {qs : List Rat} (h : LsAt C H l as qs) (hp : H p = none) : LsAt C (upd H p (.lst (as.map V.ref).reverse)) p as.reverse qs.reverse := by
  refine ⟨by rw [upd_same, List.map_reverse], by rw [List.length_reverse, List.length_reverse]; exact h.2.1, fun i a q x y => ?_⟩
  have l1 := h.2.1
  have hi := (List.getElem?_eq_some_iff.mp x).1
  rw [List.length_reverse] at hi
  rw [List.getElem?_reverse hi] at x
  rw [List.getElem?_reverse (by omega)] at y
  exact (h.2.2 (as.length - 1 - i) a q x (by rw [l1]; exact y)).same (Same.new hp)
abbrev N_law : List Str := ["_law_script", "_law_cell", "_law_well_here", "_law_many", "_law_by", "_law_row", "_law_due", "_law_handed"]
theorem sc_law : FnScope ["_law_script", "_law_cell", "_law_well_here", "_law_many", "_law_by", "_law_row", "_law_due", "_law_handed"] ["_law_script"] (defScope s_law) := ⟨rfl, rfl, rfl, by decide +kernel, rfl, by decide +kernel, by decide +kernel⟩
theorem ok_law {f C_Share C_NoShare : Addr} {fd : FuncData} (F : Fun K "law" "law" s_law f fd) (T : TS K mg C_Share C_NoShare)
    (d__law_well : Df P w K mg base CX0 1 "_law_well" ["_law_cell"] spWell) (d__law_draw : Df P w K mg base CX0 1 "_law_draw" ["_law_well_here", "_law_many"] spDraw) (d__law_one : Df P w K mg base CX0 2 "_law_one" ["_law_well_here", "_law_some"] (spOne K))
    (d__law_rows : Df P w K mg base CX0 5 "_law_rows" ["_law_many", "_law_by"] (spRows6 C_Share)) (d_sum_of : Df P w K mg base CX0 4 "sum_of" ["shares"] (spSum K C_Share)) (d__law_one_by_one : Df P w K mg base CX0 5 "_law_one_by_one" ["_law_row", "_law_due"] (spObo C_Share))
    (q_Share : EqC P w K mg base 1 C_Share (spEq C_Share)) : FnOk P w K mg base CX0 6 f fd ["_law_script"] (spLaw K) := by
  refine F.ok sc_law (fun vs H Q E h => ?_) (fun cdv A outer s H vs Q E hr h => ?_)
  · obtain ⟨a, ns, rfl, _⟩ := h
    rfl
  · obtain ⟨a, ns, rfl, hS, hlen, k⟩ := h
    refine ⟨_, (pss_cons (ps_for PassesOwn.never rfl (pi_list (pe_op op_cat (pe_slice sl_list (pv 0) po_none (po_some pe_int)) (pe_lst (pa_cons pe_int pa_nil)))) (pg_name (i := 1) sc_law.nd rfl (Or.inl rfl))
 (pss_cons (ps_set (i := 2) sc_law.nd rfl (Or.inl rfl) (pe_df d__law_well (hr.mono (by decide)) pass0 (pa_cons (pv 1) pa_nil)))
 (pss_cons (ps_set (i := 3) sc_law.nd rfl (Or.inl rfl) (pe_op op_add pe_int (pe_df d__law_draw (hr.mono (by decide)) pass0 (pa_cons (pv 2) (pa_cons (pe_df d__law_one (hr.mono (by decide)) pass0 (pa_cons (pv 2) (pa_cons (pe_lst (pa_cons pe_int (pa_cons pe_int (pa_cons pe_int pa_nil)))) pa_nil))) pa_nil)))))
 (pss_cons (ps_set (i := 4) sc_law.nd rfl (Or.inl rfl) (pe_op op_add pe_int (pe_df d__law_draw (hr.mono (by decide)) pass0 (pa_cons (pv 2) (pa_cons pe_int pa_nil)))))
 (pss_one (ps_for PassesOwn.never rfl (pi_list (pe_df d__law_rows (hr.mono (by decide)) pass0 (pa_cons (pv 3) (pa_cons (pv 4) pa_nil)))) (pg_tup (by rfl) (pgs_cons (pg_name (i := 5) sc_law.nd rfl (Or.inl rfl)) (pgs_cons (pg_name (i := 6) sc_law.nd rfl (Or.inl rfl)) pgs_nil)))
 (pss_cons (ps_set (i := 7) sc_law.nd rfl (Or.inl rfl) (pe_revL (pv 5)))
 (pss_cons (ps_if (PW.pt (pw_or (pt_cmpR (op_neO q_Share (hr.mono (by decide))) (pe_df d_sum_of (hr.mono (by decide)) pass0 (pa_cons (pe_callTy cr_listOf (by rfl) T.n_list (by decide +kernel) (pa_cons (pv 5) pa_nil)) pa_nil)) (pv 6) (nomark _)) (pw_or (pt_cmpR (op_neO q_Share (hr.mono (by decide))) (pe_df d_sum_of (hr.mono (by decide)) pass0 (pa_cons (pv 7) pa_nil)) (pv 6) (nomark _)) (pw_or1 (pt_cmpR (op_neL hr.units0) (pv 7) (pe_revL (pv 5)) (nomark _)))))) (pss_one (ps_ret pe_bl)) pss_nil)
 (pss_one (ps_if (pt_not (pt_val (pe_df d__law_one_by_one (hr.mono (by decide)) pass0 (pa_cons (pv 5) (pa_cons (pv 6) pa_nil))))) (pss_one (ps_ret pe_bl)) pss_nil))))))))))
 (pss_one (ps_ret pe_bl))), ?_⟩
    repeat walk_at "rg"
    refine rd_slL hS fun l1 hl1 => ?_
    repeat walk_at "rg"
    refine rd_kLst rfl fun l2 hl2 => ?_
    have n12 : l1 ≠ l2 := ne_of_none upd_same hl2
    have hc : (cutV (ns.map V.int) none (some 4)).length ≤ 63 := Nat.le_trans (cutV_length _ _ _) (by rw [List.length_map]; exact hlen)
    refine rd_cat (by rw [upd_ne n12]; exact upd_same) upd_same (Nat.le_trans (Nat.add_le_add_right hc 1) (by decide)) fun l3 hl3 => ?_
    repeat walk_at "rg"
    refine rd_kFor (xs := cutV (ns.map V.int) none (some 4) ++ [.int 0]) (fun i σ H' => ∃ v1 v2 v3 v4 v5 v6 v7, σ = [some (.ref a), v1, v2, v3, v4, v5, v6, v7] ∧ H' l3 = some (.lst (cutV (ns.map V.int) none (some 4) ++ [.int 0])))
      (SqL.of upd_same) ⟨_, _, _, _, _, _, _, rfl, upd_same⟩ (fun i σ H' _ ⟨_, _, _, _, _, _, _, _, h⟩ => SqL.of h) ?_ ?_
    · rintro i x σ H' hi ⟨v1, v2, v3, v4, v5, v6, v7, rfl, hL⟩
      obtain ⟨z, rfl⟩ := cells_int1 hi
      clear hi
      generalize cutV (ns.map V.int) none (some 4) ++ [V.int 0] = cells at hL
      repeat walk_at "rg"
      refine ⟨z, rfl, fun p H1 hp e1 w1 => ?_⟩
      have np : l3 ≠ p := ne_of_none hL hp
      replace hL := e1 _ _ hL
      repeat walk_at "rg"
      refine rd_kLst rfl fun m1 hm1 => ?_
      have s1 := Same.new (o := .lst [.int 20, .int 20, .int 200]) hm1
      repeat walk_at "rg"
      have w1' := w1.same s1
      refine ⟨p, m1, _, _, rfl, w1', by omega, SqL.of upd_same, w1.ne_new hm1, Nat.le_of_ble_eq_true rfl, Nat.le_of_ble_eq_true rfl, fun v H2 hv e2 w2 => ?_⟩
      replace hL := e2 _ _ np (s1 _ _ hL)
      obtain ⟨t, rfl, t0, t1⟩ : ∃ t : Int, v = .int t ∧ 0 < t ∧ t ≤ 200 := by
        simp only [List.mem_cons, List.not_mem_nil, or_false] at hv
        rcases hv with rfl | rfl | rfl <;> exact ⟨_, rfl, by decide, by decide⟩
      repeat walk_at "rg"
      refine ⟨p, t, _, rfl, w2, by omega, by omega, by omega, fun r H3 r0 r1 e3 w3 => ?_⟩
      replace hL := e3 _ _ np hL
      repeat walk_at "rg"
      refine ⟨p, 9, _, rfl, w3, by omega, by decide, by decide, fun r2 H4 q0 q1 e4 w4 => ?_⟩
      replace hL := e4 _ _ np hL
      repeat walk_at "rg"
      refine ⟨1 + r, 2 + r2, rfl, by omega, by omega, by omega, by omega, fun L Ts H5 e5 hTs hRow => ?_⟩
      replace hL := e5 _ _ hL
      repeat walk_at "rg"
      refine rd_kFor (xs := Ts.map V.ref) (fun i σ H' => ∃ v5 v6 v7, σ = [some (.ref a), some (.int z), some (.ref p), some (.int (1 + r)), some (.int (2 + r2)), v5, v6, v7] ∧ Same H5 H') (SqL.of hTs) ⟨_, _, _, rfl, Same.refl _⟩ (fun i σ H' _ ⟨_, _, _, _, e⟩ => SqL.of (e _ _ hTs)) ?_ ?_
      · rintro i x σ H6 hx ⟨u5, u6, u7, rfl, e6⟩
        obtain ⟨T0, hT0, rfl⟩ := List.mem_map.mp (List.mem_of_getElem? hx)
        obtain ⟨l, d, as, qs, B, hT, hLs, hd, hz, hB, hn⟩ := (hRow T0 hT0).same e6
        have hn1 : qs.length ≤ 7000 := Nat.le_trans (Nat.le_trans (Nat.le_mul_of_pos_right _ (by omega)) (Nat.le_succ _)) hn
        have hlc : lcmAll qs < 2 ^ 8000 := by
          refine Nat.lt_of_lt_of_le (lcmAll_lt (B := B) (n := qs.length) (fun q hq => (hz q hq).2) (Nat.le_refl _)) (Nat.pow_le_pow_right (by decide) ?_)
          have : B * qs.length ≤ qs.length * (B + 1) := by rw [Nat.mul_comm]; exact Nat.mul_le_mul_left _ (Nat.le_succ _)
          omega
        have hz4 : ∀ q ∈ qs, Sz 4000 q := fun q hq => (hz q hq).mono (by omega)
        have la : as.length ≤ 7000 := by rw [hLs.2.1]; exact hn1
        have st : SqT K H6 T0 [.ref l, .ref d] := SqT.of hT
        repeat walk_at "rf"
        refine rd_kRev (SqL.of hLs.1) fun p1 hp1 => ?_
        have s7 := Same.new (o := .lst (as.map V.ref).reverse) hp1
        have R1 := lsum_rev hLs hp1
        replace hLs := hLs.same s7
        replace hd := hd.same s7
        replace e6 := Same.trans' e6 s7
        generalize upd H6 p1 (.lst (as.map V.ref).reverse) = H7 at *
        clear s7 st hT
        repeat walk_at "rf"
        refine rd_listOf (SqL.of hLs.1) fun p2 hp2 => ?_
        have s8 := Same.new (o := .lst (as.map V.ref)) hp2
        have L2 : LsAt C_Share (upd H7 p2 (.lst (as.map V.ref))) p2 as qs := ⟨upd_same, hLs.2.same s8⟩
        replace hLs := hLs.same s8
        replace R1 := R1.same s8
        replace hd := hd.same s8
        replace e6 := Same.trans' e6 s8
        generalize upd H7 p2 (.lst (as.map V.ref)) = H8 at *
        clear s8
        repeat walk_at "rf"
        refine ⟨p2, as, qs, rfl, SqL.of L2.1, L2.2, by omega, hz4, hlc, fun y1 H9 hy1 s9 hs1 => ?_⟩
        replace hLs := hLs.same s9
        replace R1 := R1.same s9
        replace hd := hd.same s9
        replace e6 := Same.trans' e6 s9
        clear s9 L2
        repeat walk_at "rf"
        refine rd_neO hs1 hd ?_
        rw [decide_eq_true rfl]
        repeat walk_at "rf"
        refine iteF ?_
        repeat walk_at "rf"
        refine ⟨p1, as.reverse, qs.reverse, rfl, SqL.of R1.1, R1.2, by rw [List.length_reverse]; omega, fun q hq => hz4 q (List.mem_reverse.mp hq), ?_, fun y2 H10 hy2 s10 hs2 => ?_⟩
        · refine Nat.lt_of_lt_of_le (lcmAll_lt (B := B) (n := qs.length) (fun q hq => (hz q (List.mem_reverse.mp hq)).2) (by rw [List.length_reverse]; exact Nat.le_refl _)) (Nat.pow_le_pow_right (by decide) ?_)
          have : B * qs.length ≤ qs.length * (B + 1) := by rw [Nat.mul_comm]; exact Nat.mul_le_mul_left _ (Nat.le_succ _)
          omega
        rw [rsum_rev] at hs2
        replace hLs := hLs.same s10
        replace R1 := R1.same s10
        replace hd := hd.same s10
        replace e6 := Same.trans' e6 s10
        clear s10
        repeat walk_at "rf"
        refine rd_neO hs2 hd ?_
        rw [decide_eq_true rfl]
        repeat walk_at "rf"
        refine iteF ?_
        repeat walk_at "rf"
        refine rd_kRev (SqL.of hLs.1) fun p3 hp3 => ?_
        have s11 := Same.new (o := .lst (as.map V.ref).reverse) hp3
        have h3 := upd_same (H := H10) (a := p3) (o := .lst (as.map V.ref).reverse)
        replace hLs := hLs.same s11
        replace R1 := R1.same s11
        replace hd := hd.same s11
        replace e6 := Same.trans' e6 s11
        generalize upd H10 p3 (.lst (as.map V.ref).reverse) = H11 at *
        clear s11
        refine ⟨p1, p3, _, _, rfl, rfl, SqL.of R1.1, SqL.of h3, .inl ⟨by rw [List.map_reverse], allRef_map _, ?_⟩⟩
        repeat walk_at "rf"
        refine iteF ?_
        repeat walk_at "rf"
        refine ⟨l, d, as, qs, B, rfl, hLs, hd, hz, hB, hn, fun H12 e12 => ?_⟩
        repeat walk_at "rf"
        refine iteF ?_
        exact ⟨_, _, _, rfl, Same.trans' e6 e12⟩
      · rintro σ H6 ⟨u5, u6, u7, rfl, e6⟩
        exact ⟨_, _, _, _, _, _, _, rfl, e6 _ _ hL⟩
    · rintro σ H' ⟨v1, v2, v3, v4, v5, v6, v7, rfl, hL⟩
      repeat walk_at "rg"
      exact k H'
end
theorem all_mk {P : Program} {w : World} {K : PySem.W.Frag} {h : Heap} {mg : Str → Option Value} {fa : Addr} (X : K.In h) (G : h.Ns mainGlobals mg) (hfa : mg "law" = some (.ref fa))
    {C_Share C_NoShare : Addr} {f_is_whole : Addr} {oc_is_whole kV_is_whole dc_is_whole pm_is_whole cd_is_whole ct_is_whole : Value} {od_is_whole an_is_whole : Option Addr} {sl_is_whole : Array (Option Value)} {f_Share___init__ : Addr} {oc_Share___init__ kV_Share___init__ dc_Share___init__ pm_Share___init__ cd_Share___init__ ct_Share___init__ : Value} {od_Share___init__ an_Share___init__ : Option Addr} {sl_Share___init__ : Array (Option Value)} {T_Share___init__ : Addr} {tc_Share___init__ : Value} {td_Share___init__ : Option Addr} {tn_Share___init__ : Nat} {tt_Share___init__ : Tok} {tsl_Share___init__ : Array (Option Value)} {f_Share___eq__ : Addr} {oc_Share___eq__ kV_Share___eq__ dc_Share___eq__ pm_Share___eq__ cd_Share___eq__ ct_Share___eq__ : Value} {od_Share___eq__ an_Share___eq__ : Option Addr} {sl_Share___eq__ : Array (Option Value)} {nm_Share qn_Share : Str} {N_Share : Addr} {bs_Share : List Value} {hdct_Share : Bool} {sn_Share : List Str} {sub_Share : List Value} {ab_Share : Bool} {col_Share : Option Bool} {dd_Share : Option Addr} {k0_Share k1_Share k2_Share k3_Share k5_Share : Option Value} {ni_Share : String} {nc_Share : Value} {ndd_Share : Option Addr} {nes_Share : Array DictEntry} {nep_Share : Nat} {nsl_Share : Array (Option Value)} {f__law_well : Addr} {oc__law_well kV__law_well dc__law_well pm__law_well cd__law_well ct__law_well : Value} {od__law_well an__law_well : Option Addr} {sl__law_well : Array (Option Value)} {f__law_draw : Addr} {oc__law_draw kV__law_draw dc__law_draw pm__law_draw cd__law_draw ct__law_draw : Value} {od__law_draw an__law_draw : Option Addr} {sl__law_draw : Array (Option Value)} {f__law_one : Addr} {oc__law_one kV__law_one dc__law_one pm__law_one cd__law_one ct__law_one : Value} {od__law_one an__law_one : Option Addr} {sl__law_one : Array (Option Value)} {f_plus : Addr} {oc_plus kV_plus dc_plus pm_plus cd_plus ct_plus : Value} {od_plus an_plus : Option Addr} {sl_plus : Array (Option Value)} {f_minus : Addr} {oc_minus kV_minus dc_minus pm_minus cd_minus ct_minus : Value} {od_minus an_minus : Option Addr} {sl_minus : Array (Option Value)} {f_less : Addr} {oc_less kV_less dc_less pm_less cd_less ct_less : Value} {od_less an_less : Option Addr} {sl_less : Array (Option Value)} {f_on_one_bottom : Addr} {oc_on_one_bottom kV_on_one_bottom dc_on_one_bottom pm_on_one_bottom cd_on_one_bottom ct_on_one_bottom : Value} {od_on_one_bottom an_on_one_bottom : Option Addr} {sl_on_one_bottom : Array (Option Value)} {f_sum_of : Addr} {oc_sum_of kV_sum_of dc_sum_of pm_sum_of cd_sum_of ct_sum_of : Value} {od_sum_of an_sum_of : Option Addr} {sl_sum_of : Array (Option Value)} {f__law_rows : Addr} {oc__law_rows kV__law_rows dc__law_rows pm__law_rows cd__law_rows ct__law_rows : Value} {od__law_rows an__law_rows : Option Addr} {sl__law_rows : Array (Option Value)} {f__law_one_by_one : Addr} {oc__law_one_by_one kV__law_one_by_one dc__law_one_by_one pm__law_one_by_one cd__law_one_by_one ct__law_one_by_one : Value} {od__law_one_by_one an__law_one_by_one : Option Addr} {sl__law_one_by_one : Array (Option Value)} {f_law : Addr} {oc_law kV_law dc_law pm_law cd_law ct_law : Value} {od_law an_law : Option Addr} {sl_law : Array (Option Value)}
    (n_int : PySem.W.nsIn K mainGlobals "int" = some none)
    (n_len : PySem.W.nsIn K mainGlobals "len" = some none)
    (n_abs : PySem.W.nsIn K mainGlobals "abs" = some none)
    (n_repr : PySem.W.nsIn K mainGlobals "repr" = some none)
    (n_isinstance : PySem.W.nsIn K mainGlobals "isinstance" = some none)
    (n_bool : PySem.W.nsIn K mainGlobals "bool" = some none)
    (n_str : PySem.W.nsIn K mainGlobals "str" = some none)
    (n_list : PySem.W.nsIn K mainGlobals "list" = some none)
    (n_tuple : PySem.W.nsIn K mainGlobals "tuple" = some none)
    (n_range : PySem.W.nsIn K mainGlobals "range" = some none)
    (n_zip : PySem.W.nsIn K mainGlobals "zip" = some none)
    (n_enumerate : PySem.W.nsIn K mainGlobals "enumerate" = some none)
    (n_sum : PySem.W.nsIn K mainGlobals "sum" = some none)
    (n_any : PySem.W.nsIn K mainGlobals "any" = some none)
    (n_all : PySem.W.nsIn K mainGlobals "all" = some none)
    (n_min : PySem.W.nsIn K mainGlobals "min" = some none)
    (n_max : PySem.W.nsIn K mainGlobals "max" = some none)
    (n_sorted : PySem.W.nsIn K mainGlobals "sorted" = some none)
    (aC : PySem.W.nsIn K mainGlobals "Share" = some (some (.ref C_Share)))
    (aN : PySem.W.nsIn K mainGlobals "NoShare" = some (some (.ref C_NoShare)))
    (pg : PySem.W.plainGet K C_Share Str.empty = true)
    (hd : PySem.W.hasDictIn K C_Share = true)
    (po : PySem.W.plainOver K C_Share = true)
    (sa : PySem.W.findIn K (.ref C_Share) "__setattr__" = some (some (.builtin "object.__setattr__")))
    (mk_Share : PySem.W.makesIn K C_Share = true)
    (kc_Share : PySem.W.keepIn K (.ref C_Share) = true)
    (nT : PySem.W.findIn K (.ref C_Share) "top" = some none)
    (nB : PySem.W.findIn K (.ref C_Share) "bottom" = some none)
    (cc : PySem.W.findIn K (.ref C_Share) "__class__" = some (some (.builtin "object.__class__")))
    (cg : PySem.W.specialIn K (.builtin "object.__class__") "__get__" = some (some (.builtin "getset_descriptor.__get__")))
    (ct : PySem.W.takesIn K (.builtin "object.__class__") = some true)
    (cm : PySem.W.mroIn K C_Share (.type "object") = some true)
    (gg : PySem.W.nsIn K mainGlobals "gcd" = some (some (.builtin "math.gcd")))
    (xN : PySem.W.excIn K C_NoShare [.type "ValueError", .type "Exception", .type "BaseException", .type "object"] "ValueError.__new__" = true)
    (kN : PySem.W.keepIn K (.ref C_NoShare) = true)
    (bN : PySem.W.subIn K (.ref C_NoShare) (.type "BaseException") = some true)
    (tN : PySem.W.typeIn K (.ref C_NoShare) = some (.type "type"))
    (iN : PySem.W.hasDictIn K C_NoShare = true)
    (sN : PySem.W.subIn K (.ref C_NoShare) (.ref C_NoShare) = some true)
    (gl : PySem.W.nsIn K mainGlobals "lcm" = some (some (.builtin "math.lcm")))
    (a_is_whole : PySem.W.nsIn K mainGlobals "is_whole" = some (some (.ref f_is_whole)))
    (l_is_whole : K.lookup f_is_whole = some ⟨oc_is_whole, od_is_whole, .func (PySem.W.fnOf "is_whole" "is_whole" (defArgs s_is_whole) (defBody s_is_whole) (defScope s_is_whole) .none kV_is_whole dc_is_whole pm_is_whole an_is_whole cd_is_whole ct_is_whole), sl_is_whole⟩)
    (c_is_whole : PySem.W.codeIn K cd_is_whole "is_whole" = true)
    (k_is_whole : PySem.W.keepIn K (.ref f_is_whole) = true)
    (a_Share___init__ : PySem.W.findIn K (.ref C_Share) "__init__" = some (some (.ref f_Share___init__)))
    (l_Share___init__ : K.lookup f_Share___init__ = some ⟨oc_Share___init__, od_Share___init__, .func (PySem.W.fnOf "__init__" "Share.__init__" (defArgs s_Share___init__) (defBody s_Share___init__) (defScope s_Share___init__) (.ref T_Share___init__) kV_Share___init__ dc_Share___init__ pm_Share___init__ an_Share___init__ cd_Share___init__ ct_Share___init__), sl_Share___init__⟩)
    (e_Share___init__ : K.lookup T_Share___init__ = some ⟨tc_Share___init__, td_Share___init__, .seq #[.int 1 tt_Share___init__] tn_Share___init__, tsl_Share___init__⟩)
    (c_Share___init__ : PySem.W.codeIn K cd_Share___init__ "Share.__init__" = true)
    (k_Share___init__ : PySem.W.keepIn K (.ref f_Share___init__) = true)
    (i_Share___init__ : PySem.W.isFn K (.ref f_Share___init__) = true)
    (a_Share___eq__ : PySem.W.findIn K (.ref C_Share) "__eq__" = some (some (.ref f_Share___eq__)))
    (l_Share___eq__ : K.lookup f_Share___eq__ = some ⟨oc_Share___eq__, od_Share___eq__, .func (PySem.W.fnOf "__eq__" "Share.__eq__" (defArgs s_Share___eq__) (defBody s_Share___eq__) (defScope s_Share___eq__) .none kV_Share___eq__ dc_Share___eq__ pm_Share___eq__ an_Share___eq__ cd_Share___eq__ ct_Share___eq__), sl_Share___eq__⟩)
    (c_Share___eq__ : PySem.W.codeIn K cd_Share___eq__ "Share.__eq__" = true)
    (k_Share___eq__ : PySem.W.keepIn K (.ref f_Share___eq__) = true)
    (i_Share___eq__ : PySem.W.isFn K (.ref f_Share___eq__) = true)
    (w_Share___eq__ : oc_Share___eq__ = .type "function")
    (nf_Share : PySem.W.notFirst K C_Share (.ref C_Share) = true)
    (o_Share : K.lookup C_Share = some (excClassObj nm_Share qn_Share C_Share N_Share bs_Share [.type "object"] hdct_Share sn_Share sub_Share ab_Share col_Share dd_Share k0_Share k1_Share k2_Share k3_Share k5_Share ni_Share))
    (ln_Share : K.lookup N_Share = some ⟨nc_Share, ndd_Share, .dict nes_Share nep_Share, nsl_Share⟩)
    (le_Share : nes_Share.all keyStr = true)
    (ne1_Share : PySem.W.nsIn K N_Share "__eq__" = some (some (.ref f_Share___eq__)))
    (ne2_Share : PySem.W.nsIn K N_Share "__ne__" = some none)
    (a__law_well : PySem.W.nsIn K mainGlobals "_law_well" = some (some (.ref f__law_well)))
    (l__law_well : K.lookup f__law_well = some ⟨oc__law_well, od__law_well, .func (PySem.W.fnOf "_law_well" "_law_well" (defArgs s__law_well) (defBody s__law_well) (defScope s__law_well) .none kV__law_well dc__law_well pm__law_well an__law_well cd__law_well ct__law_well), sl__law_well⟩)
    (c__law_well : PySem.W.codeIn K cd__law_well "_law_well" = true)
    (k__law_well : PySem.W.keepIn K (.ref f__law_well) = true)
    (a__law_draw : PySem.W.nsIn K mainGlobals "_law_draw" = some (some (.ref f__law_draw)))
    (l__law_draw : K.lookup f__law_draw = some ⟨oc__law_draw, od__law_draw, .func (PySem.W.fnOf "_law_draw" "_law_draw" (defArgs s__law_draw) (defBody s__law_draw) (defScope s__law_draw) .none kV__law_draw dc__law_draw pm__law_draw an__law_draw cd__law_draw ct__law_draw), sl__law_draw⟩)
    (c__law_draw : PySem.W.codeIn K cd__law_draw "_law_draw" = true)
    (k__law_draw : PySem.W.keepIn K (.ref f__law_draw) = true)
    (a__law_one : PySem.W.nsIn K mainGlobals "_law_one" = some (some (.ref f__law_one)))
    (l__law_one : K.lookup f__law_one = some ⟨oc__law_one, od__law_one, .func (PySem.W.fnOf "_law_one" "_law_one" (defArgs s__law_one) (defBody s__law_one) (defScope s__law_one) .none kV__law_one dc__law_one pm__law_one an__law_one cd__law_one ct__law_one), sl__law_one⟩)
    (c__law_one : PySem.W.codeIn K cd__law_one "_law_one" = true)
    (k__law_one : PySem.W.keepIn K (.ref f__law_one) = true)
    (a_plus : PySem.W.nsIn K mainGlobals "plus" = some (some (.ref f_plus)))
    (l_plus : K.lookup f_plus = some ⟨oc_plus, od_plus, .func (PySem.W.fnOf "plus" "plus" (defArgs s_plus) (defBody s_plus) (defScope s_plus) .none kV_plus dc_plus pm_plus an_plus cd_plus ct_plus), sl_plus⟩)
    (c_plus : PySem.W.codeIn K cd_plus "plus" = true)
    (k_plus : PySem.W.keepIn K (.ref f_plus) = true)
    (a_minus : PySem.W.nsIn K mainGlobals "minus" = some (some (.ref f_minus)))
    (l_minus : K.lookup f_minus = some ⟨oc_minus, od_minus, .func (PySem.W.fnOf "minus" "minus" (defArgs s_minus) (defBody s_minus) (defScope s_minus) .none kV_minus dc_minus pm_minus an_minus cd_minus ct_minus), sl_minus⟩)
    (c_minus : PySem.W.codeIn K cd_minus "minus" = true)
    (k_minus : PySem.W.keepIn K (.ref f_minus) = true)
    (a_less : PySem.W.nsIn K mainGlobals "less" = some (some (.ref f_less)))
    (l_less : K.lookup f_less = some ⟨oc_less, od_less, .func (PySem.W.fnOf "less" "less" (defArgs s_less) (defBody s_less) (defScope s_less) .none kV_less dc_less pm_less an_less cd_less ct_less), sl_less⟩)
    (c_less : PySem.W.codeIn K cd_less "less" = true)
    (k_less : PySem.W.keepIn K (.ref f_less) = true)
    (a_on_one_bottom : PySem.W.nsIn K mainGlobals "on_one_bottom" = some (some (.ref f_on_one_bottom)))
    (l_on_one_bottom : K.lookup f_on_one_bottom = some ⟨oc_on_one_bottom, od_on_one_bottom, .func (PySem.W.fnOf "on_one_bottom" "on_one_bottom" (defArgs s_on_one_bottom) (defBody s_on_one_bottom) (defScope s_on_one_bottom) .none kV_on_one_bottom dc_on_one_bottom pm_on_one_bottom an_on_one_bottom cd_on_one_bottom ct_on_one_bottom), sl_on_one_bottom⟩)
    (c_on_one_bottom : PySem.W.codeIn K cd_on_one_bottom "on_one_bottom" = true)
    (k_on_one_bottom : PySem.W.keepIn K (.ref f_on_one_bottom) = true)
    (a_sum_of : PySem.W.nsIn K mainGlobals "sum_of" = some (some (.ref f_sum_of)))
    (l_sum_of : K.lookup f_sum_of = some ⟨oc_sum_of, od_sum_of, .func (PySem.W.fnOf "sum_of" "sum_of" (defArgs s_sum_of) (defBody s_sum_of) (defScope s_sum_of) .none kV_sum_of dc_sum_of pm_sum_of an_sum_of cd_sum_of ct_sum_of), sl_sum_of⟩)
    (c_sum_of : PySem.W.codeIn K cd_sum_of "sum_of" = true)
    (k_sum_of : PySem.W.keepIn K (.ref f_sum_of) = true)
    (a__law_rows : PySem.W.nsIn K mainGlobals "_law_rows" = some (some (.ref f__law_rows)))
    (l__law_rows : K.lookup f__law_rows = some ⟨oc__law_rows, od__law_rows, .func (PySem.W.fnOf "_law_rows" "_law_rows" (defArgs s__law_rows) (defBody s__law_rows) (defScope s__law_rows) .none kV__law_rows dc__law_rows pm__law_rows an__law_rows cd__law_rows ct__law_rows), sl__law_rows⟩)
    (c__law_rows : PySem.W.codeIn K cd__law_rows "_law_rows" = true)
    (k__law_rows : PySem.W.keepIn K (.ref f__law_rows) = true)
    (a__law_one_by_one : PySem.W.nsIn K mainGlobals "_law_one_by_one" = some (some (.ref f__law_one_by_one)))
    (l__law_one_by_one : K.lookup f__law_one_by_one = some ⟨oc__law_one_by_one, od__law_one_by_one, .func (PySem.W.fnOf "_law_one_by_one" "_law_one_by_one" (defArgs s__law_one_by_one) (defBody s__law_one_by_one) (defScope s__law_one_by_one) .none kV__law_one_by_one dc__law_one_by_one pm__law_one_by_one an__law_one_by_one cd__law_one_by_one ct__law_one_by_one), sl__law_one_by_one⟩)
    (c__law_one_by_one : PySem.W.codeIn K cd__law_one_by_one "_law_one_by_one" = true)
    (k__law_one_by_one : PySem.W.keepIn K (.ref f__law_one_by_one) = true)
    (a_law : PySem.W.nsIn K mainGlobals "law" = some (some (.ref f_law)))
    (l_law : K.lookup f_law = some ⟨oc_law, od_law, .func (PySem.W.fnOf "law" "law" (defArgs s_law) (defBody s_law) (defScope s_law) .none kV_law dc_law pm_law an_law cd_law ct_law), sl_law⟩)
    (c_law : PySem.W.codeIn K cd_law "law" = true)
    (k_law : PySem.W.keepIn K (.ref f_law) = true)
    : ∃ fd : FuncData, (∀ (s : Shared) (v : Value), BindsTo s fd ⟨[v], []⟩ [("_law_script", v)]) ∧ ∀ base : Heap, K.In base → base.Ns mainGlobals mg → FnG P w K mg base CX0 6 fa fd ["_law_script"] (spLaw K) := by
  have e := hfa.symm.trans (PySem.W.mg_of X G a_law)
  cases e
  have T0 : Tx K mg := ⟨PySem.W.mg_none_of X G n_int, PySem.W.mg_none_of X G n_len, PySem.W.mg_none_of X G n_abs, PySem.W.mg_none_of X G n_repr, PySem.W.mg_none_of X G n_isinstance, PySem.W.mg_none_of X G n_bool, PySem.W.mg_none_of X G n_str, PySem.W.mg_none_of X G n_list, PySem.W.mg_none_of X G n_tuple, PySem.W.mg_none_of X G n_range, PySem.W.mg_none_of X G n_zip, PySem.W.mg_none_of X G n_enumerate, PySem.W.mg_none_of X G n_sum, PySem.W.mg_none_of X G n_any, PySem.W.mg_none_of X G n_all, PySem.W.mg_none_of X G n_min, PySem.W.mg_none_of X G n_max, PySem.W.mg_none_of X G n_sorted⟩
  have T : TS K mg C_Share C_NoShare := ⟨T0, ⟨pg, hd, po, sa⟩, nT, nB, PySem.W.mg_of X G aC, cc, cg, ct, cm, PySem.W.mg_of X G gg, PySem.W.mg_of X G aN, xN, kN, bN, tN, iN, sN⟩
  have F_is_whole := fun_mk (st := s_is_whole) l_is_whole c_is_whole k_is_whole
  have b_is_whole := F_is_whole.binds (ps := ["thing"]) fun _ _ _ _ _ _ us hl => match us, hl with | [_], _ => rfl
  have d_is_whole : ∀ base : Heap, Df P w K mg base CX0 1 "is_whole" ["thing"] (spWhole K) := fun base => ⟨⟨_, _, PySem.W.mg_of X G a_is_whole, k_is_whole, ok_whole F_is_whole T0, b_is_whole⟩⟩
  have F_Share___init__ : FunD K "__init__" "Share.__init__" (defArgs s_Share___init__) (defBody s_Share___init__) (defScope s_Share___init__) [.int 1] [] f_Share___init__ _ := ⟨⟨_, _, _, _, _, _, _, _, _, _, rfl, l_Share___init__, c_Share___init__, .inr ⟨fun z => (nomatch z), _, _, [.int 1 tt_Share___init__], _, rfl, e_Share___init__, rfl, .cons ⟨_, rfl⟩ .nil⟩, .inl rfl⟩, k_Share___init__⟩
  obtain ⟨ds_Share___init__, v_Share___init__, b1_Share___init__⟩ := F_Share___init__.binds1 (ps := ["self", "top", "bottom"]) 2 0 (fun z => (nomatch z)) rfl fun _ _ _ _ _ _ _ us its hu hi => match us, its, hu, hi with | [_, _], [_], _, _ => ⟨_, rfl, rfl⟩
  obtain ⟨ds0_Share___init__, v0_Share___init__, b0_Share___init__⟩ := F_Share___init__.binds1 (ps := ["self", "top", "bottom"]) 3 1 (fun z => (nomatch z)) rfl fun _ _ _ _ _ _ _ us its hu hi => match us, its, hu, hi with | [_, _, _], [_], _, _ => ⟨_, rfl, rfl⟩
  cases v0_Share___init__
  have m_Share : ∀ base : Heap, Md P w K mg base (CX P w) 2 C_Share ["self", "top", "bottom"] [.int 1] (spInit C_Share C_NoShare) := fun base => ⟨⟨_, _, ds_Share___init__, ⟨mk_Share, a_Share___init__, i_Share___init__, kc_Share⟩, ok_init F_Share___init__ T (d_is_whole base), b1_Share___init__, b0_Share___init__, v_Share___init__⟩⟩
  have F_Share___eq__ := fun_mk (st := s_Share___eq__) l_Share___eq__ c_Share___eq__ k_Share___eq__
  have b_Share___eq__ := F_Share___eq__.binds (ps := ["self", "other"]) fun _ _ _ _ _ _ us hl => match us, hl with | [_, _], _ => rfl
  have q_Share : ∀ base : Heap, EqC P w K mg base 1 C_Share (spEq C_Share) := fun base => ⟨nf_Share, _, _, a_Share___eq__, i_Share___eq__, ok_eq F_Share___eq__ T, b_Share___eq__, ⟨_, l_Share___eq__, w_Share___eq__⟩, _, _, _, _, _, _, _, _, _, _, _, _, _, _, _, _, o_Share, nsOk_of ln_Share le_Share, ne1_Share, ne2_Share⟩
  have F__law_well := fun_mk (st := s__law_well) l__law_well c__law_well k__law_well
  have b__law_well := F__law_well.binds (ps := ["_law_cell"]) fun _ _ _ _ _ _ us hl => match us, hl with | [_], _ => rfl
  have d__law_well : ∀ base : Heap, Df P w K mg base CX0 1 "_law_well" ["_law_cell"] (spWell) := fun base => ⟨⟨_, _, PySem.W.mg_of X G a__law_well, k__law_well, ok_well F__law_well T0, b__law_well⟩⟩
  have F__law_draw := fun_mk (st := s__law_draw) l__law_draw c__law_draw k__law_draw
  have b__law_draw := F__law_draw.binds (ps := ["_law_well_here", "_law_many"]) fun _ _ _ _ _ _ us hl => match us, hl with | [_, _], _ => rfl
  have d__law_draw : ∀ base : Heap, Df P w K mg base CX0 1 "_law_draw" ["_law_well_here", "_law_many"] (spDraw) := fun base => ⟨⟨_, _, PySem.W.mg_of X G a__law_draw, k__law_draw, ok_draw F__law_draw T0, b__law_draw⟩⟩
  have F__law_one := fun_mk (st := s__law_one) l__law_one c__law_one k__law_one
  have b__law_one := F__law_one.binds (ps := ["_law_well_here", "_law_some"]) fun _ _ _ _ _ _ us hl => match us, hl with | [_, _], _ => rfl
  have d__law_one : ∀ base : Heap, Df P w K mg base CX0 2 "_law_one" ["_law_well_here", "_law_some"] (spOne K) := fun base => ⟨⟨_, _, PySem.W.mg_of X G a__law_one, k__law_one, ok_one F__law_one T0 (d__law_draw base), b__law_one⟩⟩
  have F_plus := fun_mk (st := s_plus) l_plus c_plus k_plus
  have b_plus := F_plus.binds (ps := ["one", "other"]) fun _ _ _ _ _ _ us hl => match us, hl with | [_, _], _ => rfl
  have d_plus : ∀ base : Heap, Df P w K mg base CX0 4 "plus" ["one", "other"] (spBin2 C_Share 8000 100 fun q r => q + r) := fun base => ⟨⟨_, _, PySem.W.mg_of X G a_plus, k_plus, ok_plus F_plus T (m_Share base), b_plus⟩⟩
  have F_minus := fun_mk (st := s_minus) l_minus c_minus k_minus
  have b_minus := F_minus.binds (ps := ["one", "other"]) fun _ _ _ _ _ _ us hl => match us, hl with | [_, _], _ => rfl
  have d_minus : ∀ base : Heap, Df P w K mg base CX0 4 "minus" ["one", "other"] (spBin2 C_Share 8000 100 fun q r => q - r) := fun base => ⟨⟨_, _, PySem.W.mg_of X G a_minus, k_minus, ok_minus F_minus T (m_Share base), b_minus⟩⟩
  have F_less := fun_mk (st := s_less) l_less c_less k_less
  have b_less := F_less.binds (ps := ["one", "other"]) fun _ _ _ _ _ _ us hl => match us, hl with | [_, _], _ => rfl
  have d_less : ∀ base : Heap, Df P w K mg base CX0 1 "less" ["one", "other"] (spLess C_Share 8900) := fun base => ⟨⟨_, _, PySem.W.mg_of X G a_less, k_less, ok_less F_less T, b_less⟩⟩
  have F_on_one_bottom := fun_mk (st := s_on_one_bottom) l_on_one_bottom c_on_one_bottom k_on_one_bottom
  have b_on_one_bottom := F_on_one_bottom.binds (ps := ["shares"]) fun _ _ _ _ _ _ us hl => match us, hl with | [_], _ => rfl
  have d_on_one_bottom : ∀ base : Heap, Df P w K mg base CX0 1 "on_one_bottom" ["shares"] (spOne1 K C_Share) := fun base => ⟨⟨_, _, PySem.W.mg_of X G a_on_one_bottom, k_on_one_bottom, ok_one1 F_on_one_bottom T (PySem.W.mg_of X G gl), b_on_one_bottom⟩⟩
  have F_sum_of := fun_mk (st := s_sum_of) l_sum_of c_sum_of k_sum_of
  have b_sum_of := F_sum_of.binds (ps := ["shares"]) fun _ _ _ _ _ _ us hl => match us, hl with | [_], _ => rfl
  have d_sum_of : ∀ base : Heap, Df P w K mg base CX0 4 "sum_of" ["shares"] (spSum K C_Share) := fun base => ⟨⟨_, _, PySem.W.mg_of X G a_sum_of, k_sum_of, ok_sum F_sum_of T (m_Share base) (d_on_one_bottom base), b_sum_of⟩⟩
  have F__law_rows := fun_mk (st := s__law_rows) l__law_rows c__law_rows k__law_rows
  have b__law_rows := F__law_rows.binds (ps := ["_law_many", "_law_by"]) fun _ _ _ _ _ _ us hl => match us, hl with | [_, _], _ => rfl
  have d__law_rows : ∀ base : Heap, Df P w K mg base CX0 5 "_law_rows" ["_law_many", "_law_by"] (spRows6 C_Share) := fun base => ⟨⟨_, _, PySem.W.mg_of X G a__law_rows, k__law_rows, ok_rows6 F__law_rows T (m_Share base) (d_minus base), b__law_rows⟩⟩
  have F__law_one_by_one := fun_mk (st := s__law_one_by_one) l__law_one_by_one c__law_one_by_one k__law_one_by_one
  have b__law_one_by_one := F__law_one_by_one.binds (ps := ["_law_row", "_law_due"]) fun _ _ _ _ _ _ us hl => match us, hl with | [_, _], _ => rfl
  have d__law_one_by_one : ∀ base : Heap, Df P w K mg base CX0 5 "_law_one_by_one" ["_law_row", "_law_due"] (spObo C_Share) := fun base => ⟨⟨_, _, PySem.W.mg_of X G a__law_one_by_one, k__law_one_by_one, ok_obo F__law_one_by_one T (m_Share base) (d_plus base) (d_less base) (q_Share base), b__law_one_by_one⟩⟩
  have F_law := fun_mk (st := s_law) l_law c_law k_law
  exact ⟨_, fun s v => .of_eq rfl, fun base _ _ => FnG.of (ok_law F_law T (d__law_well base) (d__law_draw base) (d__law_one base) (d__law_rows base) (d_sum_of base) (d__law_one_by_one base) (q_Share base))⟩
end My
open PySem PySem.W PyProof.Rows in
set_option maxRecDepth 100000 in
set_option maxHeartbeats 0 in
theorem PySem.Challenge.cw_elderdraw_k06_whole_sums_known_ahead_holds : PySem.Challenge.rw_elderdraw_k06_whole_sums_known_ahead.Holds := by
  w_on; o_law; k_head; (case hw => w_witness2)
  k_fill
  refine My.walk_ofGK (l := PySem.Challenge.rw_elderdraw_k06_whole_sums_known_ahead) (sp := My.spLaw) (k := 6) (n := 63) (x := "_law_script") rfl (by decide) rfl ⟨rfl, by decide, by decide⟩ (fun w h Y => PySem.W.kIn_of Y) (fun K H a ns hl hb _ hS => ⟨a, ns, rfl, hS, hl, fun _ => rfl⟩) ?F
  case F =>
    intro w mg fa h KX G XQ hmg
    refine' My.all_mk KX G hmg ?n_int ?n_len ?n_abs ?n_repr ?n_isinstance ?n_bool ?n_str ?n_list ?n_tuple ?n_range ?n_zip ?n_enumerate ?n_sum ?n_any ?n_all ?n_min ?n_max ?n_sorted ?aC ?aN ?pg ?hd ?po ?sa ?mk_Share ?kc_Share ?nT ?nB ?cc ?cg ?ct ?cm ?gg ?xN ?kN ?bN ?tN ?iN ?sN ?gl ?a_is_whole ?l_is_whole ?c_is_whole ?k_is_whole ?a_Share___init__ ?l_Share___init__ ?e_Share___init__ ?c_Share___init__ ?k_Share___init__ ?i_Share___init__ ?a_Share___eq__ ?l_Share___eq__ ?c_Share___eq__ ?k_Share___eq__ ?i_Share___eq__ ?w_Share___eq__ ?nf_Share ?o_Share ?ln_Share ?le_Share ?ne1_Share ?ne2_Share ?a__law_well ?l__law_well ?c__law_well ?k__law_well ?a__law_draw ?l__law_draw ?c__law_draw ?k__law_draw ?a__law_one ?l__law_one ?c__law_one ?k__law_one ?a_plus ?l_plus ?c_plus ?k_plus ?a_minus ?l_minus ?c_minus ?k_minus ?a_less ?l_less ?c_less ?k_less ?a_on_one_bottom ?l_on_one_bottom ?c_on_one_bottom ?k_on_one_bottom ?a_sum_of ?l_sum_of ?c_sum_of ?k_sum_of ?a__law_rows ?l__law_rows ?c__law_rows ?k__law_rows ?a__law_one_by_one ?l__law_one_by_one ?c__law_one_by_one ?k__law_one_by_one ?a_law ?l_law ?c_law ?k_law
    (case n_int => k_is)
    (case n_len => k_is)
    (case n_abs => k_is)
    (case n_repr => k_is)
    (case n_isinstance => k_is)
    (case n_bool => k_is)
    (case n_str => k_is)
    (case n_list => k_is)
    (case n_tuple => k_is)
    (case n_range => k_is)
    (case n_zip => k_is)
    (case n_enumerate => k_is)
    (case n_sum => k_is)
    (case n_any => k_is)
    (case n_all => k_is)
    (case n_min => k_is)
    (case n_max => k_is)
    (case n_sorted => k_is)
    (case aC => k_is)
    (case aN => k_is)
    (case pg => k_is)
    (case hd => k_is)
    (case po => k_is)
    (case sa => k_is)
    (case mk_Share => k_is)
    (case kc_Share => k_is)
    (case nT => k_is)
    (case nB => k_is)
    (case cc => k_is)
    (case cg => k_is)
    (case ct => k_is)
    (case cm => k_is)
    (case gg => k_is)
    (case xN => k_exc)
    (case kN => k_is)
    (case bN => k_is)
    (case tN => k_is)
    (case iN => k_is)
    (case sN => k_is)
    (case gl => k_is)
    (case a_is_whole => k_is)
    (case l_is_whole => k_is)
    (case c_is_whole => k_is)
    (case k_is_whole => k_is)
    (case a_Share___init__ => k_is)
    (case l_Share___init__ => k_is)
    (case e_Share___init__ => k_is)
    (case c_Share___init__ => k_is)
    (case k_Share___init__ => k_is)
    (case i_Share___init__ => k_is)
    (case a_Share___eq__ => k_is)
    (case l_Share___eq__ => k_is)
    (case c_Share___eq__ => k_is)
    (case k_Share___eq__ => k_is)
    (case i_Share___eq__ => k_is)
    (case w_Share___eq__ => rfl)
    (case nf_Share => k_is)
    (case o_Share => k_is)
    (case ln_Share => k_is)
    (case le_Share => simp [My.keyStr])
    (case ne1_Share => k_is)
    (case ne2_Share => k_is)
    (case a__law_well => k_is)
    (case l__law_well => k_is)
    (case c__law_well => k_is)
    (case k__law_well => k_is)
    (case a__law_draw => k_is)
    (case l__law_draw => k_is)
    (case c__law_draw => k_is)
    (case k__law_draw => k_is)
    (case a__law_one => k_is)
    (case l__law_one => k_is)
    (case c__law_one => k_is)
    (case k__law_one => k_is)
    (case a_plus => k_is)
    (case l_plus => k_is)
    (case c_plus => k_is)
    (case k_plus => k_is)
    (case a_minus => k_is)
    (case l_minus => k_is)
    (case c_minus => k_is)
    (case k_minus => k_is)
    (case a_less => k_is)
    (case l_less => k_is)
    (case c_less => k_is)
    (case k_less => k_is)
    (case a_on_one_bottom => k_is)
    (case l_on_one_bottom => k_is)
    (case c_on_one_bottom => k_is)
    (case k_on_one_bottom => k_is)
    (case a_sum_of => k_is)
    (case l_sum_of => k_is)
    (case c_sum_of => k_is)
    (case k_sum_of => k_is)
    (case a__law_rows => k_is)
    (case l__law_rows => k_is)
    (case c__law_rows => k_is)
    (case k__law_rows => k_is)
    (case a__law_one_by_one => k_is)
    (case l__law_one_by_one => k_is)
    (case c__law_one_by_one => k_is)
    (case k__law_one_by_one => k_is)
    (case a_law => k_is)
    (case l_law => k_is)
    (case c_law => k_is)
    (case k_law => k_is)
