import PyProof.Rows.All
import Wide.All
import OpenK.AllK
import Wide.FinOn
import HandS.ForMost
import HandS.ForExc
import HandS.Wide
import HandS.WideBits
import HandS.Gcd
import HandS.IsInst
import HandS.FStr
import HandS.OwnEq
import HandS.ExcIs
import HandS.ExcInit
import HandS.ExcValue
import HandS.Defaults
import HandS.RaiseMore
import HandS.Flow
import HandS.Style
import HandS.Zip
import HandS.StrMore
import HandS.CallSlots
import HandS.SlotsOwn
import HandS.Evl
import HandS.TryOnly
import HandS.EndBits
import HandS.Deep
import HandS.Strs
import HandS.TryMany
import HandS.ExcField
import HandS.Hot
import HandS.HotCalls
import HandS.ExcInitHot
import KE.GoesNew
import KE.KExcIs
import KE.GoesMore
import KE.SortData
import HandS.SetFor
import HandS.TupSets
import HandS.Conv
import HandS.TupMul
import KE.KDictDisplayH
import HandS.TupLen
import HandS.TryOnly
import HandS.CallLocal
import PySem.Challenge.RW_elderdraw_k25_all_maps
set_option Elab.async false
set_option linter.all false
set_option maxRecDepth 100000
set_option maxHeartbeats 4000000
namespace My
open PySem PySem.Spec PyProof.Rows L2
/-! ### numbers: operators for ints of any size that the model takes -/
section
variable {X : Cx}
def CMulA (i j : Int) : Prop := IntMulOk i j
def CDivA (_ j : Int) : Prop := j ≠ 0 ∧ j.natAbs.log2 < 9000
def rMulA : R2 := rI CMulA fun i j => .int (i * j)
def rDivA : R2 := rI CDivA fun i j => .int (i.fdiv j)
theorem op_mulA : OpR X (binaryOp .Mult) rMulA := opI fun _ _ _ _ _ _ _ hc q => mul_int q hc
theorem op_fdivA : OpR X (binaryOp .FloorDiv) rDivA := opI fun i j _ _ _ _ _ hc q => floordiv_int hc.1 q (.inl (PyProof.noPylong_of_log2 hc.2))
def rModA : R2 := rI (fun _ j => j ≠ 0) fun i j => .int (i.fmod j)
def rPowA : R2 := rI CPow fun i j => .int (i ^ j.toNat)
theorem op_modA : OpR X (binaryOp .Mod) rModA := op_modN
theorem op_powA : OpR X (binaryOp .Pow) rPowA := op_pow
def rInt : List V → Hp → VK → Prop := fun xs H Q => (∃ i, xs = [.int i] ∧ Q (.int i) H) ∨ ∃ k, xs = [.bl k] ∧ Q (.int (if k then 1 else 0)) H
theorem cr_int : CallR X (.type "int") rInt := call_int1
def rAbs : List V → Hp → VK → Prop := fun xs H Q => ∃ i, xs = [.int i] ∧ Q (.int (if i < 0 then -i else i)) H
theorem cr_abs : CallR X (.builtin "abs") rAbs := call_abs
theorem mul_r {i j : Int} (h : -(2 ^ 63) < j) (h' : j < 2 ^ 63) : CMulA i j := (show CMul i j from .inr ⟨by omega, by omega⟩).ok
theorem mul_l {i j : Int} (h : -(2 ^ 63) < i) (h' : i < 2 ^ 63) : CMulA i j := (show CMul i j from .inl ⟨by omega, by omega⟩).ok
theorem mul_b {i j : Int} {a b : Nat} (ha : i.natAbs < 2 ^ a) (hb : j.natAbs < 2 ^ b) (h : a + b ≤ 134217728) : CMulA i j := (mulx_ok ha hb h).ok
theorem div_b {i j : Int} {b : Nat} (h : j ≠ 0) (hb : j.natAbs < 2 ^ b) (h9 : b ≤ 9000) (h0 : 0 < b) : CDivA i j := ⟨h, Nat.lt_of_lt_of_le (PySem.Flt.log2_lt_of h0 hb) h9⟩
theorem div_s {i j : Int} (h : 0 < j) (h' : j < 2 ^ 63) : CDivA i j := div_b (b := 64) (by omega) (by omega) (by decide) (by decide)
theorem fdiv_pos {i j : Int} (h : 0 < j) : i.fdiv j = i / j := Int.fdiv_eq_ediv_of_nonneg i (by omega)
theorem fmod_pos {i j : Int} (h : 0 < j) : i.fmod j = i % j := Int.fmod_eq_emod_of_nonneg i (by omega)
end
section
variable {X : Cx}
def rLen (K : PySem.W.Frag) : List V → Hp → VK → Prop := fun xs H Q => ∃ p ys, xs = [.ref p] ∧ (SqL K H p ys ∨ SqT K H p ys) ∧ Q (.int ys.length) H
theorem cr_len : CallR X (.builtin "len") (rLen X.K) := call_len_seq
def rListOf (K : PySem.W.Frag) : List V → Hp → VK → Prop := fun xs H Q => ∃ p ys, xs = [.ref p] ∧ (SqL K H p ys ∨ SqT K H p ys) ∧ ∀ l, H l = none → Q (.ref l) (upd H l (.lst ys))
theorem cr_listOf : CallR X (.type "list") (rListOf X.K) := call_list_of
end
/-! ### a def that stands behind the top, and its promise -/
structure Df (P : Program) (w : World) (K : PySem.W.Frag) (mg : Str → Option Value) (base : Heap) (CX : CXT) (k : Nat) (x : Str) (ps : List Str) (sp : Sp) : Prop where
  ex : ∃ (f : Addr) (fd : FuncData), mg x = some (.ref f) ∧ PySem.W.keepIn K (.ref f) = true ∧ FnOk P w K mg base CX k f fd ps sp ∧ Binds K fd ps []
/-- a class C with an __init__: sp its promise, dvs its defaults -/
structure Md (P : Program) (w : World) (K : PySem.W.Frag) (mg : Str → Option Value) (base : Heap) (CX : CXT) (k : Nat) (C : Addr) (ps : List Str) (dvs : List V) (sp : Sp) : Prop where
  ex : ∃ (f : Addr) (fd : FuncData) (ds : List Value), Mk K C f ∧ FnOk P w K mg base CX k f fd ps sp ∧ Binds K fd ps ds ∧ Binds K fd ps [] ∧ Vals dvs ds
section
variable {X : Cx} {CX : CXT} {k : Nat} {x : Str} {ps : List Str} {sp : Sp} {E : XK} {p pos : Pos} {e : Expr} {es : List Expr} {t : TA} {C : Addr} {dvs : List V}
theorem pe_df (D : Df X.prog X.w X.K X.mg X.base CX k x ps sp) (hr : Room k X.A) (hx : Passes CX X E) (ha : PA X (e :: es) t) (hg : Gl X x := by rfl) (hdb : (x == ("__debug__" : Str)) = false := by decide)
    (he : starEach (e :: es) X.env = (false, eval e X.env) :: starEach es X.env := by rfl) (hpl : (backTo pos (starEach es X.env)).any (·.1) = false := by rfl) :
    PE X (.Call (.Name x p) (e :: es) [] pos) (tCall sp [] E t) := by
  obtain ⟨f, fd, h1, h2, h3, h4⟩ := D.ex
  exact pe_call h3 hr hg h1 h2 h4 .nil hx ha hdb he hpl
theorem pe_df0 (D : Df X.prog X.w X.K X.mg X.base CX k x ps sp) (hr : Room k X.A) (hx : Passes CX X E) (hg : Gl X x := by rfl) (hdb : (x == ("__debug__" : Str)) = false := by decide) :
    PE X (.Call (.Name x p) [] [] pos) (tCall sp [] E tNil) := by
  obtain ⟨f, fd, h1, h2, h3, h4⟩ := D.ex
  exact pe_call0 h3 hr hg h1 h2 h4 .nil hx hdb
theorem pe_dfS {ES : L2.St → XK} (D : Df X.prog X.w X.K X.mg X.base CX k x ps sp) (hr : Room k X.A) (hx : ∀ σ, PassesAt CX X σ (ES σ)) (ha : PA X (e :: es) t) (hg : Gl X x := by rfl) (hdb : (x == ("__debug__" : Str)) = false := by decide)
    (he : starEach (e :: es) X.env = (false, eval e X.env) :: starEach es X.env := by rfl) (hpl : (backTo pos (starEach es X.env)).any (·.1) = false := by rfl) :
    PE X (.Call (.Name x p) (e :: es) [] pos) (tCallS sp ES t) := by
  obtain ⟨f, fd, h1, h2, h3, h4⟩ := D.ex
  exact pe_callS h3 hr hg h1 h2 h4 hx ha hdb he hpl
theorem pe_mkd (D : Md X.prog X.w X.K X.mg X.base CX k C ps dvs sp) (hr : Room (k + 1) X.A) (hm : X.mg x = some (.ref C)) (hx : Passes CX X E) (ha : PA X (e :: es) t) (hg : Gl X x := by rfl) (hdb : (x == ("__debug__" : Str)) = false := by decide)
    (he : starEach (e :: es) X.env = (false, eval e X.env) :: starEach es X.env := by rfl) (hpl : (backTo pos (starEach es X.env)).any (·.1) = false := by rfl) :
    PE X (.Call (.Name x p) (e :: es) [] pos) (tMake C sp [] E t) := by
  obtain ⟨f, fd, ds, h1, h2, h3, h4, h5⟩ := D.ex
  exact pe_make h1 h2 hr hg hm h4 .nil hx ha hdb he hpl
/-- with its defaults -/
theorem pe_mkd1 (D : Md X.prog X.w X.K X.mg X.base CX k C ps dvs sp) (hr : Room (k + 1) X.A) (hm : X.mg x = some (.ref C)) (hx : Passes CX X E) (ha : PA X (e :: es) t) (hg : Gl X x := by rfl) (hdb : (x == ("__debug__" : Str)) = false := by decide)
    (he : starEach (e :: es) X.env = (false, eval e X.env) :: starEach es X.env := by rfl) (hpl : (backTo pos (starEach es X.env)).any (·.1) = false := by rfl) :
    PE X (.Call (.Name x p) (e :: es) [] pos) (tMake C sp dvs E t) := by
  obtain ⟨f, fd, ds, h1, h2, h3, h4, h5⟩ := D.ex
  exact pe_make h1 h2 hr hg hm h3 h5 hx ha hdb he hpl
end
/-- all parameters of a def with defaults are given -/
theorem binds_all {K : PySem.W.Frag} {x qual : Str} {params : Arguments} {body : List Stmt} {scope : Scope} {dvs : List V} {kws : List (Str × V)} {f : Addr} {fd : FuncData} {ps : List Str} (F : FunD K x qual params body scope dvs kws f fd)
    (h : ∀ (dV kV doc pm : Value) (an : Option Addr) (cdv ct : Value) (us : List Value), us.length = ps.length → bindArgs (PySem.W.fnOf x qual params body scope dV kV doc pm an cdv ct) ⟨us, []⟩ = pure (ps.zip us)) : Binds K fd ps [] := by
  obtain ⟨oc, od, dV, kV, doc, pm, an, cdv, ct, osl, rfl, _⟩ := F.ex
  exact .all fun us hl => h dV kV doc pm an cdv ct us hl
/-! ### readings, step by step -/
section
variable {D : Ends} {σ : L2.St} {H : Hp} {Q : VK} {QB : Bool → Hp → Prop} {QL : List V → Hp → Prop} {t u : TS} {te ta tb : TE} {c c1 c2 : TT} {g : TG} {tr : TA} {i j : Nat} {v x y : V} {r : R2} {K : PySem.W.Frag}
theorem rd_seq (h : t { D with nx := u D } σ H) : tSeq t u D σ H := h
theorem rd_next (h : D.nx σ H) : tNext D σ H := h
theorem rd_asg (h : te σ H fun x H1 => g x σ H1 D.nx) : tAsg te g D σ H := h
theorem rd_drop (h : te σ H fun _ H1 => D.nx σ H1) : tDrop te D σ H := h
theorem rd_ret (h : te σ H D.rt) : tRet te D σ H := h
theorem rd_retN (h : D.rt .non H) : tRetN D σ H := h
theorem rd_ifS (h : c σ H fun b H1 => if b = true then t D σ H1 else u D σ H1) : tIfS c t u D σ H := h
/-- an if whose ways meet: M holds behind it -/
theorem rd_if2 (M : L2.St → Hp → Prop) (rest : ∀ σ' H', M σ' H' → D.nx σ' H') (h : (∀ σ' H', M σ' H' → D.nx σ' H') → c σ H fun b H1 => if b = true then t D σ H1 else u D σ H1) : tIfS c t u D σ H := h rest
theorem rd_par (h : ta σ H fun x H1 => tb σ H1 fun y H2 => D.nx ((σ.set i (some x)).set j (some y)) H2) : tPar i j (tCons ta (tCons tb tNil)) D σ H := by
  refine (show ta σ H (fun x H1 => tb σ H1 fun y H2 => ∃ v w, [x, y] = [v, w] ∧ D.nx ((σ.set i (some v)).set j (some w)) H2) from ?_)
  have e : (fun (x : V) (H1 : Hp) => tb σ H1 fun y H2 => ∃ v w, [x, y] = [v, w] ∧ D.nx ((σ.set i (some v)).set j (some w)) H2) = (fun x H1 => tb σ H1 fun y H2 => D.nx ((σ.set i (some x)).set j (some y)) H2) := by
    funext x H1
    congr 1
    funext y H2
    apply propext
    constructor
    · rintro ⟨v, w, q, z⟩
      cases q
      exact z
    · intro z
      exact ⟨x, y, rfl, z⟩
  rw [e]
  exact h
theorem rd_name {Qs : L2.St → Hp → Prop} (h : Qs (σ.set i (some v)) H) : gName i v σ H Qs := h
theorem rd_var (e : σ[i]? = some (some v)) (h : Q v H) : tVar i σ H Q := ⟨v, e, h⟩
theorem rd_c (h : Q v H) : tC v σ H Q := h
theorem rd_op (h : ta σ H fun x H1 => tb σ H1 fun y H2 => r x y H2 Q) : tOp r ta tb σ H Q := h
theorem rd_un {r : V → Hp → VK → Prop} (h : ta σ H fun x H1 => r x H1 Q) : tUn r ta σ H Q := h
theorem rd_U {f : Int → V} {n : Int} (h : Q (f n) H) : rU f (.int n) H Q := ⟨n, rfl, h⟩
theorem rd_I0 {f : Int → Int → V} {a b : Int} (h : Q (f a b) H) : rI0 f (.int a) (.int b) H Q := ⟨a, b, rfl, rfl, h⟩
theorem rd_I {C : Int → Int → Prop} {f : Int → Int → V} {a b : Int} (hc : C a b) (h : Q (f a b) H) : rI C f (.int a) (.int b) H Q := ⟨a, b, rfl, rfl, hc, h⟩
def kB (Q : Bool → Hp → Prop) : VK := fun x H1 => ∃ k, x = .bl k ∧ Q k H1
theorem rd_kB {b : Bool} (h : QB b H) : kB QB (.bl b) H := ⟨b, rfl, h⟩
theorem rd_test (h : te σ H (kB QB)) : tTest te σ H QB := h
theorem rd_B (h : te σ H (kB QB)) : tB te σ H QB := h
theorem rd_and (h : c1 σ H fun b H1 => if b = true then c2 σ H1 QB else QB false H1) : tAnd c1 c2 σ H QB := h
theorem rd_or (h : c1 σ H fun b H1 => if b = true then QB true H1 else c2 σ H1 QB) : tOr c1 c2 σ H QB := h
theorem rd_not (h : c σ H fun b H1 => QB (!b) H1) : tNot c σ H QB := h
theorem rd_andV (h : ta σ H (kB fun b H1 => if b = true then tb σ H1 Q else Q (.bl false) H1)) : tAndV ta tb σ H Q := h
theorem rd_orV (h : ta σ H (kB fun b H1 => if b = true then Q (.bl true) H1 else tb σ H1 Q)) : tOrV ta tb σ H Q := h
theorem rd_notV (h : ta σ H (kB fun b H1 => Q (.bl (!b)) H1)) : tNotV ta σ H Q := h
theorem rd_if (h : c σ H fun b H1 => if b = true then ta σ H1 Q else tb σ H1 Q) : tIf c ta tb σ H Q := h
theorem rd_eq (hs : scal x y = true) (h : Q (.bl (decide (x = y))) H) : rEq x y H Q := ⟨hs, h⟩
theorem rd_ne (hs : scal x y = true) (h : Q (.bl (!decide (x = y))) H) : rNe x y H Q := ⟨hs, h⟩
theorem rd_eqI {a b : Int} (h : Q (.bl (decide (a = b))) H) : rEq (.int a) (.int b) H Q := by
  refine ⟨rfl, ?_⟩
  have e : decide (V.int a = V.int b) = decide (a = b) := by by_cases q : a = b <;> simp [q]
  rw [e]
  exact h
theorem rd_neI {a b : Int} (h : Q (.bl (!decide (a = b))) H) : rNe (.int a) (.int b) H Q := by
  refine ⟨rfl, ?_⟩
  have e : decide (V.int a = V.int b) = decide (a = b) := by by_cases q : a = b <;> simp [q]
  rw [e]
  exact h
theorem rd_cons (h : ta σ H fun x H1 => tr σ H1 fun xs H2 => QL (x :: xs) H2) : tCons ta tr σ H QL := h
theorem rd_nil (h : QL [] H) : tNil σ H QL := h
theorem rd_call {sp : Sp} {dvs : List V} {E : XK} (h : tr σ H fun vs H1 => sp (vs ++ dvs) H1 Q E) : tCall sp dvs E tr σ H Q := h
theorem rd_callS {sp : Sp} {ES : L2.St → XK} (h : tr σ H fun vs H1 => sp vs H1 Q (ES σ)) : tCallS sp ES tr σ H Q := h
def kMake (C : Addr) (sp : Sp) (dvs : List V) (E : XK) (Q : VK) : List V → Hp → Prop := fun vs H1 => ∀ x dx, H1 x = none → H1 dx = none → dx ≠ x → sp (.ref x :: (vs ++ dvs)) (upd (upd H1 dx (.own x)) x (.ins C dx [])) (fun v H2 => v = .non ∧ Q (.ref x) H2) E
theorem rd_make {sp : Sp} {dvs : List V} {E : XK} {C : Addr} (h : tr σ H (kMake C sp dvs E Q)) : tMake C sp dvs E tr σ H Q := h
theorem rd_CB {r : List V → Hp → VK → Prop} (h : tr σ H fun vs H1 => r vs H1 Q) : tCB r tr σ H Q := h
def kTup (Q : VK) : List V → Hp → Prop := fun xs H1 => xs.length ≤ sizeLine ∧ ∀ p, H1 p = none → Q (.ref p) (upd H1 p (.tup xs))
def kLst (Q : VK) : List V → Hp → Prop := fun xs H1 => xs.length ≤ sizeLine ∧ ∀ p, H1 p = none → Q (.ref p) (upd H1 p (.lst xs))
theorem rd_tup (h : tr σ H (kTup Q)) : tTup tr σ H Q := h
theorem rd_lst (h : tr σ H (kLst Q)) : tLst tr σ H Q := h
theorem rd_kTup {xs : List V} (hl : Nat.ble xs.length 1000 = true) (h : ∀ p, H p = none → Q (.ref p) (upd H p (.tup xs))) : kTup Q xs H := ⟨Nat.le_trans (Nat.le_of_ble_eq_true hl) (by decide), h⟩
theorem rd_kLst {xs : List V} (hl : Nat.ble xs.length 1000 = true) (h : ∀ p, H p = none → Q (.ref p) (upd H p (.lst xs))) : kLst Q xs H := ⟨Nat.le_trans (Nat.le_of_ble_eq_true hl) (by decide), h⟩
theorem rd_ixL {p : Addr} {xs : List V} {n : Int} (hl : SqL K H p xs) (ha : atI xs n = some v) (h : Q v H) : rIxL K (.ref p) (.int n) H Q := ⟨p, xs, n, v, rfl, rfl, hl, ha, h⟩
theorem rd_ixT {p : Addr} {xs : List V} {n : Int} (hl : SqT K H p xs) (ha : atI xs n = some v) (h : Q v H) : rIxT K (.ref p) (.int n) H Q := ⟨p, xs, n, v, rfl, rfl, hl, ha, h⟩
theorem rd_mul {a b : Int} (hc : CMulA a b) (h : Q (.int (a * b)) H) : rMulA (.int a) (.int b) H Q := ⟨a, b, rfl, rfl, hc, h⟩
theorem rd_div {a b : Int} (hc : CDivA a b) (h : Q (.int (a.fdiv b)) H) : rDivA (.int a) (.int b) H Q := ⟨a, b, rfl, rfl, hc, h⟩
theorem rd_divP {a b : Int} (h0 : 0 < b) (hc : CDivA a b) (h : Q (.int (a / b)) H) : rDivA (.int a) (.int b) H Q := ⟨a, b, rfl, rfl, hc, (show Q (.int (a.fdiv b)) H by rw [fdiv_pos h0]; exact h)⟩
theorem rd_mod {a b : Int} (hc : b ≠ 0) (h : Q (.int (a.fmod b)) H) : rModA (.int a) (.int b) H Q := ⟨a, b, rfl, rfl, hc, h⟩
theorem rd_modP {a b : Int} (h0 : 0 < b) (h : Q (.int (a % b)) H) : rModA (.int a) (.int b) H Q := ⟨a, b, rfl, rfl, (by omega : b ≠ 0), (show Q (.int (a.fmod b)) H by rw [fmod_pos h0]; exact h)⟩
theorem rd_pow {a b : Int} (h0 : 0 ≤ b) (h1 : b ≤ 1000000) (h2 : a.natAbs < 2 ^ 64) (h : Q (.int (a ^ b.toNat)) H) : rPowA (.int a) (.int b) H Q := ⟨a, b, rfl, rfl, ⟨h0, h1, h2⟩, h⟩
theorem rd_int {a : Int} (h : Q (.int a) H) : rInt [.int a] H Q := .inl ⟨a, rfl, h⟩
theorem rd_intB {b : Bool} (h : Q (.int (if b then 1 else 0)) H) : rInt [.bl b] H Q := .inr ⟨b, rfl, h⟩
theorem rd_abs {a : Int} (h : Q (.int (if a < 0 then -a else a)) H) : rAbs [.int a] H Q := ⟨a, rfl, h⟩
theorem ite_d {p : Prop} [Decidable p] {A B : Prop} (h1 : p → A) (h2 : ¬ p → B) : if decide p = true then A else B := by
  by_cases h : p
  · rw [if_pos (decide_eq_true h)]; exact h1 h
  · rw [if_neg (by simp [h])]; exact h2 h
theorem ite_nd {p : Prop} [Decidable p] {A B : Prop} (h1 : ¬ p → A) (h2 : p → B) : if (!decide p) = true then A else B := by
  by_cases h : p
  · rw [if_neg (by simp [h])]; exact h2 h
  · rw [if_pos (by simp [h])]; exact h1 h
theorem ite_b {b : Bool} {A B : Prop} (h1 : b = true → A) (h2 : b = false → B) : if b = true then A else B := by
  cases b with
  | true => exact iteT (h1 rfl)
  | false => exact iteF (h2 rfl)
theorem rd_len {p : Addr} {ys : List V} (h : SqL K H p ys) (q : Q (.int ys.length) H) : rLen K [.ref p] H Q := ⟨p, ys, rfl, .inl h, q⟩
theorem rd_lenT {p : Addr} {ys : List V} (h : SqT K H p ys) (q : Q (.int ys.length) H) : rLen K [.ref p] H Q := ⟨p, ys, rfl, .inr h, q⟩
theorem rd_listOf {p : Addr} {ys : List V} (h : SqL K H p ys) (k : ∀ l, H l = none → Q (.ref l) (upd H l (.lst ys))) : rListOf K [.ref p] H Q := ⟨p, ys, rfl, .inl h, k⟩
theorem rd_sum {p : Addr} {ns : List Int} (h : SqL K H p (ns.map V.int)) (hz : ns.length ≤ 100000) (k : Q (.int ns.sum) H) : rSum K [.ref p] H Q := by
  refine ⟨p, ns, rfl, ?_⟩
  first | exact ⟨.inl h, k⟩ | exact ⟨h, k⟩ | exact ⟨h, Nat.le_trans hz (by decide), k⟩ | exact ⟨.inl h, Nat.le_trans hz (by decide), k⟩
def kFld (K : PySem.W.Frag) (f : Str) (Q : VK) : VK := fun x H1 => ∃ a C dx fs v, x = .ref a ∧ H1 a = some (.ins C dx fs) ∧ Cls K C ∧ NoAttr K C f ∧ fs.lookup f = some v ∧ Q v H1
theorem rd_fld {f : Str} (h : ta σ H (kFld K f Q)) : tFld K ta f σ H Q := h
theorem rd_kFld {f : Str} {a C dx : Addr} {fs : List (Str × V)} (ho : H a = some (.ins C dx fs)) (c : Cls K C) (n : NoAttr K C f) (l : fs.lookup f = some v) (q : Q v H) : kFld K f Q (.ref a) H := ⟨a, C, dx, fs, v, rfl, ho, c, n, l, q⟩
def kSet (K : PySem.W.Frag) (f : Str) (y : V) (N : Hp → Prop) : VK := fun x H2 => ∃ a C dx fs, x = .ref a ∧ H2 a = some (.ins C dx fs) ∧ Cls K C ∧ NoAttr K C f ∧ fs.length < 1000 ∧ N (upd H2 a (.ins C dx (putF f y fs)))
theorem rd_sfld {f : Str} {tv : TE} (h : tv σ H fun y H1 => ta σ H1 (kSet K f y (D.nx σ))) : sFld K ta tv f D σ H := h
theorem rd_kSet {f : Str} {N : Hp → Prop} {a C dx : Addr} {fs : List (Str × V)} (ho : H a = some (.ins C dx fs)) (c : Cls K C) (n : NoAttr K C f) (l : Nat.blt fs.length 1000 = true) (q : N (upd H a (.ins C dx (putF f y fs)))) : kSet K f y N (.ref a) H := ⟨a, C, dx, fs, rfl, ho, c, n, (by have z : fs.length + 1 ≤ 1000 := Nat.le_of_ble_eq_true l; exact z), q⟩
theorem rd_isi {z c : V} {tt uu : Value} {b : Bool} (k : ClsV c uu) (ty : TyX K H z tt) (e : PySem.W.kitOne K tt uu = some b) (q : Q (.bl b) H) : rIsi K [z, c] H Q := ⟨z, c, tt, uu, b, rfl, k, ty, e, q⟩
theorem rd_gcd {a b : Int} (q : Q (.int ((Nat.gcd a.natAbs b.natAbs : Nat) : Int)) H) : rGcd [.int a, .int b] H Q := ⟨a, b, rfl, q⟩
theorem rd_powC {a b n : Int} (h0 : 0 ≤ b) (h1 : b ≤ 1000000) (h2 : a.natAbs < 2 ^ 64) (e : a ^ b.toNat = n) (h : Q (.int n) H) : rPowA (.int a) (.int b) H Q := ⟨a, b, rfl, rfl, ⟨h0, h1, h2⟩, by subst e; exact h⟩
theorem rd_gtup {ts : TGs} {n : Nat} {Qs : L2.St → Hp → Prop} {p : Addr} {xs : List V} (hs : SqT K H p xs) (hn : xs.length = n) (h : ts xs σ H Qs) : gTup K n ts (.ref p) σ H Qs := ⟨p, xs, rfl, hs, hn, h⟩
theorem rd_gcons {ts : TGs} {xs : List V} {Qs : L2.St → Hp → Prop} (h : g x σ H fun σ' H' => ts xs σ' H' Qs) : gCons g ts (x :: xs) σ H Qs := ⟨x, xs, rfl, h⟩
theorem rd_gnil {Qs : L2.St → Hp → Prop} (h : Qs σ H) : gNil [] σ H Qs := ⟨rfl, h⟩
theorem kit_same {t : Value} (h : (t == t) = true := by rfl) : PySem.W.kitOne K t t = some true := if_pos h
theorem rd_cat {l b : Addr} {xs zs : List V} (h1 : H l = some (.lst xs)) (h2 : H b = some (.lst zs)) (hz : xs.length + zs.length ≤ 100000) (k : ∀ p, H p = none → Q (.ref p) (upd H p (.lst (xs ++ zs)))) : rCat (.ref l) (.ref b) H Q :=
  ⟨l, b, xs, zs, rfl, rfl, h1, h2, Nat.le_trans hz (by decide), k⟩
theorem rd_sl {r : V → Option Int → Option Int → Hp → VK → Prop} {tl th : TO} (h : te σ H fun x H1 => tl σ H1 fun l H2 => th σ H2 fun u H3 => r x l u H3 Q) : tSl r te tl th σ H Q := h
theorem rd_noPart {QO : Option Int → Hp → Prop} (h : QO none H) : tNoPart σ H QO := h
def kPart (QO : Option Int → Hp → Prop) : VK := fun x H1 => ∃ i, x = .int i ∧ QO (some i) H1
theorem rd_part {QO : Option Int → Hp → Prop} (h : te σ H (kPart QO)) : tPart te σ H QO := h
theorem rd_kPart {QO : Option Int → Hp → Prop} {n : Int} (h : QO (some n) H) : kPart QO (.int n) H := ⟨n, rfl, h⟩
theorem rd_slL {a : Addr} {xs : List V} {lo hi : Option Int} (hs : SqL K H a xs) (k : ∀ p, H p = none → Q (.ref p) (upd H p (.lst (cutV xs lo hi)))) : rSlL K (.ref a) lo hi H Q := ⟨a, xs, rfl, hs, k⟩
def kFor (K : PySem.W.Frag) (g : TG) (tb : TS) (D : Ends) (σ : L2.St) : VK := fun x H1 => ∃ a, x = .ref a ∧ (∃ xs, SqL K H1 a xs) ∧ ∃ W : Nat → Nat → L2.St → Hp → Prop, (∃ m, W 0 m σ H1) ∧ ∀ i m σ H, W i m σ H →
  ((Itl K a).stop i H ∧ D.nx σ H) ∨ ((Itl K a).go i H ∧ ∃ N : L2.St → Hp → Prop, (∀ σ' H', N σ' H' → ∃ m', m' < m ∧ W (i + 1) m' σ' H') ∧ ∀ x H', (Itl K a).yld i H x H' → g x σ H' fun σ2 H2 => tb { D with nx := N, ct := N, bk := D.nx } σ2 H2)
theorem rd_for {tb : TS} (h : te σ H (kFor K g tb D σ)) : tFor (iList K te) g tb D σ H := h
theorem rd_kFor {tb : TS} {a : Addr} {xs : List V} (Pv : Nat → L2.St → Hp → Prop) (hq : SqL K H a xs) (h0 : Pv 0 σ H) (hl : ∀ i σ H, i ≤ xs.length → Pv i σ H → SqL K H a xs)
    (hs : ∀ i x σ H, xs[i]? = some x → Pv i σ H → g x σ H fun σ2 H2 => tb { D with nx := Pv (i + 1), ct := Pv (i + 1), bk := D.nx } σ2 H2) (hd : ∀ σ H, Pv xs.length σ H → D.nx σ H) : kFor K g tb D σ (.ref a) H := ⟨a, rfl, ⟨xs, hq⟩, for_list Pv h0 hl hs hd⟩
/-- a list made item by item, without a test; J i acc D H: i items are done, acc stands at D -/
def kLc (K : PySem.W.Frag) (g : TG) (te : TE) (vs : List Nat) (σ : L2.St) (Q : VK) : VK := fun x H1 => ∃ a, x = .ref a ∧ (∃ xs, SqL K H1 a xs) ∧ ∀ D, H1 D = none → ∃ W : Nat → Nat → Hp → Prop, (∃ m, W 0 m (upd H1 D (.lst []))) ∧ ∀ i m H, W i m H →
  ((Itl K a).stop i H ∧ Q (.ref D) H) ∨ ((Itl K a).go i H ∧ ∃ Nx : Hp → Prop, (∀ H', Nx H' → ∃ m', m' < m ∧ W (i + 1) m' H') ∧ ∀ x H', (Itl K a).yld i H x H' → g x (wipe σ vs) H' fun σ2 H2 => wipe σ2 vs = wipe σ vs ∧ tYes σ2 H2 fun b H3 =>
    if b = true then te σ2 H3 fun y H4 => ∃ acc, H4 D = some (.lst acc) ∧ acc.length < sizeLine ∧ Nx (upd H4 D (.lst (acc ++ [y]))) else Nx H3)
theorem rd_lc {vs : List Nat} (h : ta σ H (kLc K g te vs σ Q)) : tLc (iList K ta) g tYes te vs σ H Q := h
def kLcEnd (J : Nat → List V → Addr → Hp → Prop) (D : Addr) (i : Nat) : VK := fun y H4 => ∃ acc, H4 D = some (.lst acc) ∧ acc.length < sizeLine ∧ ∃ acc2, acc2.length = i + 1 ∧ upd H4 D (.lst (acc ++ [y])) D = some (.lst acc2) ∧ J (i + 1) acc2 D (upd H4 D (.lst (acc ++ [y])))
theorem rd_lcEnd {J : Nat → List V → Addr → Hp → Prop} {D : Addr} {i : Nat} {acc : List V} {y : V} (h1 : H D = some (.lst acc)) (h2 : acc.length = i) (hz : i < 200000) (h3 : J (i + 1) (acc ++ [y]) D (upd H D (.lst (acc ++ [y])))) : kLcEnd J D i y H :=
  ⟨acc, h1, by rw [h2]; exact Nat.lt_trans hz (by decide), acc ++ [y], by rw [List.length_append, h2]; rfl, upd_same, h3⟩
theorem rd_kLc {vs : List Nat} {a : Addr} {xs : List V} (J : Nat → List V → Addr → Hp → Prop) (hq : SqL K H a xs) (h0 : ∀ D, H D = none → J 0 [] D (upd H D (.lst []))) (hl : ∀ i acc D H', J i acc D H' → SqL K H' a xs)
    (hs : ∀ i x acc D H', H D = none → i < xs.length → xs[i]? = some x → H' D = some (.lst acc) → acc.length = i → J i acc D H' → g x (wipe σ vs) H' fun σ2 H2 => wipe σ2 vs = wipe σ vs ∧ te σ2 H2 (kLcEnd J D i))
    (mono : ∀ x H' (Q1 Q2 : L2.St → Hp → Prop), (∀ s h, Q1 s h → Q2 s h) → g x (wipe σ vs) H' Q1 → g x (wipe σ vs) H' Q2)
    (hd : ∀ acc D H', H D = none → acc.length = xs.length → H' D = some (.lst acc) → J xs.length acc D H' → Q (.ref D) H') : kLc K g te vs σ Q (.ref a) H := by
  refine ⟨a, rfl, ⟨xs, hq⟩, fun D hD => ?_⟩
  refine lc_list (fun i H' => ∃ acc, acc.length = i ∧ H' D = some (.lst acc) ∧ J i acc D H') ⟨[], rfl, upd_same, h0 D hD⟩ (fun i H' _ ⟨acc, _, _, j⟩ => hl i acc D H' j) ?_ fun H' ⟨acc, e, h, j⟩ => hd acc D H' hD e h j
  rintro i x H' hx ⟨acc, e, h, j⟩
  refine mono x H' _ _ (fun s h' z => ?_) (hs i x acc D H' hD (List.getElem?_eq_some_iff.mp hx).1 hx h e j)
  refine ⟨z.1, ?_⟩
  unfold tYes
  dsimp only
  rw [if_pos rfl]
  exact z.2
theorem g_mono (i : Nat) (vs : List Nat) : ∀ x H' (Q1 Q2 : L2.St → Hp → Prop), (∀ s h, Q1 s h → Q2 s h) → gName i x (wipe σ vs) H' Q1 → gName i x (wipe σ vs) H' Q2 := fun _ _ _ _ f q => f _ _ q
def rRevL (K : PySem.W.Frag) (Q : VK) : VK := fun x H1 => ∃ a xs, x = .ref a ∧ SqL K H1 a xs ∧ ∀ p, H1 p = none → Q (.ref p) (upd H1 p (.lst xs.reverse))
theorem rd_rev (h : te σ H (rRevL K Q)) : tRevL K te σ H Q := h
theorem rd_kRev {a : Addr} {xs : List V} (hq : SqL K H a xs) (k : ∀ p, H p = none → Q (.ref p) (upd H p (.lst xs.reverse))) : rRevL K Q (.ref a) H := ⟨a, xs, rfl, hq, k⟩
def kRng1 (g : TG) (tb : TS) (D : Ends) (σ : L2.St) : List V → Hp → Prop := fun vs H1 => ∃ j : Int, vs = [.int j] ∧ -(2 ^ 62) ≤ j ∧ j < 2 ^ 62 ∧ ∃ W : Nat → Nat → L2.St → Hp → Prop, (∃ m, W 0 m σ H1) ∧ ∀ i m σ H, W i m σ H →
  ((Itr 0 j.toNat).stop i H ∧ D.nx σ H) ∨ ((Itr 0 j.toNat).go i H ∧ ∃ N : L2.St → Hp → Prop, (∀ σ' H', N σ' H' → ∃ m', m' < m ∧ W (i + 1) m' σ' H') ∧ ∀ x H', (Itr 0 j.toNat).yld i H x H' → g x σ H' fun σ2 H2 => tb { D with nx := N, ct := N, bk := D.nx } σ2 H2)
theorem rd_forR {tb : TS} (h : tr σ H (kRng1 g tb D σ)) : tFor (iRng1 tr) g tb D σ H := h
theorem rd_kRng1 {tb : TS} {j : Int} (h1 : -(2 ^ 62) ≤ j) (h2 : j < 2 ^ 62) (Pv : Nat → L2.St → Hp → Prop) (h0 : Pv 0 σ H)
    (hs : ∀ i σ H, i < j.toNat → Pv i σ H → g (.int (0 + i)) σ H fun σ2 H2 => tb { D with nx := Pv (i + 1), ct := Pv (i + 1), bk := D.nx } σ2 H2) (hd : ∀ σ H, Pv j.toNat σ H → D.nx σ H) : kRng1 g tb D σ [.int j] H := ⟨j, rfl, h1, h2, for_range (lo := 0) (n := j.toNat) Pv h0 hs hd⟩
def kRng2 (g : TG) (tb : TS) (D : Ends) (σ : L2.St) : List V → Hp → Prop := fun vs H1 => ∃ i j : Int, vs = [.int i, .int j] ∧ (-(2 ^ 62) ≤ i ∧ i < 2 ^ 62 ∧ -(2 ^ 62) ≤ j ∧ j < 2 ^ 62) ∧ ∃ W : Nat → Nat → L2.St → Hp → Prop, (∃ m, W 0 m σ H1) ∧ ∀ k m σ H, W k m σ H →
  ((Itr i (j - i).toNat).stop k H ∧ D.nx σ H) ∨ ((Itr i (j - i).toNat).go k H ∧ ∃ N : L2.St → Hp → Prop, (∀ σ' H', N σ' H' → ∃ m', m' < m ∧ W (k + 1) m' σ' H') ∧ ∀ x H', (Itr i (j - i).toNat).yld k H x H' → g x σ H' fun σ2 H2 => tb { D with nx := N, ct := N, bk := D.nx } σ2 H2)
theorem rd_forR2 {tb : TS} (h : tr σ H (kRng2 g tb D σ)) : tFor (iRng2 tr) g tb D σ H := h
theorem rd_kRng2 {tb : TS} {a b : Int} (h1 : -(2 ^ 62) ≤ a ∧ a < 2 ^ 62 ∧ -(2 ^ 62) ≤ b ∧ b < 2 ^ 62) (Pv : Nat → L2.St → Hp → Prop) (h0 : Pv 0 σ H)
    (hs : ∀ i σ H, i < (b - a).toNat → Pv i σ H → g (.int (a + i)) σ H fun σ2 H2 => tb { D with nx := Pv (i + 1), ct := Pv (i + 1), bk := D.nx } σ2 H2) (hd : ∀ σ H, Pv (b - a).toNat σ H → D.nx σ H) : kRng2 g tb D σ [.int a, .int b] H := ⟨a, b, rfl, h1, for_range (lo := a) (n := (b - a).toNat) Pv h0 hs hd⟩
theorem rd_glst {ts : TGs} {n : Nat} {Qs : L2.St → Hp → Prop} {p : Addr} {xs : List V} (hs : SqL K H p xs) (hn : xs.length = n) (h : ts xs σ H Qs) : gLst K n ts (.ref p) σ H Qs := ⟨p, xs, rfl, hs, hn, h⟩
theorem rd_rep {l : Addr} {xs : List V} {k : Int} (h : H l = some (.lst xs)) (h1 : 0 ≤ k) (h2 : k ≤ 100000) (h3 : xs.length * k.toNat ≤ 1000000) (q : ∀ p, H p = none → Q (.ref p) (upd H p (.lst (List.replicate k.toNat xs).flatten))) : rRep (.ref l) (.int k) H Q :=
  ⟨l, k, xs, rfl, rfl, h, by omega, by omega, Nat.le_trans h3 (by decide), q⟩
def kApp (l : Addr) (Q : VK) : VK := fun y H2 => ∃ xs, H2 l = some (.lst xs) ∧ xs.length < sizeLine ∧ Q .non (upd H2 l (.lst (xs ++ [y])))
theorem rd_app {i : Nat} {l : Addr} {xs : List V} (e : σ[i]? = some (some (.ref l))) (hl : H l = some (.lst xs)) (h : te σ H (kApp l Q)) : tBM K "list" rAppend (tVar i) (tCons te tNil) σ H Q := by
  refine ⟨.ref l, e, .inl ⟨rfl, _, SqL.of hl⟩, ?_⟩
  have q : (fun (x : V) (H1 : Hp) => rAppend (.ref l) [x] H1 Q) = kApp l Q := by
    funext y H2
    apply propext
    constructor
    · rintro ⟨l', xs, y', e1, e2, a, b, c⟩
      cases e1
      cases e2
      exact ⟨xs, a, b, c⟩
    · rintro ⟨xs, a, b, c⟩
      exact ⟨l, xs, y, rfl, rfl, a, b, c⟩
  show te σ H (fun (x : V) (H1 : Hp) => rAppend (.ref l) [x] H1 Q)
  rw [q]
  exact h
theorem rd_kApp {l : Addr} {xs : List V} {y : V} (h : H l = some (.lst xs)) (hz : xs.length < 100000) (k : Q .non (upd H l (.lst (xs ++ [y])))) : kApp l Q y H := ⟨xs, h, Nat.lt_trans hz (by decide), k⟩
theorem rd_int1 {a : Int} (h : Q (.int a) H) : (∃ i, [V.int a] = [.int i] ∧ Q (.int i) H) ∨ ∃ k, [V.int a] = [.bl k] ∧ Q (.int (if k then 1 else 0)) H := .inl ⟨a, rfl, h⟩
theorem rd_int1b {b : Bool} (h : Q (.int (if b then 1 else 0)) H) : (∃ i, [V.bl b] = [.int i] ∧ Q (.int i) H) ∨ ∃ k, [V.bl b] = [.bl k] ∧ Q (.int (if k then 1 else 0)) H := .inr ⟨b, rfl, h⟩
theorem rd_sub {to ti : TE} {ts : TSet} {Qs : L2.St → Hp → Prop} (h : to σ H fun o H1 => ti σ H1 fun i H2 => ts o i v H2 fun H3 => Qs σ H3) : gSub to ti ts v σ H Qs := h
theorem rd_setL {p : Addr} {xs : List V} {n : Int} {j : Nat} {QH : Hp → Prop} (hl : H p = some (.lst xs)) (hj : ixN xs.length n = some j) (h : QH (upd H p (.lst (xs.set j v)))) : rSetL (.ref p) (.int n) v H QH := ⟨p, xs, n, j, rfl, rfl, hl, hj, h⟩
end
/-- a step of a reading -/
local macro_rules | `(tactic| walk_at "rd") => `(tactic| with_reducible (first
  | refine rd_seq ?_ | refine rd_var rfl ?_ | refine rd_op ?_ | refine rd_c ?_ | refine rd_asg ?_ | refine rd_name ?_ | refine rd_I0 ?_ | refine rd_ifS ?_ | refine rd_test ?_ | refine rd_kB ?_
  | refine rd_ret ?_ | refine rd_cons ?_ | refine rd_nil ?_ | refine rd_call ?_ | refine rd_make ?_ | refine rd_CB ?_ | refine rd_par ?_ | refine rd_lst ?_ | refine rd_tup ?_ | refine rd_un ?_ | refine rd_U ?_
  | refine rd_eqI ?_ | refine rd_neI ?_ | refine rd_and ?_ | refine rd_or ?_ | refine rd_not ?_ | refine rd_B ?_ | refine rd_andV ?_ | refine rd_orV ?_ | refine rd_notV ?_ | refine rd_if ?_ | refine rd_drop ?_ | refine rd_next ?_ | refine rd_retN ?_ | refine rd_sub ?_))
end My
set_option Elab.async false
set_option linter.all false
namespace My
open PySem PySem.Spec PyProof.Rows L2
/-! ### defs whose promise wants that no repr is under way (guards) -/
theorem deeper_guards (A : Around) (env : Env) : (A.deeper env).guards = A.guards := rfl
structure FnG (P : Program) (w : World) (K : PySem.W.Frag) (mg : Str → Option Value) (base : Heap) (CX : CXT) (k : Nat) (f : Addr) (fd : FuncData) (ps : List Str) (sp : Sp) : Prop where
  many : ∀ vs H Q E, sp vs H Q E → vs.length = ps.length
  goes : ∀ A : Around, A.guards = some [] → Room k A → ∀ (outer : List Env) (s : Shared) (H : Hp), Env0 P w K mg base A outer s H → ∀ (given : Args) (us : List Value) (vs : List V), BindsTo s fd given (ps.zip us) → Vals vs us → ∀ (Q : VK) (E : XK), sp vs H Q E →
    codeAny (model P w) A (.call (.ref f) given) (CR CX outer P w H s Q E) s
section
variable {P : Program} {w : World} {K : PySem.W.Frag} {mg : Str → Option Value} {base : Heap} {CX : CXT} {k : Nat} {f : Addr} {fd : FuncData} {ps : List Str} {sp : Sp}
theorem FnG.of (F : FnOk P w K mg base CX k f fd ps sp) : FnG P w K mg base CX k f fd ps sp :=
  ⟨F.len, fun A _ hr outer s H e0 given us vs hb hv Q E h => F.run A outer s H given us vs Q E hr e0 hb hv h⟩
/-- the rule for a def, its body as a term, with the guards told -/
theorem okG_any {x qual : Str} {st : Stmt} {N : List Str} (F : Fun K x qual st f fd) (S : FnScope N ps (defScope st)) (many : ∀ vs H Q E, sp vs H Q E → vs.length = ps.length)
    (hb : ∀ (cdv : Value) (A : Around) (outer : List Env) (s : Shared) (H : Hp) (vs : List V) (Q : VK) (E : XK), A.guards = some [] → Room k (A.deeper (envOfC qual (defScope st) s.heap.objs.size f cdv)) → sp vs H Q E →
      ∃ t, PSs (cxOf CX P w K mg base N qual (defScope st) f cdv A outer s H E) (defBody st) t ∧ t { nx := fun _ H' => Q .non H', rt := Q } (start N vs) H) : FnG P w K mg base CX (k + 1) f fd ps sp := by
  obtain ⟨oc, od, kV, doc, pm, an, cdv, ct, osl, rfl, lk, hcd⟩ := F.ex
  constructor
  · exact many
  intro A hgu hr outer s H e0 given us vs hbd r Q E hsp
  have inK : K.In s.heap := e0.mod.kin.keeps (fun b o q => (e0.bs b o q).1)
  have noL : s.heap.NoLimit := e0.mod.nolimit.keeps (fun b o q => (e0.bs b o q).1)
  have kinds : ∀ y ∈ ps.zip us, (defScope st).names.lookup y.1 = some .local ∨ ((defScope st).names.lookup y.1 = some .cell ∧ ((cellsFrom (s.heap.objs.size + 1) (defScope st).names []).lookup y.1).isSome = true) := by
    rintro ⟨n, v⟩ hy
    cases S.par n (List.of_mem_zip hy).1 with
    | inl q => exact Or.inl q
    | inr q => exact Or.inr ⟨q, PySem.W.cellsFrom_some _ _ _ (Or.inl q)⟩
  apply codeAny_call_function hr.depth (inK _ _ lk) rfl S.co S.gen rfl (PySem.W.codeRec_of inK hcd) (hbd _ _ _ _ _)
  apply wpAny_newFunctionEnv_cells S.kind kinds
  intro env he s1 z
  subst he
  refine And.intro (noL.keeps z.toInCall.keep) (codeAny_func ?_)
  obtain ⟨t, ht, hq⟩ := hb cdv A outer s H vs Q E hgu (hr.deeper _) hsp
  have I0 := inv_start (CX := CX) (E := E) S hr.hd e0 (many _ _ _ _ hsp) r z
  refine wpAny_mono (ht.run [] s1 (start N vs) H _ I0 hq) ?_ (fun _ _ q => q)
  intro fl s' hs
  cases fl with
  | brk => exact hs.elim fun _ a => a.elim fun _ b => (b.2 : False).elim
  | cont => exact hs.elim fun _ a => a.elim fun _ b => (b.2 : False).elim
  | next =>
    obtain ⟨σ', H', J, q⟩ := hs
    exact (⟨V.non, H', J.os, J.bare, J.base, J.hok, rfl, q⟩ : CE outer P w H s Q Value.none s')
  | ret u =>
    obtain ⟨v, σ', H', J, rv, q⟩ := hs
    exact (⟨v, H', J.os, J.bare, J.base, J.hok, rv, q⟩ : CE outer P w H s Q u s')
/-- .. that lets nothing out -/
theorem okG {x qual : Str} {st : Stmt} {N : List Str} (F : Fun K x qual st f fd) (S : FnScope N ps (defScope st)) (many : ∀ vs H Q E, sp vs H Q E → vs.length = ps.length)
    (hb : ∀ (cdv : Value) (A : Around) (outer : List Env) (s : Shared) (H : Hp) (vs : List V) (Q : VK) (E : XK), A.guards = some [] → Room k (A.deeper (envOfC qual (defScope st) s.heap.objs.size f cdv)) → sp vs H Q E →
      ∃ t, PSs (cxOf CX P w K mg base N qual (defScope st) f cdv A outer s H E).nox (defBody st) t ∧ t { nx := fun _ H' => Q .non H', rt := Q } (start N vs) H) : FnG P w K mg base CX (k + 1) f fd ps sp :=
  okG_any F S many fun cdv A outer s H vs Q E hg hr h => by
    obtain ⟨t, a, b⟩ := hb cdv A outer s H vs Q E hg hr h
    exact ⟨t, a.nox, b⟩
end
structure Dg (P : Program) (w : World) (K : PySem.W.Frag) (mg : Str → Option Value) (base : Heap) (CX : CXT) (k : Nat) (x : Str) (ps : List Str) (sp : Sp) : Prop where
  ex : ∃ (f : Addr) (fd : FuncData), mg x = some (.ref f) ∧ PySem.W.keepIn K (.ref f) = true ∧ FnG P w K mg base CX k f fd ps sp ∧ Binds K fd ps []
section
variable {X : Cx} {CX : CXT} {k : Nat} {x : Str} {f : Addr} {fd : FuncData} {ps : List Str} {sp : Sp} {E : XK} {p pos : Pos} {e : Expr} {es : List Expr} {t : TA}
theorem run_G {pins : List (Addr × Obj)} {σ : L2.St} {H : Hp} {s : Shared} {Q : VK} {us : List Value} {vs : List V} (F : FnG X.prog X.w X.K X.mg X.base CX k f fd ps sp) (hr : Room k X.A) (hg : X.A.guards = some []) (hb : Binds X.K fd ps []) (hx : Passes CX X E)
    (I : Inv X pins σ H s) (r : Vals vs us) (h : sp vs H Q E) : wpAny (model X.prog X.w) X.A (call (.ref f) us) (EP X pins σ Q) X.xe s := by
  have n : us.length = ps.length := r.length.symm.trans (F.many _ _ _ _ h)
  have bd := hb s us I.kIn (by rw [List.append_nil]; exact n)
  rw [List.append_nil] at bd
  refine wpAny_call (codeAny_mono (F.goes X.A hg hr X.stack s H I.env0 _ us vs bd r Q E h) ?_)
  intro r s' hq
  match r, hq with
  | .error e, hq => exact hx pins σ H s e s' I hq
  | .ok (.ret u), hq => exact I.after hq
  | .ok .next, hq => exact (hq : False).elim
  | .ok .brk, hq => exact (hq : False).elim
  | .ok .cont, hq => exact (hq : False).elim
theorem pe_dg (D : Dg X.prog X.w X.K X.mg X.base CX k x ps sp) (hr : Room k X.A) (hgu : X.A.guards = some []) (hx : Passes CX X E) (ha : PA X (e :: es) t) (hg : Gl X x := by rfl) (hdb : (x == ("__debug__" : Str)) = false := by decide)
    (he : starEach (e :: es) X.env = (false, eval e X.env) :: starEach es X.env := by rfl) (hpl : (backTo pos (starEach es X.env)).any (·.1) = false := by rfl) :
    PE X (.Call (.Name x p) (e :: es) [] pos) (tCall sp [] E t) := by
  obtain ⟨f, fd, hm, hk, F, hb⟩ := D.ex
  constructor
  intro pins s σ H Q I h
  apply wpAny_Call_Name_kw (ld_glob I hg hm _ hdb)
  apply PySem.W.callWith_K (h₀ := X.base) I.ok.mod.kin hk _ he hpl
  apply thn (ha.run pos pins s σ H _ I h)
  rintro us s1 ⟨vs, H1, I1, r, q⟩
  rw [List.append_nil] at q
  exact ⟨I1.kIn, run_G F hr hgu hb hx I1 r q⟩
/-- repr of data -/
def rRepr (K : PySem.W.Frag) : List V → Hp → VK → Prop := fun vs H Q => ∃ (a : Addr) (d : PyData), vs = [.ref a] ∧ Dp K H (.ref a) d ∧ d.showable = true ∧ d.hasDict = false ∧ d.depth ≤ 30 ∧ d.shown.length ≤ sizeLine ∧ Q (.str d.shown) H
theorem cr_repr (hu : X.A.units + 64 < cLine) (hg : X.A.guards = some []) : CallR X (.builtin "repr") (rRepr X.K) := by
  intro pins s σ H vs us Q I r h
  obtain ⟨a, d, rfl, hd, h1, h2, h3, h4, q⟩ := h
  obtain ⟨u, rfl, ru⟩ := vals1 r
  cases (show u = Value.ref a from ru)
  obtain ⟨as, rd⟩ := Dp.reads I d _ _ hd rfl
  exact repr_of_reads' rd h1 (fun z => by rw [h2] at z; cases z) hg (by omega) (fun _ _ z => z) (fun h' u tk hk => ⟨.str d.shown, H, I.kept hk, ⟨_, rfl⟩, q⟩) h4
end
/-! ### the law's own call -/
/-- the law's promise, told of a list of its ints, of at most 2 ^ 20 bits each -/
theorem script_run {P : Program} {w : World} {K : PySem.W.Frag} {mg mb : Str → Option Value} {k : Nat} {fa a : Addr} {fd : FuncData} {x : Str} {sp : Sp} {s₁ : Shared} {vs : List Value} {ns : List Int} (KX : K.In s₁.heap) (hns : s₁.heap.Ns mainGlobals mg)
    (hb : s₁.heap.Ns builtinsNs mb) (hbb : ∀ x : Str, x ≠ "__name__" → mb x = bootBuiltins x) (hlim : s₁.heap.NoLimit) (hg : s₁.gens = #[]) (ha : s₁.heap.get? a = some { cls := .type "list", data := .seq vs.toArray }) (hi : IntsAre vs ns) (hl : ns.length ≤ sizeLine)
    (hr : Room k callerA) (F : ∀ base : Heap, K.In base → base.Ns mainGlobals mg → FnG P w K mg base CX0 k fa fd [x] sp) (hbind : ∀ (s : Shared) (u : Value), BindsTo s fd ⟨[u], []⟩ [(x, u)])
    (hsp : ∀ H : Hp, Only H → SqL K H a (ns.map V.int) → sp [.ref a] H (fun v _ => v = .bl true) E0) :
    codeAny (model P w) callerA (.call (.ref fa) ⟨[.ref a], []⟩) (fun r s' => r = .ok (.ret (.bool true)) ∧ OldK s₁.heap s'.heap ∧ s'.os = s₁.os ∧ AllBare s'.gens) s₁ := by
  have main : ∀ H : Hp, (∀ b, H b ≠ none → b = a) → (H a ≠ none → K.lookup a = none) → Only H → HOk P w H s₁.heap → SqL K H a (ns.map V.int) →
      codeAny (model P w) callerA (.call (.ref fa) ⟨[.ref a], []⟩) (fun r s' => r = .ok (.ret (.bool true)) ∧ OldK s₁.heap s'.heap ∧ s'.os = s₁.os ∧ AllBare s'.gens) s₁ := by
    intro H alone apart hO hok hS
    have hidden : ∀ b o, s₁.heap.get? b = some o → (∀ u, H b = some u → False) → (hidT s₁.heap H).get? b = some o := fun b o q n => hidT_get q (by
      cases z : H b with
      | none => rfl
      | some u => exact (n u z).elim)
    have dicts : ∀ {b : Addr} {m : Str → Option Value}, s₁.heap.Ns b m → (hidT s₁.heap H).Ns b m := by
      rintro b m ⟨o, es, ep, q, d, r⟩
      refine ⟨o, es, ep, hidden b o q fun u z => ?_, d, r⟩
      have ab : b = a := alone b (by rw [z]; exact fun y => nomatch y)
      rw [ab, ha] at q
      cases q
      exact nomatch d
    have hK : K.In (hidT s₁.heap H) := fun b o q => hidden b o (KX b o q) fun u z => by
      have ab : b = a := alone b (by rw [z]; exact fun y => nomatch y)
      rw [ab] at z q
      rw [apart (by rw [z]; exact fun y => nomatch y)] at q
      cases q
    obtain ⟨mc, l1, l2⟩ := hlim
    have M : Mod K mg (hidT s₁.heap H) := { kin := hK, glob := dicts hns, blt := ⟨mb, dicts hb, hbb⟩, nolimit := ⟨mc, dicts l1, l2⟩ }
    have e0 : Env0 P w K mg (hidT s₁.heap H) callerA [] s₁ H :=
      { frames := rfl, mod := M, bs := fun _ _ q => of_hidT q, bsz := Nat.le_of_eq (hidT_size _ _), funs := trivial, frf := fun b z => (nomatch (show b ∈ ([] : List Addr) from z)), hok := hok, bare := .of_eq hg }
    have G := (F _ hK (dicts hns)).goes callerA rfl hr [] s₁ H e0 ⟨[.ref a], []⟩ [.ref a] [.ref a] (hbind s₁ (.ref a)) (.cons rfl .nil) _ _ (hsp H hO hS)
    refine codeAny_mono G ?_
    intro r s' h
    match r, h with
    | .error e, h => exact (h : False).elim
    | .ok .next, h => exact (h : False).elim
    | .ok .brk, h => exact (h : False).elim
    | .ok .cont, h => exact (h : False).elim
    | .ok (.ret u), ⟨v, H', os, bare, un, hok', rv, q⟩ =>
      have q : v = V.bl true := q
      rw [q] at rv
      have rv : u = Value.bool true := rv
      subst rv
      refine ⟨rfl, OldK.of_keep (fun b o z => ?_), os, bare⟩
      cases y : H b with
      | none => exact un.keep b o z y (fun m => (nomatch (show b ∈ ([] : List Addr) from m))) (fun m => nomatch m)
      | some u =>
        rcases hO b with n | ⟨ob, xs, n⟩
        · rw [n] at y
          exact nomatch y
        · have l1 := (hok b _ n).1
          have l2 := (hok' b _ (un.frzs b ob _ n)).1
          rw [z] at l1
          cases l1
          exact l2
  have rv := vals_ints hi
  cases q : K.lookup a with
  | none =>
    let one : HO := .frz { cls := .type "list", data := .seq vs.toArray } (.lst (ns.map V.int))
    have at_a : (fun b => if b = a then some one else none : Hp) a = some one := if_pos rfl
    have off_a : ∀ b, b ≠ a → (fun b => if b = a then some one else none : Hp) b = none := fun b n => if_neg n
    refine main (fun b => if b = a then some one else none) (fun b n => ?_) (fun _ => q) (fun b => ?_) (fun b u z => ?_) (Or.inl (Or.inr ⟨_, at_a⟩))
    · exact Classical.byContradiction fun y => n (off_a b y)
    · rcases Classical.em (b = a) with y | y
      · subst y
        exact Or.inr ⟨_, _, at_a⟩
      · exact Or.inl (off_a b y)
    · rcases Classical.em (b = a) with y | y
      · subst y
        rw [at_a] at z
        cases z
        exact ⟨ha, ⟨by simpa using hl, vs, _, rv, ha⟩⟩
      · rw [off_a b y] at z
        cases z
  | some o =>
    have z := KX a o q
    rw [ha] at z
    cases z
    refine main (fun _ => none) (fun b n => (n rfl).elim) (fun n => (n rfl).elim) (fun _ => Or.inl rfl) (fun b u z => nomatch (z : (none : Option HO) = some u)) (Or.inr ⟨_, vs.toArray, _, q, rfl, rfl, rfl, ?_, ?_⟩)
    · rw [List.size_toArray, hi.length]
      exact hl
    · simpa using rv
theorem walk_ofG {l : PySem.W.OpenLaw} {n k : Nat} {q : Program} {loose : List Str} {XP : (Str → Option Value) → Heap → Prop} {YP : World → Heap → Prop} {d : DefRec} {K : Params → PySem.W.Frag} {sp : World → Sp} {x : Str} (hn : l.most = some n) (hn2 : n ≤ sizeLine) (hdf : d.params.defaults = [])
    (hr : Room k callerA) (hY : ∀ (w : World) (h : Heap), YP w h → (K w.params).In h) (F : ∀ (w : World) (mg : Str → Option Value) (fa : Addr) (h : Heap), (K w.params).In h → h.Ns mainGlobals mg → XP mg h → mg d.name = some (.ref fa) →
      ∃ fd : FuncData, (∀ (s : Shared) (u : Value), BindsTo s fd ⟨[u], []⟩ [(x, u)]) ∧ ∀ base : Heap, (K w.params).In base → base.Ns mainGlobals mg → FnG l.prog w (K w.params) mg base CX0 k fa fd [x] (sp w))
    (hsp : ∀ (w : World) (H : Hp) (a : Addr) (ns : List Int), ns.length ≤ n → (∀ z ∈ ns, Builtin.Int.intBits z ≤ 1048576) → Only H → SqL (K w.params) H a (ns.map V.int) → sp w [.ref a] H (fun v _ => v = .bl true) E0) :
    PySem.W.WalkO q loose XP YP l.row.toRowW d [] (fun f vs => PySem.call f vs) := by
  apply Att.attach_callB hn hdf
  intro w s₀ s₁ mg mb fa o pm cd doc a vs ns G Y ho hd hcd hmg hobj hints hlen hbits hg
  obtain ⟨fd, hb, hF⟩ := F w mg fa _ (hY w _ Y) G.T.g G.X hmg
  exact script_run (hY w _ Y) G.T.g G.T.b G.T.builtins G.T.nolimit hg hobj hints (Nat.le_trans hlen hn2) hr hF hb (fun H hO hS => hsp w H a ns hlen hbits hO hS)
/-- .. where the promise hangs on the written part alone -/
theorem walk_ofGK {l : PySem.W.OpenLaw} {n k : Nat} {q : Program} {loose : List Str} {XP : (Str → Option Value) → Heap → Prop} {YP : World → Heap → Prop} {d : DefRec} {K : Params → PySem.W.Frag} {sp : PySem.W.Frag → Sp} {x : Str} (hn : l.most = some n) (hn2 : n ≤ sizeLine)
    (hdf : d.params.defaults = []) (hr : Room k callerA) (hY : ∀ (w : World) (h : Heap), YP w h → (K w.params).In h) (hsp : ∀ (K : PySem.W.Frag) (H : Hp) (a : Addr) (ns : List Int), ns.length ≤ n → (∀ z ∈ ns, Builtin.Int.intBits z ≤ 1048576) → Only H → SqL K H a (ns.map V.int) → sp K [.ref a] H (fun v _ => v = .bl true) E0)
    (F : ∀ (w : World) (mg : Str → Option Value) (fa : Addr) (h : Heap), (K w.params).In h → h.Ns mainGlobals mg → XP mg h → mg d.name = some (.ref fa) →
      ∃ fd : FuncData, (∀ (s : Shared) (u : Value), BindsTo s fd ⟨[u], []⟩ [(x, u)]) ∧ ∀ base : Heap, (K w.params).In base → base.Ns mainGlobals mg → FnG l.prog w (K w.params) mg base CX0 k fa fd [x] (sp (K w.params))) :
    PySem.W.WalkO q loose XP YP l.row.toRowW d [] (fun f vs => PySem.call f vs) :=
  walk_ofG (K := K) (sp := fun w => sp (K w.params)) hn hn2 hdf hr hY F fun w H a ns h1 h2 h3 h4 => hsp (K w.params) H a ns h1 h2 h3 h4
end My
namespace My
/-! ### fractions -/
def com (a b : Int) : Int := if b < 0 then -((Nat.gcd a.natAbs b.natAbs : Nat) : Int) else ((Nat.gcd a.natAbs b.natAbs : Nat) : Int)
theorem gcd_pos {a b : Int} (h : b ≠ 0) : 0 < Nat.gcd a.natAbs b.natAbs := Nat.gcd_pos_of_pos_right _ (by omega)
theorem com_ne {a b : Int} (h : b ≠ 0) : com a b ≠ 0 := by
  have := gcd_pos (a := a) h
  unfold com
  split <;> omega
theorem com_abs {a b : Int} : (com a b).natAbs = Nat.gcd a.natAbs b.natAbs := by
  unfold com
  split <;> omega
theorem com_le {a b : Int} (h : b ≠ 0) : (com a b).natAbs ≤ b.natAbs := by
  rw [com_abs]
  exact Nat.gcd_le_right _ (by omega)
theorem int_gcd (a b : Int) : b.gcd a = Nat.gcd a.natAbs b.natAbs := Nat.gcd_comm _ _
theorem fdiv_com {a b c : Int} (hb : b ≠ 0) (hc : ((Nat.gcd a.natAbs b.natAbs : Nat) : Int) ∣ c) : c.fdiv (com a b) = b.sign * c / ((Nat.gcd a.natAbs b.natAbs : Nat) : Int) := by
  have g0 := gcd_pos (a := a) hb
  generalize eg : Nat.gcd a.natAbs b.natAbs = g at *
  obtain ⟨k, rfl⟩ := hc
  have gi : (g : Int) ≠ 0 := by omega
  unfold com
  rw [eg]
  by_cases h : b < 0
  · rw [if_pos h, Int.sign_eq_neg_one_of_neg h]
    have e1 : (g : Int) * k = (-k) * (-(g : Int)) := by rw [Int.neg_mul_neg, Int.mul_comm]
    have e2 : -1 * ((g : Int) * k) = (g : Int) * (-k) := by rw [Int.neg_mul, Int.one_mul, Int.mul_neg]
    rw [e2, Int.mul_ediv_cancel_left _ gi, e1, Int.mul_fdiv_cancel _ (by omega)]
  · rw [if_neg h, Int.sign_eq_one_of_pos (by omega), Int.one_mul, Int.mul_ediv_cancel_left _ gi, Int.mul_comm, Int.mul_fdiv_cancel _ gi]
theorem low_num {a b : Int} (hb : b ≠ 0) : a.fdiv (com a b) = (Rat.divInt a b).num := by
  rw [Rat.num_divInt, int_gcd]
  exact fdiv_com hb (Int.ofNat_dvd_left.mpr (Nat.gcd_dvd_left _ _))
theorem low_den {a b : Int} (hb : b ≠ 0) : b.fdiv (com a b) = ((Rat.divInt a b).den : Int) := by
  rw [Rat.den_divInt, int_gcd, if_neg hb, fdiv_com hb (Int.ofNat_dvd_left.mpr (Nat.gcd_dvd_right _ _)), Int.natCast_ediv, Int.sign_mul_self]
theorem num_le {a b : Int} (hb : b ≠ 0) : (Rat.divInt a b).num.natAbs ≤ a.natAbs := by
  rw [Rat.num_divInt, int_gcd]
  have g0 := gcd_pos (a := a) hb
  have d1 : ((Nat.gcd a.natAbs b.natAbs : Nat) : Int) ∣ a := Int.ofNat_dvd_left.mpr (Nat.gcd_dvd_left _ _)
  generalize Nat.gcd a.natAbs b.natAbs = g at *
  obtain ⟨k, rfl⟩ := d1
  have e : b.sign * ((g : Int) * k) = (g : Int) * (b.sign * k) := by rw [← Int.mul_assoc, Int.mul_comm b.sign, Int.mul_assoc]
  rw [e, Int.mul_ediv_cancel_left _ (by omega), Int.natAbs_mul, Int.natAbs_mul, Int.natAbs_sign_of_ne_zero hb, Nat.one_mul]
  exact Nat.le_mul_of_pos_left _ (by omega)
theorem den_le {a b : Int} (hb : b ≠ 0) : (Rat.divInt a b).den ≤ b.natAbs := by
  rw [Rat.den_divInt, if_neg hb]
  exact Nat.div_le_self _ _
end My
namespace My
/-- a number's top and bottom have at most B bits -/
def Sz (B : Nat) (q : Rat) : Prop := q.num.natAbs < 2 ^ B ∧ q.den < 2 ^ B
theorem Sz.mono {B B' : Nat} {q : Rat} (h : Sz B q) (l : B ≤ B') : Sz B' q :=
  ⟨Nat.lt_of_lt_of_le h.1 (Nat.pow_le_pow_right (by decide) l), Nat.lt_of_lt_of_le h.2 (Nat.pow_le_pow_right (by decide) l)⟩
theorem Sz.of {B : Nat} {a b : Int} (hb : b ≠ 0) (h1 : a.natAbs < 2 ^ B) (h2 : b.natAbs < 2 ^ B) : Sz B (Rat.divInt a b) := ⟨Nat.lt_of_le_of_lt (num_le hb) h1, Nat.lt_of_le_of_lt (den_le hb) h2⟩
theorem q_eq (q : Rat) : q = Rat.divInt q.num (q.den : Int) := (Rat.num_divInt_den q).symm
theorem den_ne (q : Rat) : (q.den : Int) ≠ 0 := by have := q.den_nz; omega
theorem add_is (q r : Rat) : Rat.divInt (q.num * (r.den : Int) + r.num * (q.den : Int)) ((q.den : Int) * (r.den : Int)) = q + r := by
  rw [← Rat.divInt_add_divInt _ _ (den_ne q) (den_ne r), ← q_eq, ← q_eq]
theorem sub_is (q r : Rat) : Rat.divInt (q.num * (r.den : Int) - r.num * (q.den : Int)) ((q.den : Int) * (r.den : Int)) = q - r := by
  rw [← Rat.divInt_sub_divInt _ _ (den_ne q) (den_ne r), ← q_eq, ← q_eq]
theorem mul_is (q r : Rat) : Rat.divInt (q.num * r.num) ((q.den : Int) * (r.den : Int)) = q * r := by
  rw [← Rat.divInt_mul_divInt, ← q_eq, ← q_eq]
theorem inv_divInt {a b : Int} (ha : a ≠ 0) (hb : b ≠ 0) : (Rat.divInt a b)⁻¹ = Rat.divInt b a := by
  have h : Rat.divInt a b * Rat.divInt b a = 1 := by
    rw [Rat.divInt_mul_divInt, Int.mul_comm b a]
    exact Rat.divInt_self' (Int.mul_ne_zero ha hb)
  have n : Rat.divInt a b ≠ 0 := fun z => by
    rw [z, Rat.zero_mul] at h
    exact absurd h (by decide)
  have h2 := Rat.inv_mul_cancel (Rat.divInt a b) n
  rw [← Rat.mul_one ((Rat.divInt a b)⁻¹), ← h, ← Rat.mul_assoc, h2, Rat.one_mul]
theorem div_is (q r : Rat) (h : r.num ≠ 0) : Rat.divInt (q.num * (r.den : Int)) ((q.den : Int) * r.num) = q / r := by
  rw [← Rat.divInt_mul_divInt, ← q_eq, Rat.div_def]
  congr 1
  have e := inv_divInt h (den_ne r)
  rw [← q_eq] at e
  exact e.symm
theorem num_zero {q : Rat} : q.num = 0 ↔ q = 0 := by
  constructor
  · intro h
    rw [q_eq q, h]
    simp
  · rintro rfl
    rfl
theorem div_divInt {a b c d : Int} (hc : c ≠ 0) (hd : d ≠ 0) : Rat.divInt a b / Rat.divInt c d = Rat.divInt (a * d) (b * c) := by
  rw [Rat.div_def, inv_divInt hc hd, Rat.divInt_mul_divInt]
theorem lt94 {n : Nat} (h : n < 10 ^ 28) : n < 2 ^ 94 := Nat.lt_trans h (by decide)
end My
namespace My
theorem lcm_pos' : ∀ (qs : List Rat) (n : Nat), 0 < n → 0 < qs.foldl (fun n q => Nat.lcm n q.den) n
  | [], n, h => h
  | q :: r, n, h => lcm_pos' r _ (Nat.lcm_pos h (Nat.pos_of_ne_zero q.den_nz))
theorem lcm_dvd' : ∀ (qs : List Rat) (n : Nat), n ∣ qs.foldl (fun n q => Nat.lcm n q.den) n
  | [], n => Nat.dvd_refl n
  | q :: r, n => Nat.dvd_trans (Nat.dvd_lcm_left n q.den) (lcm_dvd' r _)
def lcmAll (qs : List Rat) : Nat := qs.foldl (fun n q => Nat.lcm n q.den) 1
theorem lcm_pos (qs : List Rat) : 0 < lcmAll qs := lcm_pos' qs 1 (by decide)
theorem lcm_take (qs : List Rat) (n : Nat) : (qs.take n).foldl (fun n q => Nat.lcm n q.den) 1 ≤ lcmAll qs := by
  have e : lcmAll qs = (qs.drop n).foldl (fun n q => Nat.lcm n q.den) ((qs.take n).foldl (fun n q => Nat.lcm n q.den) 1) := by
    rw [← List.foldl_append, List.take_append_drop]
    rfl
  rw [e]
  refine Nat.le_of_dvd ?_ (lcm_dvd' _ _)
  rw [← e]
  exact lcm_pos qs
theorem den_dvd' : ∀ (qs : List Rat) (n : Nat) (q : Rat), q ∈ qs → q.den ∣ qs.foldl (fun n q => Nat.lcm n q.den) n
  | p :: r, n, q, h => by
    rcases List.mem_cons.mp h with e | e
    · subst e
      exact Nat.dvd_trans (Nat.dvd_lcm_right n q.den) (lcm_dvd' r _)
    · exact den_dvd' r _ q e
theorem den_dvd {qs : List Rat} {q : Rat} (h : q ∈ qs) : q.den ∣ lcmAll qs := den_dvd' qs 1 q h
def topsOf (qs : List Rat) : List Int := qs.map fun q => q.num * (((lcmAll qs : Nat) : Int) / (q.den : Int))
theorem top_is {q : Rat} {B : Nat} (hB : 0 < B) (h : q.den ∣ B) : Rat.divInt (q.num * ((B : Int) / (q.den : Int))) (B : Int) = q := by
  obtain ⟨k, rfl⟩ := h
  have hd := q.den_nz
  have kn : (k : Int) ≠ 0 := by
    intro z
    have : k = 0 := by omega
    subst this
    exact absurd hB (by simp)
  rw [Int.natCast_mul, Int.mul_ediv_cancel_left _ (by omega), Rat.divInt_mul_right kn]
  exact (q_eq q).symm
theorem sum_divInt (B : Int) (hB : B ≠ 0) : ∀ l : List Int, Rat.divInt l.sum B = (l.map fun n => Rat.divInt n B).sum
  | [] => by
    rw [List.map_nil, List.sum_nil, List.sum_nil]
    simp
  | n :: r => by
    rw [List.map_cons, List.sum_cons, List.sum_cons, ← sum_divInt B hB r, Rat.divInt_add_divInt _ _ hB hB, ← Int.add_mul, Rat.divInt_mul_right hB]
theorem tops_sum (qs : List Rat) : Rat.divInt (topsOf qs).sum ((lcmAll qs : Nat) : Int) = qs.sum := by
  have hB := lcm_pos qs
  rw [sum_divInt _ (by omega)]
  unfold topsOf
  rw [List.map_map]
  congr 1
  conv => rhs; rw [← List.map_id qs]
  apply List.map_congr_left
  intro q hq
  exact top_is hB (den_dvd hq)
end My
namespace My
open PySem PySem.Spec PyProof.Rows L2
/-! ### a class with its own ==, str, len -/
theorem ns_some_of {K : PySem.W.Frag} {h : Heap} {N : Addr} {mg : Str → Option Value} {n : Str} {v : Value} (X : K.In h) (G : h.Ns N mg) (e : PySem.W.nsIn K N n = some (some v)) : mg n = some v := by
  obtain ⟨o, es, ep, ho, hd, _, hf⟩ := G
  unfold PySem.W.nsIn at e
  split at e
  · rename_i c d es' n' sl q
    have z := X _ _ q
    rw [z] at ho
    injection ho with ho
    subst ho
    injection hd with h1 h2
    subst h1
    split at e
    · rename_i en he
      injection e with e
      rw [← hf, ← e]
      simp only [nsFind, findBy]
      rw [← Array.find?_toList, he]
      rfl
    · split at e <;> exact nomatch e
  · exact nomatch e
/-- a method m of the class at C -/
structure Mt (P : Program) (w : World) (K : PySem.W.Frag) (mg : Str → Option Value) (base : Heap) (k : Nat) (C : Addr) (m : Str) (ps : List Str) (sp : Sp) : Prop where
  ex : ∃ (f : Addr) (fd : FuncData), PySem.W.findIn K (.ref C) m = some (some (.ref f)) ∧ PySem.W.isFn K (.ref f) = true ∧ PySem.W.keepIn K (.ref f) = true ∧ FnOk P w K mg base CX0 k f fd ps sp ∧ Binds K fd ps []
/-- the class at C has an own == and no own != -/
structure EqC (P : Program) (w : World) (K : PySem.W.Frag) (mg : Str → Option Value) (base : Heap) (k : Nat) (C : Addr) (sp : Sp) : Prop where
  nf : PySem.W.notFirst K C (.ref C) = true
  ex : ∃ (f : Addr) (fd : FuncData), PySem.W.findIn K (.ref C) "__eq__" = some (some (.ref f)) ∧ PySem.W.isFn K (.ref f) = true ∧ FnOk P w K mg base CX0 k f fd ["self", "other"] sp ∧ Binds K fd ["self", "other"] [] ∧
    (∃ o, K.lookup f = some o ∧ o.cls = .type "function") ∧ ∃ (nm qn : Str) (N : Addr) (bs : List Value) (hdct : Bool) (sn : List Str) (sub : List Value) (ab : Bool) (col : Option Bool) (dd : Option Addr) (k0 k1 k2 k3 k5 : Option Value) (newId : String),
      K.lookup C = some (excClassObj nm qn C N bs [.type "object"] hdct sn sub ab col dd k0 k1 k2 k3 k5 newId) ∧ PySem.W.nsOkIn K N = true ∧ PySem.W.nsIn K N "__eq__" = some (some (.ref f)) ∧ PySem.W.nsIn K N "__ne__" = some none
section
variable {X : Cx} {k : Nat} {C : Addr} {sp : Sp}
/-- a method's def called by the machine, within A' -/
theorem run_in {A' : Around} {f : Addr} {fd : FuncData} {ps : List Str} {pins : List (Addr × Obj)} {σ : L2.St} {H : Hp} {s : Shared} {Q : VK} {us : List Value} {vs : List V} (F : FnOk X.prog X.w X.K X.mg X.base CX0 k f fd ps sp) (hr : Room k A') (e0 : Env0 X.prog X.w X.K X.mg X.base A' X.stack s H)
    (hb : Binds X.K fd ps []) (I : Inv X pins σ H s) (r : Vals vs us) (h : sp vs H Q E0) : wpAny (model X.prog X.w) A' (call (.ref f) us) (EP X pins σ Q) X.xe s := by
  have n : us.length = ps.length := r.length.symm.trans (F.len _ _ _ _ h)
  have bd := hb s us I.kIn (by rw [List.append_nil]; exact n)
  rw [List.append_nil] at bd
  refine wpAny_call (codeAny_mono (F.run A' X.stack s H ⟨us, []⟩ us vs Q E0 hr e0 bd r h) ?_)
  intro r s' hq
  match r, hq with
  | .error e, hq => exact (hq : False).elim
  | .ok (.ret u), hq => exact I.after hq
  | .ok .next, hq => exact (hq : False).elim
  | .ok .brk, hq => exact (hq : False).elim
  | .ok .cont, hq => exact (hq : False).elim
def rEqO (C : Addr) (sp : Sp) : R2 := fun x y H Q => ∃ a dx fs b dy gs, x = .ref a ∧ y = .ref b ∧ H a = some (.ins C dx fs) ∧ H b = some (.ins C dy gs) ∧ sp [.ref a, .ref b] H Q E0
def rNeO (C : Addr) (sp : Sp) : R2 := fun x y H Q => ∃ a dx fs b dy gs, x = .ref a ∧ y = .ref b ∧ H a = some (.ins C dx fs) ∧ H b = some (.ins C dy gs) ∧ sp [.ref a, .ref b] H (fun v H' => ∃ t, v = .bl t ∧ Q (.bl (!t)) H') E0
theorem op_eqO (D : EqC X.prog X.w X.K X.mg X.base k C sp) (hr : Room k X.A) : OpR X (compareOp .Eq) (rEqO C sp) := by
  intro pins s σ H x y v u Q I rx ry h
  obtain ⟨a, dx, fs, b, dy, gs, rfl, rfl, ha, hb, q⟩ := h
  cases (show v = Value.ref a from rx)
  cases (show u = Value.ref b from ry)
  obtain ⟨f, fd, hs, hf, F, bd, _⟩ := D.ex
  obtain ⟨mA, O, _⟩ := ins_get I.hok ha
  obtain ⟨od, J, _⟩ := O.look
  obtain ⟨mB, O', _⟩ := ins_get I.hok hb
  obtain ⟨od', J', _⟩ := O'.look
  obtain ⟨m, hF⟩ := I.fr
  refine PySem.W.cmp_ofEq (PySem.W.cmp_K (op := .Eq) (tb := .ref C) hr.units0 hF I.ok.mod.kin J J'.type D.nf hs hf ?_)
  refine wpAny_mono (run_in (us := [.ref a, .ref b]) (vs := [.ref a, .ref b]) F hr I.env0 bd I (.cons rfl (.cons rfl .nil)) q) (fun w s' z => ?_) fun _ _ x => x
  obtain ⟨z', H', I', rz, qz⟩ := z
  exact SlX.cmpback rz ⟨z', H', I', rz, qz⟩
theorem op_neO (D : EqC X.prog X.w X.K X.mg X.base k C sp) (hr : Room (k + 1) X.A) : OpR X (compareOp .NotEq) (rNeO C sp) := by
  intro pins s σ H x y v u Q I rx ry h
  obtain ⟨a, dx, fs, b, dy, gs, rfl, rfl, ha, hb, q⟩ := h
  cases (show v = Value.ref a from rx)
  cases (show u = Value.ref b from ry)
  obtain ⟨f, fd, hs, hf, F, bd, ⟨of, lf, cf⟩, nm, qn, N, bs, hdct, sn, sub, ab, col, dd, k0, k1, k2, k3, k5, newId, lC, ok, e1, e2⟩ := D.ex
  obtain ⟨mA, O, _⟩ := ins_get I.hok ha
  obtain ⟨mB, O', _⟩ := ins_get I.hok hb
  have KI := I.kIn
  have hN : s.heap.Ns N (s.heap.nsMap N) := .of_isNs (PySem.W.isNs_of_in KI ok)
  have own : s.heap.OwnEqNoNe a C f "object" [.type "object"] :=
    ⟨_, of, nm, qn, N, bs, hdct, sn, sub, ab, col, dd, k0, k1, k2, k3, k5, newId, _, _, O.obj, rfl, KI _ _ lC, hN, ns_some_of KI hN e1, KI _ _ lf, cf, PySem.F.cmp_object.mro, PySem.F.cmp_object.eq.lookup, PySem.W.nsMap_none_of_in KI ok e2⟩
  have un := hr.units0
  have hu : X.A.units + 1 < cLine := by have := hr.un; omega
  obtain ⟨hp, g, d, t, os⟩ := s
  refine compareOp_ne_ownEq PySem.F.cmp_object own O'.obj rfl hu ?_
  refine wpAny_mono (run_in (us := [.ref a, .ref b]) (vs := [.ref a, .ref b]) F hr.in1 I.env0.in1 bd I (.cons rfl (.cons rfl .nil)) q) (fun w s' z => ?_) fun _ _ x => x
  obtain ⟨z', H', I', rz, t', et, qz⟩ := z
  subst et
  cases (show w = Value.bool t' from rz)
  exact ⟨t', rfl, .bl (!t'), H', I', rfl, qz⟩
/-- str of an instance with its own __str__ -/
def rStrO (C : Addr) (sp : Sp) : List V → Hp → VK → Prop := fun vs H Q => ∃ a dx fs, vs = [.ref a] ∧ H a = some (.ins C dx fs) ∧ sp [.ref a] H (fun v H' => ∃ x, v = .str x ∧ Q (.str x) H') E0
theorem cr_strO (D : Mt X.prog X.w X.K X.mg X.base k C "__str__" ["self"] sp) (hr : Room (k + 2) X.A) : CallR X (.type "str") (rStrO C sp) := by
  intro pins s σ H vs us Q I r h
  obtain ⟨a, dx, fs, rfl, ha, q⟩ := h
  obtain ⟨u, rfl, ru⟩ := vals1 r
  cases (show u = Value.ref a from ru)
  obtain ⟨f, fd, hs, hf, _, F, bd⟩ := D.ex
  obtain ⟨mA, O, _⟩ := ins_get I.hok ha
  obtain ⟨od, J, _⟩ := O.look
  have hr2 : Room k X.A.in1.in1 := (hr.in1 (k := k + 1)).in1
  refine PySem.W.kso_call hr2.units0 I.kIn J hs hf (wpAny_mono (run_in (us := [.ref a]) (vs := [.ref a]) F hr2 I.env0.in1.in1 bd I (.cons rfl .nil) q) (fun w s' z => ?_) fun _ _ x => x)
  obtain ⟨z', H', I', rz, x, ex, qz⟩ := z
  subst ex
  obtain ⟨t, rfl⟩ := rz
  exact ⟨.str x, H', I', ⟨t, rfl⟩, qz⟩
/-- math.lcm -/
def rLcm : List V → Hp → VK → Prop := fun vs H Q => ∃ a b : Int, vs = [.int a, .int b] ∧ a.natAbs < 2 ^ 13000 ∧ b.natAbs < 2 ^ 13000 ∧ Q (.int ((Nat.lcm a.natAbs b.natAbs : Nat) : Int)) H
theorem lcm_one (n : Nat) : Nat.lcm 1 n = n := by
  rw [Nat.lcm_one_left]
theorem lim_one {n : Nat} (h : n < 2 ^ 13000) : ¬ n.log2 / 30 + 1 > 450 := by
  rcases Nat.eq_zero_or_pos n with z | z
  · subst z
    decide
  · have q := (Nat.log2_lt (by omega)).mpr h
    omega
theorem max_lt {a b n : Nat} (h1 : a < n) (h2 : b < n) : max a b < n := by omega
theorem lcm_lt {a b m : Nat} (ha : a < 2 ^ m) (hb : b < 2 ^ m) : Nat.lcm a b < 2 ^ (m + m) := by
  rcases Nat.eq_zero_or_pos a with z | z
  · subst z
    rw [Nat.lcm_zero_left]
    exact Nat.two_pow_pos _
  · rcases Nat.eq_zero_or_pos b with y | y
    · subst y
      rw [Nat.lcm_zero_right]
      exact Nat.two_pow_pos _
    · have q := Nat.lcm_le_mul z y
      rw [Nat.pow_add]
      exact Nat.lt_of_le_of_lt q (Nat.mul_lt_mul'' ha hb)
theorem cr_lcm : CallR X (.builtin "math.lcm") rLcm := by
  intro pins s σ H vs us Q I r h
  obtain ⟨a, b, rfl, ha, hb, q⟩ := h
  obtain ⟨t, u, rfl⟩ := Vals.int2 r
  have e : (((Nat.lcm 1 a.natAbs).lcm b.natAbs : Nat) : Int) = ((Nat.lcm a.natAbs b.natAbs : Nat) : Int) := by rw [lcm_one]
  have big : ((((Nat.lcm 1 a.natAbs).lcm b.natAbs : Nat) : Int)).natAbs.log2 < bitsLine := by
    rw [e, Int.natAbs_natCast]
    have z := lcm_lt ha hb
    exact Nat.lt_trans (PySem.Flt.log2_lt_of (by decide) z) (by decide)
  refine call_function_meets PySem.W.MGF.kind_lcm PySem.W.MGF.plain_lcm PySem.W.MGF.entry_lcm (PySem.W.MGF.args_lcm _ _) (PySem.W.mg_run_lcm a t b u (lim_one (max_lt (Nat.one_lt_two_pow (by decide)) ha)) (lim_one (max_lt ha hb)) big).meets ?_
  rw [e]
  exact ⟨.int _, H, I.tok _, ⟨_, rfl⟩, q⟩
end
end My
namespace My
open PySem PySem.Spec PyProof.Rows L2
section
variable {X : Cx}
/-- xs.count(b) of a list of truths -/
def rCntB (K : PySem.W.Frag) : V → List V → Hp → VK → Prop := fun x xs H Q => ∃ (p : Addr) (bs : List Bool) (k : Bool), x = .ref p ∧ xs = [.bl k] ∧ SqL K H p (bs.map V.bl) ∧ Q (.int (countIn (.bool k) (bs.map PyData.bool))) H
theorem dp_bools {K : PySem.W.Frag} {H : Hp} : ∀ bs : List Bool, DpAll K H (bs.map V.bl) (bs.map PyData.bool)
  | [] => .nil
  | b :: r => .cons (.bl b) (dp_bools r)
theorem has_bools : ∀ bs : List Bool, (bs.map PyData.bool).all Shape.bool.has = true
  | [] => rfl
  | b :: r => by
    rw [List.map_cons, List.all_cons, has_bools r]
    rfl
theorem mt_countB : MtR X "list.count" (rCntB X.K) := by
  intro pins s σ H x xs v us Q I rx rxs h
  obtain ⟨p, bs, k, rfl, rfl, hs, q⟩ := h
  cases (show v = Value.ref p from rx)
  obtain ⟨u, rfl, ru⟩ := rxs.one
  cases (show u = Value.bool k from ru)
  obtain ⟨its, rv, hl, _⟩ := I.list hs
  obtain ⟨as, ra⟩ := Dp.readsAll I _ _ its (dp_bools bs) rv
  exact count_list_bools hl.isList ra (has_bools bs) ⟨.int _, H, I.tok _, ⟨_, rfl⟩, q⟩
end
end My
namespace My
open PySem PySem.Spec PyProof.Rows L2
def keyStr (e : DictEntry) : Bool := match e.key with | .str _ _ => true | _ => false
theorem nsOk_of {K : PySem.W.Frag} {N : Addr} {c : Value} {d : Option Addr} {es : Array DictEntry} {n : Nat} {sl : Array (Option Value)} (l : K.lookup N = some ⟨c, d, .dict es n, sl⟩) (h : es.all keyStr = true) : PySem.W.nsOkIn K N = true := by
  unfold PySem.W.nsOkIn
  rw [l]
  exact h
end My
namespace My
open PySem PySem.Spec PyProof.Rows L2
section
variable {X : Cx}
def allRef (xs : List V) : Prop := ∀ x ∈ xs, ∃ a, x = .ref a
theorem vals_refs : ∀ {xs : List V} {us vs : List Value}, allRef xs → Vals xs us → Vals xs vs → us = vs := by
  intro xs
  induction xs with
  | nil =>
    intro us vs _ r1 r2
    cases r1
    cases r2
    rfl
  | cons x xs ih =>
    intro us vs h r1 r2
    obtain ⟨a, rfl⟩ := h x (List.mem_cons_self ..)
    cases r1 with
    | cons q1 r1 =>
      cases r2 with
      | cons q2 r2 =>
        cases q1
        cases q2
        rw [ih (fun y hy => h y (List.mem_cons_of_mem _ hy)) r1 r2]
theorem allRef_map (as : List Addr) : allRef (as.map V.ref) := fun x hx => by
  obtain ⟨a, _, e⟩ := List.mem_map.mp hx
  exact ⟨a, e.symm⟩
/-- != of two lists: of the same objects, or of other lengths -/
def rNeL (K : PySem.W.Frag) : R2 := fun x y H Q => ∃ a b xs ys, x = .ref a ∧ y = .ref b ∧ SqL K H a xs ∧ SqL K H b ys ∧ ((xs = ys ∧ allRef xs ∧ Q (.bl false) H) ∨ (xs.length ≠ ys.length ∧ Q (.bl true) H))
theorem op_neL (hu : X.A.units < cLine) : OpR X (compareOp .NotEq) (rNeL X.K) := by
  intro pins s σ H x y v u Q I rx ry h
  obtain ⟨a, b, xs, ys, rfl, rfl, ha, hb, h⟩ := h
  cases (show v = Value.ref a from rx)
  cases (show u = Value.ref b from ry)
  obtain ⟨its, r1, l1, _⟩ := I.list ha
  obtain ⟨its2, r2, l2, _⟩ := I.list hb
  show wpAny (model X.prog X.w) X.A (richCompare .NotEq (.ref a) (.ref b)) (EP X pins σ Q) X.xe s
  rcases h with ⟨e, ar, q⟩ | ⟨n, q⟩
  · subst e
    have e := vals_refs ar r1 r2
    subst e
    have z := SeqAt.RcNeAt.lists (A := X.A) (s := s) (e := fun _ => true) l1.isList l2.isList rfl hu (fun j _ _ => SeqAt.EqAt.same _)
    have t : (!(List.range its.toArray.size).all fun _ => true) = false := by simp
    rw [t] at z
    exact z X.prog X.w X.xe _ ⟨.bl false, H, I, rfl, q⟩
  · have z := SeqAt.RcNeAt.lists_lengths (A := X.A) (s := s) l1.isList l2.isList (by
      rw [List.size_toArray, List.size_toArray, ← r1.length, ← r2.length]
      simpa using n) hu
    exact z X.prog X.w X.xe _ ⟨.bl true, H, I, rfl, q⟩
end
section
variable {K : PySem.W.Frag} {g : TG} {tb : TS} {D : Ends} {σ : L2.St} {H : Hp}
def kZip (K : PySem.W.Frag) (g : TG) (tb : TS) (D : Ends) (σ : L2.St) : List V → Hp → Prop := fun vs H1 => ∃ a b xs ys, vs = [.ref a, .ref b] ∧ SqL K H1 a xs ∧ SqL K H1 b ys ∧ ∃ W : Nat → Nat → L2.St → Hp → Prop, (∃ m, W 0 m σ H1) ∧ ∀ i m σ H, W i m σ H →
  ((Itz K a b).stop i H ∧ D.nx σ H) ∨ ((Itz K a b).go i H ∧ ∃ N : L2.St → Hp → Prop, (∀ σ' H', N σ' H' → ∃ m', m' < m ∧ W (i + 1) m' σ' H') ∧ ∀ x H', (Itz K a b).yld i H x H' → g x σ H' fun σ2 H2 => tb { D with nx := N, ct := N, bk := D.nx } σ2 H2)
theorem rd_forZ {tr : TA} (h : tr σ H (kZip K g tb D σ)) : tFor (iZip K tr) g tb D σ H := h
theorem rd_kZip {a b : Addr} {xs ys : List V} (hl : xs.length = ys.length) (ha : SqL K H a xs) (hb : SqL K H b ys) (Pv : Nat → L2.St → Hp → Prop) (h0 : Pv 0 σ H) (hq : ∀ i σ H, Pv i σ H → SqL K H a xs ∧ SqL K H b ys)
    (hs : ∀ (i : Nat) (x y : V) (T : Addr) (σ : L2.St) (H : Hp), xs[i]? = some x → ys[i]? = some y → Pv i σ H → H T = none → g (.ref T) σ (upd H T (.tup [x, y])) fun σ2 H2 => tb { D with nx := Pv (i + 1), ct := Pv (i + 1), bk := D.nx } σ2 H2)
    (hd : ∀ σ H, Pv xs.length σ H → D.nx σ H) : kZip K g tb D σ [.ref a, .ref b] H := ⟨a, b, xs, ys, rfl, ha, hb, RZ.for_zipL hl Pv h0 hq hs hd⟩
theorem g_mono2 (i j : Nat) (vs : List Nat) : ∀ x H' (Q1 Q2 : L2.St → Hp → Prop), (∀ s h, Q1 s h → Q2 s h) → gTup K 2 (gCons (gName i) (gCons (gName j) gNil)) x (wipe σ vs) H' Q1 → gTup K 2 (gCons (gName i) (gCons (gName j) gNil)) x (wipe σ vs) H' Q2 := by
  rintro x H' Q1 Q2 f ⟨p, xs, e, hs, hn, y, r, e2, y2, r2, e3, e4, q⟩
  exact ⟨p, xs, e, hs, hn, y, r, e2, y2, r2, e3, e4, f _ _ q⟩
end
section
variable {K : PySem.W.Frag} {g : TG} {te : TE} {σ : L2.St} {H : Hp} {Q : VK}
/-- the turns of a comprehension over the numbers from lo, n of them -/
def kLcN (g : TG) (te : TE) (vs : List Nat) (σ : L2.St) (Q : VK) (lo : Int) (n : Nat) : Hp → Prop := fun H1 => ∀ D, H1 D = none → ∃ W : Nat → Nat → Hp → Prop, (∃ m, W 0 m (upd H1 D (.lst []))) ∧ ∀ i m H, W i m H →
  ((Itr lo n).stop i H ∧ Q (.ref D) H) ∨ ((Itr lo n).go i H ∧ ∃ Nx : Hp → Prop, (∀ H', Nx H' → ∃ m', m' < m ∧ W (i + 1) m' H') ∧ ∀ x H', (Itr lo n).yld i H x H' → g x (wipe σ vs) H' fun σ2 H2 => wipe σ2 vs = wipe σ vs ∧ tYes σ2 H2 fun b H3 =>
    if b = true then te σ2 H3 fun y H4 => ∃ acc, H4 D = some (.lst acc) ∧ acc.length < sizeLine ∧ Nx (upd H4 D (.lst (acc ++ [y]))) else Nx H3)
def kLcR1 (g : TG) (te : TE) (vs : List Nat) (σ : L2.St) (Q : VK) : List V → Hp → Prop := fun xs H1 => ∃ j : Int, xs = [.int j] ∧ -(2 ^ 62) ≤ j ∧ j < 2 ^ 62 ∧ kLcN g te vs σ Q 0 j.toNat H1
def kLcR2 (g : TG) (te : TE) (vs : List Nat) (σ : L2.St) (Q : VK) : List V → Hp → Prop := fun xs H1 => ∃ i j : Int, xs = [.int i, .int j] ∧ (-(2 ^ 62) ≤ i ∧ i < 2 ^ 62 ∧ -(2 ^ 62) ≤ j ∧ j < 2 ^ 62) ∧ kLcN g te vs σ Q i (j - i).toNat H1
theorem rd_lcR1 {tr : TA} {vs : List Nat} (h : tr σ H (kLcR1 g te vs σ Q)) : tLc (iRng1 tr) g tYes te vs σ H Q := h
theorem rd_lcR2 {tr : TA} {vs : List Nat} (h : tr σ H (kLcR2 g te vs σ Q)) : tLc (iRng2 tr) g tYes te vs σ H Q := h
theorem rd_kLcN {vs : List Nat} {lo : Int} {n : Nat} (J : Nat → List V → Addr → Hp → Prop) (h0 : ∀ D, H D = none → J 0 [] D (upd H D (.lst [])))
    (hs : ∀ i acc D H', H D = none → i < n → H' D = some (.lst acc) → acc.length = i → J i acc D H' → g (.int (lo + i)) (wipe σ vs) H' fun σ2 H2 => wipe σ2 vs = wipe σ vs ∧ te σ2 H2 (kLcEnd J D i))
    (mono : ∀ x H' (Q1 Q2 : L2.St → Hp → Prop), (∀ s h, Q1 s h → Q2 s h) → g x (wipe σ vs) H' Q1 → g x (wipe σ vs) H' Q2)
    (hd : ∀ acc D H', H D = none → acc.length = n → H' D = some (.lst acc) → J n acc D H' → Q (.ref D) H') : kLcN g te vs σ Q lo n H := by
  intro D hD
  refine lc_range (fun i H' => ∃ acc, acc.length = i ∧ H' D = some (.lst acc) ∧ J i acc D H') ⟨[], rfl, upd_same, h0 D hD⟩ ?_ fun H' ⟨acc, e, h, j⟩ => hd acc D H' hD e h j
  rintro i H' hi ⟨acc, e, h, j⟩
  refine mono _ H' _ _ (fun s h' z => ?_) (hs i acc D H' hD hi h e j)
  refine ⟨z.1, ?_⟩
  unfold tYes
  dsimp only
  rw [if_pos rfl]
  exact z.2
end
end My
namespace My
open PySem PySem.Spec PyProof.Rows L2
theorem ofS_append (a b : String) : Str.ofString (a ++ b) = Str.ofString a ++ Str.ofString b := by
  rw [Str.ofString_eq_toList, Str.ofString_eq_toList, Str.ofString_eq_toList]
  refine Str.ext' ?_
  rw [Str.cps_append, String.toList_append, List.map_append]
  simp
theorem int_neg_text {n : Int} (h : n < 0) : Str.ofString "-" ++ Str.ofString (toString (if n < 0 then -n else n)) = Str.ofString (toString n) := by
  rw [if_pos h, ← ofS_append]
  congr 1
  obtain ⟨m, rfl⟩ := Int.eq_negSucc_of_lt_zero h
  rfl
theorem int_pos_text {n : Int} (h : ¬ n < 0) : Str.ofString "" ++ Str.ofString (toString (if n < 0 then -n else n)) = Str.ofString (toString n) := by
  rw [if_neg h, ← ofS_append]
  congr 1
/-- a number of the top that is worked out there -/
theorem loose_int {x : Str} {n : Int} {lv : List (Str × PySem.W.WData)} {mg : Str → Option Value} {h : Heap} (V : PySem.W.LooseAre lv mg h) (hx : lv.lookup x = some (.int n)) : ∃ t, mg x = some (.int n t) := by
  obtain ⟨v, a, b⟩ := V.val _ (PySem.W.mem_lookup hx)
  obtain ⟨t, rfl, _⟩ := PySem.W.readsW_int_inv b
  exact ⟨t, a⟩
theorem short_log {n : Int} (h : n.natAbs < 2 ^ 1900) : n.natAbs.log2 < 1920 := Nat.lt_trans (PySem.Flt.log2_lt_of (by decide) h) (by decide)
theorem text_len {n : Int} (h : n.natAbs < 2 ^ 1900) : (Str.ofString (toString n)).length ≤ 1901 := by
  rw [PySem.ofString_length]
  exact int_text_length_le (by decide) (PySem.Flt.log2_lt_of (by decide) h)
section
variable {X : Cx}
theorem ipop {op : Operator} {r : R2} (h : OpR X (inplaceOp op) r) : PIp X op r := fun pins s σ H x y v u Q I r1 r2 q => h pins s σ H x y v u Q I r1 r2 q
theorem iop_fdivA : OpR X (inplaceOp .FloorDiv) rDivA := opI fun i j _ _ _ _ _ hc q => ifloordiv_int hc.1 q (.inl (PyProof.noPylong_of_log2 hc.2))
end
end My
namespace My
open PySem PySem.Spec PyProof.Rows L2
theorem empty_append (a : Str) : Str.empty ++ a = a := Str.empty_append a
theorem str_len_append (a b : Str) : (a ++ b).length = a.length + b.length := by
  show (a.cps ++ b.cps).size = a.cps.size + b.cps.size
  rw [Array.size_append]
theorem rd_fmt {te : TE} {σ : L2.St} {H : Hp} {Q : VK} (h : te σ H fun x H1 => (∃ y : Str, x = .str y ∧ y.length ≤ sizeLine ∧ Q (.str y) H1) ∨ ∃ i : Int, x = .int i ∧ i.natAbs.log2 < 1920 ∧ Q (.str (toString i)) H1) : tFmt te σ H Q := h
theorem rd_tjs {t : TE} {ts : List TE} {acc : Str} {σ : L2.St} {H : Hp} {Q : Str → Hp → Prop} (h : t σ H fun x H1 => ∃ y : Str, x = .str y ∧ (acc ++ y).length ≤ sizeLine ∧ tJs ts (acc ++ y) σ H1 Q) : tJs (t :: ts) acc σ H Q := h
end My
namespace My
open PySem PySem.Spec PyProof.Rows L2
section
variable {X : Cx} {k : Nat} {C : Addr} {sp : Sp} {m : Str} {ps : List Str} {o e : Expr} {es : List Expr} {ta : TE} {t : TA} {apos pos : Pos}
/-- o.m(e, ..), m a method told by Mt -/
theorem pe_mt {pl : Sem Bool} (D : Mt X.prog X.w X.K X.mg X.base k C m ps sp) (he : PE X o ta) (c : Cls X.K C) (hr : Room k X.A) (ha : PA X (e :: es) t)
    (hst : starEach (e :: es) X.env = (false, eval e X.env) :: starEach es X.env := by rfl) (hpl : (backTo pos (starEach es X.env)).any (·.1) = false := by rfl)
    (ht : eval (.Call (.Attribute o m apos) (e :: es) [] pos) X.env = (do
      let ov ← eval o X.env
      standAt apos.atName
      let (f, first) ← holding [ov] (getMethod ov m pl)
      callWith pos f first (backTo pos (starEach (e :: es) X.env)) (backToKw pos (keywordEach [] X.env))) := by rfl) :
    PE X (.Call (.Attribute o m apos) (e :: es) [] pos) (tMeth C m sp [] E0 ta t) := by
  obtain ⟨f, fd, h1, h2, h3, F, b⟩ := D.ex
  exact pe_meth (pl := pl) he c ⟨h1, h2, h3⟩ F hr b .nil pass0 ha hst hpl ht
/-- o.m() -/
theorem pe_mt0 {pl : Sem Bool} (D : Mt X.prog X.w X.K X.mg X.base k C m ps sp) (he : PE X o ta) (c : Cls X.K C) (hr : Room k X.A)
    (ht : eval (.Call (.Attribute o m apos) [] [] pos) X.env = (do
      let ov ← eval o X.env
      standAt apos.atName
      let (f, first) ← holding [ov] (getMethod ov m pl)
      callWith pos f first (backTo pos (starEach [] X.env)) (backToKw pos (keywordEach [] X.env))) := by rfl) :
    PE X (.Call (.Attribute o m apos) [] [] pos) (tMeth C m sp [] E0 ta tNil) := by
  obtain ⟨f, fd, h1, h2, h3, F, b⟩ := D.ex
  exact pe_meth0 (pl := pl) he c ⟨h1, h2, h3⟩ F hr b .nil pass0 ht
def kMeth (C : Addr) (m : Str) (sp : Sp) (σ : L2.St) (t : TA) (Q : VK) : VK := fun x H1 => ∃ a dx fs, x = .ref a ∧ H1 a = some (.ins C dx fs) ∧ fs.lookup m = none ∧ t σ H1 fun vs H2 => sp (x :: (vs ++ [])) H2 Q E0
theorem rd_meth {σ : L2.St} {H : Hp} {Q : VK} (h : ta σ H (kMeth C m sp σ t Q)) : tMeth C m sp [] E0 ta t σ H Q := h
theorem rd_kMeth {σ : L2.St} {H : Hp} {Q : VK} {a dx : Addr} {fs : List (Str × V)} (ho : H a = some (.ins C dx fs)) (hl : fs.lookup m = none) (h : t σ H fun vs H2 => sp (.ref a :: (vs ++ [])) H2 Q E0) : kMeth C m sp σ t Q (.ref a) H := ⟨a, dx, fs, rfl, ho, hl, h⟩
/-- len of an instance with its own __len__ -/
def rLenO (C : Addr) (sp : Sp) : List V → Hp → VK → Prop := fun vs H Q => ∃ a dx fs, vs = [.ref a] ∧ H a = some (.ins C dx fs) ∧ sp [.ref a] H (fun v H' => ∃ n : Nat, v = .int (n : Int) ∧ n < 2 ^ 62 ∧ Q (.int (n : Int)) H') E0
theorem cr_lenO (D : Mt X.prog X.w X.K X.mg X.base k C "__len__" ["self"] sp) (hr : Room (k + 1) X.A) : CallR X (.builtin "len") (rLenO C sp) := by
  intro pins s σ H vs us Q I r h
  obtain ⟨a, dx, fs, rfl, ha, q⟩ := h
  obtain ⟨u, rfl, ru⟩ := vals1 r
  cases (show u = Value.ref a from ru)
  obtain ⟨f, fd, hs, hf, _, F, bd⟩ := D.ex
  obtain ⟨mA, O, _⟩ := ins_get I.hok ha
  obtain ⟨od, J, _⟩ := O.look
  have hr1 : Room k X.A.in1 := hr.in1
  refine Calls.call_function_entry kind_len plain_len entry_len (args_len1 _) ?_
  unfold Builtin.«len»
  refine wpAny_bind (m := oneArg "len" _) (wpAny_pure ?_)
  refine wpAny_bind (m := callSpecial? (.ref a) (Str.ofString "__len__")) (PySem.W.special_fn I.kIn J hs (beq_iff_eq.mp hf) (wpAny_mono (run_in (us := [.ref a]) (vs := [.ref a]) F hr1 I.env0.in1 bd I (.cons rfl .nil) q) (fun w s' z => ?_) fun _ _ x => x))
  obtain ⟨z', H', I', rz, n, en, hn, qz⟩ := z
  subst en
  obtain ⟨t, rfl⟩ := rz
  refine wpAny_bind (wpAny_holding (wpAny_pure ?_))
  refine wpAny_bind (wpAny_letGo ?_)
  show wpAny _ _ (if ((n : Nat) : Int) < 0 then _ else _) _ _ _
  rw [if_neg (by omega)]
  show wpAny _ _ (if ((n : Nat) : Int) ≥ 2 ^ 63 then _ else _) _ _ _
  rw [if_neg (by omega)]
  exact wpAny_bind (wpAny_mkInt (wpAny_pure ⟨_, rfl, .int (n : Int), H', I'.tok _, ⟨_, rfl⟩, qz⟩))
def kChain (r r' : R2) (σ : L2.St) (tc : TE) (Q : VK) (y : V) : VK := fun z H3 => ∃ k, z = .bl k ∧ (if k = true then tc σ H3 fun w' H4 => r' y w' H4 Q else Q (.bl false) H3)
theorem rd_chain {r r' : R2} {tb tc : TE} {σ : L2.St} {H : Hp} {Q : VK} (h : ta σ H fun x H1 => tb σ H1 fun y H2 => r x y H2 (kChain r r' σ tc Q y)) : tChain r r' ta tb tc σ H Q := h
theorem rd_kChain {r r' : R2} {tc : TE} {σ : L2.St} {H : Hp} {Q : VK} {y : V} {b : Bool} (h : if b = true then tc σ H fun w' H4 => r' y w' H4 Q else Q (.bl false) H) : kChain r r' σ tc Q y (.bl b) H := ⟨b, rfl, h⟩
theorem rd_all {K : PySem.W.Frag} {H : Hp} {Q : VK} {a : Addr} {bs : List Bool} (h : SqL K H a (bs.map V.bl)) (q : Q (.bl (bs.all id)) H) : rAll K [.ref a] H Q := ⟨a, bs, rfl, h, q⟩
theorem rd_any {K : PySem.W.Frag} {H : Hp} {Q : VK} {a : Addr} {bs : List Bool} (h : SqL K H a (bs.map V.bl)) (q : Q (.bl (bs.any id)) H) : rAny K [.ref a] H Q := ⟨a, bs, rfl, h, q⟩
/-- xs.append(y), the list at what an expression tells -/
def kAppE (K : PySem.W.Frag) (σ : L2.St) (te : TE) (Q : VK) : VK := fun x H1 => tyV K "list" x H1 ∧ (tCons te tNil) σ H1 fun xs H2 => rAppend x xs H2 Q
theorem rd_appE {K : PySem.W.Frag} {to te : TE} {σ : L2.St} {H : Hp} {Q : VK} (h : to σ H (kAppE K σ te Q)) : tBM K "list" rAppend to (tCons te tNil) σ H Q := h
theorem rd_kAppE {K : PySem.W.Frag} {te : TE} {σ : L2.St} {H : Hp} {Q : VK} {l : Addr} {xs : List V} (hl : H l = some (.lst xs)) (h : te σ H (kApp l Q)) : kAppE K σ te Q (.ref l) H := by
  refine ⟨.inl ⟨rfl, _, SqL.of hl⟩, ?_⟩
  have e : (fun (x : V) (H1 : Hp) => rAppend (.ref l) [x] H1 Q) = kApp l Q := by
    funext y H2
    apply propext
    constructor
    · rintro ⟨l', xs, y', e1, e2, a, b, c⟩
      cases e1
      cases e2
      exact ⟨xs, a, b, c⟩
    · rintro ⟨xs, a, b, c⟩
      exact ⟨l, xs, y, rfl, rfl, a, b, c⟩
  show te σ H (fun (x : V) (H1 : Hp) => rAppend (.ref l) [x] H1 Q)
  rw [e]
  exact h
end
end My
namespace My
open PySem PySem.Spec PyProof.Rows L2
mutual
/-- data of short ints, m things in all, of depth n -/
inductive Nice : PyData → Nat → Nat → Prop
  | int {i : Int} (h : i.natAbs < 2 ^ 1900) : Nice (.int i) 1 0
  | non : Nice .none 1 0
  | lst {ds : List PyData} {m n : Nat} (h : NiceAll ds m n) : Nice (.list ds) (m + 1) (n + 1)
  | tup {ds : List PyData} {m n : Nat} (h : NiceAll ds m n) : Nice (.tuple ds) (m + 1) (n + 1)
inductive NiceAll : List PyData → Nat → Nat → Prop
  | nil {n : Nat} : NiceAll [] 0 n
  | cons {d : PyData} {ds : List PyData} {m m' n n' : Nat} (h : Nice d m n') (l : n' ≤ n) (r : NiceAll ds m' n) : NiceAll (d :: ds) (m + m') n
end
def NiceP (d : PyData) (m n : Nat) : Prop := d.showable = true ∧ d.hasDict = false ∧ d.depth ≤ n ∧ d.canLay0 = true ∧ d.shown.length + 2 ≤ 2000 * m
def NicePs (ds : List PyData) (m n : Nat) : Prop := PyData.showableAll ds = true ∧ PyData.hasDictAll ds = false ∧ PyData.depthAll ds ≤ n ∧ PyData.canLayAll0 ds = true ∧ ((PyData.shownAll ds).map (·.length)).sum + 2 * (PyData.shownAll ds).length ≤ 2000 * m
mutual
theorem Nice.p {d : PyData} {m n : Nat} (h : Nice d m n) : NiceP d m n := by
  cases h with
  | @int i h =>
    have q : i.natAbs.log2 < 1900 := PySem.Flt.log2_lt_of (by decide) h
    refine ⟨by simp only [PyData.showable, decide_eq_true_eq]; omega, by simp only [PyData.hasDict], by simp only [PyData.depth]; omega, by simp only [PyData.canLay0], ?_⟩
    have e := int_text_length_le (by decide) q
    rw [PyData.shown]
    have e2 : (Str.ofString (toString i)).length ≤ 1901 := Nat.le_trans (Nat.le_of_eq (PySem.ofString_length _)) e
    omega
  | non => exact ⟨by simp only [PyData.showable], by simp only [PyData.hasDict], by simp only [PyData.depth]; omega, by simp only [PyData.canLay0], by simp only [PyData.shown]; decide +kernel⟩
  | @lst ds m n h =>
    obtain ⟨a, b, c, d, e⟩ := h.p
    refine ⟨by simpa only [PyData.showable] using a, by simpa only [PyData.hasDict] using b, by simp only [PyData.depth]; omega, by simpa only [PyData.canLay0] using d, ?_⟩
    have z := listText_len_le (PyData.shownAll ds)
    rw [PyData.shown]
    omega
  | @tup ds m n h =>
    obtain ⟨a, b, c, d, e⟩ := h.p
    refine ⟨by simpa only [PyData.showable] using a, by simpa only [PyData.hasDict] using b, by simp only [PyData.depth]; omega, by simpa only [PyData.canLay0] using d, ?_⟩
    have z := tupleText_len_le (PyData.shownAll ds)
    rw [PyData.shown]
    omega
theorem NiceAll.p {ds : List PyData} {m n : Nat} (h : NiceAll ds m n) : NicePs ds m n := by
  cases h with
  | nil => exact ⟨by simp only [PyData.showableAll], by simp only [PyData.hasDictAll], by simp only [PyData.depthAll]; omega, by simp only [PyData.canLayAll0], by simp only [PyData.shownAll, List.map_nil, List.sum_nil, List.length_nil]; omega⟩
  | @cons d ds m m' n n' h l r =>
    obtain ⟨a, b, c, e, f⟩ := h.p
    obtain ⟨a', b', c', e', f'⟩ := r.p
    refine ⟨by simp only [PyData.showableAll, a, a']; rfl, by simp only [PyData.hasDictAll, b, b']; rfl, by simp only [PyData.depthAll]; omega, by simp only [PyData.canLayAll0, e, e']; rfl, ?_⟩
    simp only [PyData.shownAll, List.map_cons, List.sum_cons, List.length_cons]
    omega
end
theorem NiceAll.ints {n : Nat} : ∀ {ns : List Int}, (∀ x ∈ ns, x.natAbs < 2 ^ 1900) → NiceAll (ns.map PyData.int) ns.length n
  | [], _ => .nil
  | x :: r, h => by
    rw [List.map_cons, List.length_cons, Nat.add_comm]
    exact .cons (.int (h x (List.mem_cons_self ..))) (Nat.zero_le _) (NiceAll.ints fun y hy => h y (List.mem_cons_of_mem _ hy))
theorem dp_ints {K : PySem.W.Frag} {H : Hp} : ∀ ns : List Int, DpAll K H (ns.map V.int) (ns.map PyData.int)
  | [] => .nil
  | x :: r => .cons (.int x) (dp_ints r)
theorem rd_reprN {K : PySem.W.Frag} {H : Hp} {Q : VK} {a : Addr} {d : PyData} {m n : Nat} (hd : Dp K H (.ref a) d) (hn : Nice d m n) (h1 : n ≤ 30) (h2 : m ≤ 8000) (q : Q (.str d.shown) H) : rRepr K [.ref a] H Q := by
  obtain ⟨p1, p2, p3, p4, p5⟩ := hn.p
  exact ⟨a, d, rfl, hd, p1, p2, by omega, Nat.le_trans (show _ ≤ 16000000 by omega) (by decide), q⟩
theorem Nice.shaped {d : PyData} {m n : Nat} (h : Nice d m n) (h1 : n ≤ 30) : SeqAt.shaped d = true := by
  obtain ⟨p1, p2, p3, p4, p5⟩ := h.p
  unfold SeqAt.shaped
  rw [p4, decide_eq_true (show d.depth ≤ 64 by omega)]
  rfl
theorem rd_neDs {K : PySem.W.Frag} {H : Hp} {Q : VK} {x y : V} {d : PyData} {m n : Nat} (hx : Dp K H x d) (hy : Dp K H y d) (hn : Nice d m n) (h1 : n ≤ 30) (q : Q (.bl false) H) : rNeD K x y H Q := by
  refine ⟨d, d, hx, hy, hn.shaped h1, hn.shaped h1, ?_⟩
  rw [SeqAt.eqv_refl d hn.p.2.2.2.1]
  exact q
theorem rd_eqDs {K : PySem.W.Frag} {H : Hp} {Q : VK} {x y : V} {d : PyData} {m n : Nat} (hx : Dp K H x d) (hy : Dp K H y d) (hn : Nice d m n) (h1 : n ≤ 30) (q : Q (.bl true) H) : rEqD K x y H Q := by
  refine ⟨d, d, hx, hy, hn.shaped h1, hn.shaped h1, ?_⟩
  rw [SeqAt.eqv_refl d hn.p.2.2.2.1]
  exact q
end My
namespace My
section
open Classical
/-! ### walks on as rows of numbers: where one comes from a place -/
/-- from x a step leads to y -/
def Stp (nss : List (List Int)) (x y : Nat) : Prop := ∃ ns n, nss[x]? = some ns ∧ ns[y]? = some n ∧ 0 < n
inductive Rch (nss : List (List Int)) (x : Nat) : Nat → Prop
  | refl : Rch nss x x
  | tail {y z : Nat} (h : Rch nss x y) (s : Stp nss y z) : Rch nss x z
theorem Rch.trans {nss : List (List Int)} {x y z : Nat} (h : Rch nss x y) (g : Rch nss y z) : Rch nss x z := by
  induction g with
  | refl => exact h
  | tail _ s ih => exact ih.tail s
/-- all rows are as long as there are rows -/
def Sq (nss : List (List Int)) : Prop := ∀ ns ∈ nss, ns.length = nss.length
theorem Stp.lt {nss : List (List Int)} {x y : Nat} (h : Sq nss) (s : Stp nss x y) : y < nss.length := by
  obtain ⟨ns, n, h1, h2, _⟩ := s
  have q := (List.getElem?_eq_some_iff.mp h2).1
  rw [h ns (List.mem_of_getElem? h1)] at q
  exact q
theorem Rch.lt {nss : List (List Int)} {x y : Nat} (h : Sq nss) (hx : x < nss.length) (r : Rch nss x y) : y < nss.length := by
  cases r with
  | refl => exact hx
  | tail _ s => exact s.lt h
/-- all places to which one comes from x, in order -/
noncomputable def rchL (nss : List (List Int)) (x : Nat) : List Nat := (List.range nss.length).filter fun y => decide (Rch nss x y)
theorem mem_rchL {nss : List (List Int)} {x y : Nat} : y ∈ rchL nss x ↔ y < nss.length ∧ Rch nss x y := by
  unfold rchL
  rw [List.mem_filter, List.mem_range, decide_eq_true_iff]
theorem rchL_pw (nss : List (List Int)) (x : Nat) : (rchL nss x).Pairwise (· < ·) := List.Pairwise.sublist (List.filter_sublist ..) List.pairwise_lt_range
theorem rchL_len (nss : List (List Int)) (x : Nat) : (rchL nss x).length ≤ nss.length := by
  have := List.length_filter_le (fun y => decide (Rch nss x y)) (List.range nss.length)
  rw [List.length_range] at this
  exact this
theorem srt_ext {α : Type} {R : α → α → Prop} (irr : ∀ x, ¬ R x x) (tr : ∀ x y z, R x y → R y z → R x z) : ∀ {xs ys : List α}, xs.Pairwise R → ys.Pairwise R → (∀ z, z ∈ xs ↔ z ∈ ys) → xs = ys
  | [], [], _, _, _ => rfl
  | [], y :: ys, _, _, h => nomatch (h y).mpr (List.mem_cons_self ..)
  | x :: xs, [], _, _, h => nomatch (h x).mp (List.mem_cons_self ..)
  | x :: xs, y :: ys, hx, hy, h => by
    rw [List.pairwise_cons] at hx hy
    have e : x = y := by
      rcases List.mem_cons.mp ((h x).mp (List.mem_cons_self ..)) with q | q
      · exact q
      · rcases List.mem_cons.mp ((h y).mpr (List.mem_cons_self ..)) with p | p
        · exact p.symm
        · exact (irr x (tr _ _ _ (hx.1 y p) (hy.1 x q))).elim
    subst e
    refine congrArg (x :: ·) (srt_ext irr tr hx.2 hy.2 fun z => ⟨fun m => ?_, fun m => ?_⟩)
    · rcases List.mem_cons.mp ((h z).mp (List.mem_cons_of_mem _ m)) with q | q
      · subst q
        exact (irr z (hx.1 z m)).elim
      · exact q
    · rcases List.mem_cons.mp ((h z).mpr (List.mem_cons_of_mem _ m)) with q | q
      · subst q
        exact (irr z (hy.1 z m)).elim
      · exact q
theorem nat_ext {xs ys : List Nat} (h1 : xs.Pairwise (· < ·)) (h2 : ys.Pairwise (· < ·)) (h : ∀ z, z ∈ xs ↔ z ∈ ys) : xs = ys := srt_ext (fun x => Nat.lt_irrefl x) (fun _ _ _ a b => Nat.lt_trans a b) h1 h2 h
/-- places, without a double, among so many: no more than these -/
theorem nodup_len : ∀ {n : Nat} {xs : List Nat}, xs.Nodup → (∀ x ∈ xs, x < n) → xs.length ≤ n
  | 0, [], _, _ => Nat.le_refl 0
  | 0, x :: _, _, h => nomatch h x (List.mem_cons_self ..)
  | n + 1, xs, hn, h => by
    have g := nodup_len (n := n) (xs := xs.filter (· ≠ n)) (hn.sublist (List.filter_sublist ..)) fun x hx => by
      rw [List.mem_filter] at hx
      have := h x hx.1
      have := of_decide_eq_true hx.2
      omega
    have e : xs.length ≤ (xs.filter (· ≠ n)).length + 1 := by
      clear g h
      induction xs with
      | nil => exact Nat.zero_le _
      | cons x xs ih =>
        rw [List.nodup_cons] at hn
        rcases Classical.em (x = n) with q | q
        · subst q
          have z : xs.filter (· ≠ x) = xs := List.filter_eq_self.mpr fun y hy => decide_eq_true fun e => hn.1 (e ▸ hy)
          rw [List.filter_cons, if_neg (by simp), z]
          exact Nat.le_refl _
        · rw [List.filter_cons, if_pos (by simpa using q), List.length_cons, List.length_cons]
          have := ih hn.2
          omega
    omega
/-- a sorted list of just the places to which one comes is rchL -/
theorem rchL_of {nss : List (List Int)} {x : Nat} {ps : List Nat} {ks : List Int} (hp : ks.Perm (ps.map fun p : Nat => (p : Int))) (hs : ks.Pairwise (· ≤ ·)) (hn : ps.Nodup) (hm : ∀ y, y ∈ ps ↔ y < nss.length ∧ Rch nss x y) : ks = (rchL nss x).map fun p : Nat => (p : Int) := by
  have h1 : ks.Pairwise (· < ·) := by
    have nd : ks.Nodup := hp.nodup_iff.mpr (by
      refine List.Pairwise.map _ (fun a b h e => h ?_) hn
      exact Int.ofNat.inj e)
    refine (List.pairwise_and_iff.mpr ⟨hs, nd⟩).imp fun {a b} h => ?_
    have := h.1
    have := h.2
    omega
  refine srt_ext (R := (· < ·)) (fun x => Int.lt_irrefl x) (fun _ _ _ a b => Int.lt_trans a b) h1 (List.Pairwise.map _ (fun a b h => Int.ofNat_lt.mpr h) (rchL_pw nss x)) fun z => ?_
  rw [hp.mem_iff, List.mem_map, List.mem_map]
  constructor
  · rintro ⟨y, hy, rfl⟩
    exact ⟨y, mem_rchL.mpr ((hm y).mp hy), rfl⟩
  · rintro ⟨y, hy, rfl⟩
    exact ⟨y, (hm y).mpr (mem_rchL.mp hy), rfl⟩
/-- what is closed under steps and has x has all places to which one comes from x -/
theorem Rch.in_closed {nss : List (List Int)} {x y : Nat} {ps : List Nat} (h0 : x ∈ ps) (hc : ∀ p ∈ ps, ∀ z, Stp nss p z → z ∈ ps) (r : Rch nss x y) : y ∈ ps := by
  induction r with
  | refl => exact h0
  | tail _ s ih => exact hc _ ih _ s
/-! closed sets -/
/-- all places of x's set come to just these -/
def ClsAt (nss : List (List Int)) (x : Nat) : Prop := ∀ y ∈ rchL nss x, rchL nss y = rchL nss x
noncomputable def clsUp (nss : List (List Int)) (k : Nat) : List (List Nat) := ((List.range k).filter fun x => decide ((rchL nss x).head? = some x ∧ ClsAt nss x)).map (rchL nss)
/-- the closed sets, by their first places -/
noncomputable def clsL (nss : List (List Int)) : List (List Nat) := clsUp nss nss.length
theorem clsUp_zero (nss : List (List Int)) : clsUp nss 0 = [] := rfl
theorem clsUp_yes {nss : List (List Int)} {k : Nat} (h : (rchL nss k).head? = some k) (g : ClsAt nss k) : clsUp nss (k + 1) = clsUp nss k ++ [rchL nss k] := by
  unfold clsUp
  rw [List.range_succ, List.filter_append, List.map_append, List.filter_cons, if_pos (by simp [h, g])]
  rfl
theorem clsUp_no {nss : List (List Int)} {k : Nat} (h : ¬ ((rchL nss k).head? = some k ∧ ClsAt nss k)) : clsUp nss (k + 1) = clsUp nss k := by
  unfold clsUp
  rw [List.range_succ, List.filter_append, List.map_append, List.filter_cons, if_neg (by simpa using h)]
  exact List.append_nil _
theorem mem_clsUp {nss : List (List Int)} {k : Nat} {ps : List Nat} : ps ∈ clsUp nss k ↔ ∃ x, x < k ∧ (rchL nss x).head? = some x ∧ ClsAt nss x ∧ rchL nss x = ps := by
  unfold clsUp
  rw [List.mem_map]
  constructor
  · rintro ⟨x, hx, e⟩
    rw [List.mem_filter, List.mem_range, decide_eq_true_iff] at hx
    exact ⟨x, hx.1, hx.2.1, hx.2.2, e⟩
  · rintro ⟨x, h1, h2, h3, e⟩
    exact ⟨x, by rw [List.mem_filter, List.mem_range, decide_eq_true_iff]; exact ⟨h1, h2, h3⟩, e⟩
theorem clsUp_len (nss : List (List Int)) (k : Nat) : (clsUp nss k).length ≤ k := by
  unfold clsUp
  rw [List.length_map]
  have := List.length_filter_le (fun x => decide ((rchL nss x).head? = some x ∧ ClsAt nss x)) (List.range k)
  rw [List.length_range] at this
  exact this
theorem head_mem {ps : List Nat} {x : Nat} (h : ps.head? = some x) : x ∈ ps := by
  cases ps with
  | nil => cases h
  | cons a r =>
    cases h
    exact List.mem_cons_self ..
theorem self_rchL {nss : List (List Int)} {x : Nat} (hx : x < nss.length) : x ∈ rchL nss x := mem_rchL.mpr ⟨hx, .refl⟩
/-- of a closed set, found anew or not: it is anew just at its first place -/
theorem cls_new {nss : List (List Int)} {x : Nat} (hx : x < nss.length) (g : ClsAt nss x) : rchL nss x ∉ clsUp nss x ↔ (rchL nss x).head? = some x := by
  have hm := self_rchL hx
  cases q : rchL nss x with
  | nil => rw [q] at hm; cases hm
  | cons h r =>
    have hh : h ∈ rchL nss x := by rw [q]; exact List.mem_cons_self ..
    have le : h ≤ x := by
      rw [q] at hm
      have pw := rchL_pw nss x
      rw [q, List.pairwise_cons] at pw
      rcases List.mem_cons.mp hm with e | m
      · omega
      · exact Nat.le_of_lt (pw.1 x m)
    have eh := g h hh
    rw [← q]
    constructor
    · intro n
      rw [q, List.head?_cons]
      rcases Nat.lt_or_ge h x with l | l
      · exact (n (mem_clsUp.mpr ⟨h, l, by rw [eh, q]; rfl, fun y hy => by rw [eh] at hy ⊢; exact g y hy, eh⟩)).elim
      · rw [show h = x by omega]
    · intro e m
      rw [q, List.head?_cons, Option.some.injEq] at e
      obtain ⟨y, l, a, b, c⟩ := mem_clsUp.mp m
      rw [c, q, List.head?_cons, Option.some.injEq] at a
      omega
/-- the closed sets come by their first places -/
theorem clsUp_pw (nss : List (List Int)) (k : Nat) : (clsUp nss k).Pairwise fun a b => ∃ x y, a.head? = some x ∧ b.head? = some y ∧ x < y := by
  unfold clsUp
  refine List.pairwise_map.mpr ?_
  refine List.Pairwise.imp_of_mem (R := (· < ·)) ?_ (List.Pairwise.sublist (List.filter_sublist ..) List.pairwise_lt_range)
  intro a b ha hb l
  rw [List.mem_filter, decide_eq_true_iff] at ha hb
  exact ⟨a, b, ha.2.1, hb.2.1, l⟩
end
end My
namespace My
open PySem PySem.Spec PyProof.Rows L2
/-! ### more readings: tests in comprehensions, enumerate, tuples of places -/
def rTupOf (K : PySem.W.Frag) : List V → Hp → VK → Prop := fun xs H Q => ∃ p ys, xs = [.ref p] ∧ ((SqL K H p ys ∧ ∀ l, H l = none → Q (.ref l) (upd H l (.tup ys))) ∨ (SqT K H p ys ∧ Q (.ref p) H))
theorem cr_tupOf {X : Cx} : CallR X (.type "tuple") (rTupOf X.K) := call_tuple_of
section
variable {K : PySem.W.Frag} {g : TG} {tb : TS} {te : TE} {tt : TT} {D : Ends} {σ : L2.St} {H : Hp} {Q : VK}
theorem rd_tupOf {p : Addr} {ys : List V} (h : SqL K H p ys) (k : ∀ l, H l = none → Q (.ref l) (upd H l (.tup ys))) : rTupOf K [.ref p] H Q := ⟨p, ys, rfl, .inl ⟨h, k⟩⟩
theorem rd_sorted {a : Addr} {ns : List Int} (h : SqL K H a (ns.map V.int)) (hz : ns.length < 64) (k : ∀ (ns' : List Int) (p : Addr), ns'.Perm ns → ns'.Pairwise (· ≤ ·) → H p = none → Q (.ref p) (upd H p (.lst (ns'.map V.int)))) : rSorted K [.ref a] H Q := ⟨a, ns, rfl, h, hz, k⟩
/-- the turns of a comprehension with a test -/
def PvJ (J : Nat → List V → Addr → Hp → Prop) (D : Addr) (i : Nat) : Hp → Prop := fun H => ∃ acc, acc.length ≤ i ∧ H D = some (.lst acc) ∧ J i acc D H
def kLcTE (J : Nat → List V → Addr → Hp → Prop) (D : Addr) (i : Nat) : VK := fun y H4 => ∃ acc, H4 D = some (.lst acc) ∧ acc.length < sizeLine ∧ PvJ J D (i + 1) (upd H4 D (.lst (acc ++ [y])))
def kLcTt (te : TE) (σ2 : L2.St) (J : Nat → List V → Addr → Hp → Prop) (D : Addr) (i : Nat) : Bool → Hp → Prop := fun b H3 => if b = true then te σ2 H3 (kLcTE J D i) else PvJ J D (i + 1) H3
theorem rd_lcTE {J : Nat → List V → Addr → Hp → Prop} {D : Addr} {i : Nat} {acc : List V} {y : V} (h1 : H D = some (.lst acc)) (h2 : acc.length ≤ i) (hz : i < 200000) (h3 : J (i + 1) (acc ++ [y]) D (upd H D (.lst (acc ++ [y])))) : kLcTE J D i y H :=
  ⟨acc, h1, Nat.lt_of_le_of_lt h2 (Nat.lt_trans hz (by decide)), acc ++ [y], by rw [List.length_append]; exact Nat.succ_le_succ h2, upd_same, h3⟩
def kLcTN (g : TG) (tt : TT) (te : TE) (vs : List Nat) (σ : L2.St) (Q : VK) (lo : Int) (n : Nat) : Hp → Prop := fun H1 => ∀ D, H1 D = none → ∃ W : Nat → Nat → Hp → Prop, (∃ m, W 0 m (upd H1 D (.lst []))) ∧ ∀ i m H, W i m H →
  ((Itr lo n).stop i H ∧ Q (.ref D) H) ∨ ((Itr lo n).go i H ∧ ∃ Nx : Hp → Prop, (∀ H', Nx H' → ∃ m', m' < m ∧ W (i + 1) m' H') ∧ ∀ x H', (Itr lo n).yld i H x H' → g x (wipe σ vs) H' fun σ2 H2 => wipe σ2 vs = wipe σ vs ∧ tt σ2 H2 fun b H3 =>
    if b = true then te σ2 H3 fun y H4 => ∃ acc, H4 D = some (.lst acc) ∧ acc.length < sizeLine ∧ Nx (upd H4 D (.lst (acc ++ [y]))) else Nx H3)
def kLcTR1 (g : TG) (tt : TT) (te : TE) (vs : List Nat) (σ : L2.St) (Q : VK) : List V → Hp → Prop := fun xs H1 => ∃ j : Int, xs = [.int j] ∧ -(2 ^ 62) ≤ j ∧ j < 2 ^ 62 ∧ kLcTN g tt te vs σ Q 0 j.toNat H1
theorem rd_lcTR1 {tr : TA} {vs : List Nat} (h : tr σ H (kLcTR1 g tt te vs σ Q)) : tLc (iRng1 tr) g tt te vs σ H Q := h
theorem rd_kLcTN {vs : List Nat} {lo : Int} {n : Nat} (J : Nat → List V → Addr → Hp → Prop) (h0 : ∀ D, H D = none → J 0 [] D (upd H D (.lst [])))
    (hs : ∀ i acc D H', H D = none → i < n → H' D = some (.lst acc) → acc.length ≤ i → J i acc D H' → g (.int (lo + i)) (wipe σ vs) H' fun σ2 H2 => wipe σ2 vs = wipe σ vs ∧ tt σ2 H2 (kLcTt te σ2 J D i))
    (hd : ∀ acc D H', H D = none → acc.length ≤ n → H' D = some (.lst acc) → J n acc D H' → Q (.ref D) H') : kLcTN g tt te vs σ Q lo n H := by
  intro D hD
  refine lc_range (PvJ J D) ⟨[], Nat.le_refl _, upd_same, h0 D hD⟩ ?_ fun H' ⟨acc, e, h, j⟩ => hd acc D H' hD e h j
  rintro i H' hi ⟨acc, e, h, j⟩
  exact hs i acc D H' hD hi h e j
/-- .. over a list -/
def kLcT (K : PySem.W.Frag) (g : TG) (tt : TT) (te : TE) (vs : List Nat) (σ : L2.St) (Q : VK) : VK := fun x H1 => ∃ a, x = .ref a ∧ (∃ xs, SqL K H1 a xs) ∧ ∀ D, H1 D = none → ∃ W : Nat → Nat → Hp → Prop, (∃ m, W 0 m (upd H1 D (.lst []))) ∧ ∀ i m H, W i m H →
  ((Itl K a).stop i H ∧ Q (.ref D) H) ∨ ((Itl K a).go i H ∧ ∃ Nx : Hp → Prop, (∀ H', Nx H' → ∃ m', m' < m ∧ W (i + 1) m' H') ∧ ∀ x H', (Itl K a).yld i H x H' → g x (wipe σ vs) H' fun σ2 H2 => wipe σ2 vs = wipe σ vs ∧ tt σ2 H2 fun b H3 =>
    if b = true then te σ2 H3 fun y H4 => ∃ acc, H4 D = some (.lst acc) ∧ acc.length < sizeLine ∧ Nx (upd H4 D (.lst (acc ++ [y]))) else Nx H3)
theorem rd_lcT {ta : TE} {vs : List Nat} (h : ta σ H (kLcT K g tt te vs σ Q)) : tLc (iList K ta) g tt te vs σ H Q := h
theorem rd_kLcT {vs : List Nat} {a : Addr} {xs : List V} (J : Nat → List V → Addr → Hp → Prop) (hq : SqL K H a xs) (h0 : ∀ D, H D = none → J 0 [] D (upd H D (.lst []))) (hl : ∀ i acc D H', J i acc D H' → SqL K H' a xs)
    (hs : ∀ i x acc D H', H D = none → i < xs.length → xs[i]? = some x → H' D = some (.lst acc) → acc.length ≤ i → J i acc D H' → g x (wipe σ vs) H' fun σ2 H2 => wipe σ2 vs = wipe σ vs ∧ tt σ2 H2 (kLcTt te σ2 J D i))
    (hd : ∀ acc D H', H D = none → acc.length ≤ xs.length → H' D = some (.lst acc) → J xs.length acc D H' → Q (.ref D) H') : kLcT K g tt te vs σ Q (.ref a) H := by
  refine ⟨a, rfl, ⟨xs, hq⟩, fun D hD => ?_⟩
  refine lc_list (PvJ J D) ⟨[], Nat.le_refl _, upd_same, h0 D hD⟩ (fun i H' _ ⟨acc, _, _, j⟩ => hl i acc D H' j) ?_ fun H' ⟨acc, e, h, j⟩ => hd acc D H' hD e h j
  rintro i x H' hx ⟨acc, e, h, j⟩
  exact hs i x acc D H' hD (List.getElem?_eq_some_iff.mp hx).1 hx h e j
/-- .. over a tuple -/
def kLcU (K : PySem.W.Frag) (g : TG) (tt : TT) (te : TE) (vs : List Nat) (σ : L2.St) (Q : VK) : VK := fun x H1 => ∃ a, x = .ref a ∧ (∃ xs, SqT K H1 a xs) ∧ ∀ D, H1 D = none → ∃ W : Nat → Nat → Hp → Prop, (∃ m, W 0 m (upd H1 D (.lst []))) ∧ ∀ i m H, W i m H →
  ((Itt K a).stop i H ∧ Q (.ref D) H) ∨ ((Itt K a).go i H ∧ ∃ Nx : Hp → Prop, (∀ H', Nx H' → ∃ m', m' < m ∧ W (i + 1) m' H') ∧ ∀ x H', (Itt K a).yld i H x H' → g x (wipe σ vs) H' fun σ2 H2 => wipe σ2 vs = wipe σ vs ∧ tt σ2 H2 fun b H3 =>
    if b = true then te σ2 H3 fun y H4 => ∃ acc, H4 D = some (.lst acc) ∧ acc.length < sizeLine ∧ Nx (upd H4 D (.lst (acc ++ [y]))) else Nx H3)
theorem rd_lcU {ta : TE} {vs : List Nat} (h : ta σ H (kLcU K g tt te vs σ Q)) : tLc (iTup K ta) g tt te vs σ H Q := h
theorem rd_kLcU {vs : List Nat} {a : Addr} {xs : List V} (J : Nat → List V → Addr → Hp → Prop) (hq : SqT K H a xs) (h0 : ∀ D, H D = none → J 0 [] D (upd H D (.lst []))) (hl : ∀ i acc D H', J i acc D H' → SqT K H' a xs)
    (hs : ∀ i x acc D H', H D = none → i < xs.length → xs[i]? = some x → H' D = some (.lst acc) → acc.length ≤ i → J i acc D H' → g x (wipe σ vs) H' fun σ2 H2 => wipe σ2 vs = wipe σ vs ∧ tt σ2 H2 (kLcTt te σ2 J D i))
    (hd : ∀ acc D H', H D = none → acc.length ≤ xs.length → H' D = some (.lst acc) → J xs.length acc D H' → Q (.ref D) H') : kLcU K g tt te vs σ Q (.ref a) H := by
  refine ⟨a, rfl, ⟨xs, hq⟩, fun D hD => ?_⟩
  refine lc_tup (PvJ J D) ⟨[], Nat.le_refl _, upd_same, h0 D hD⟩ (fun i H' _ ⟨acc, _, _, j⟩ => hl i acc D H' j) ?_ fun H' ⟨acc, e, h, j⟩ => hd acc D H' hD e h j
  rintro i x H' hx ⟨acc, e, h, j⟩
  exact hs i x acc D H' hD (List.getElem?_eq_some_iff.mp hx).1 hx h e j
theorem rd_yes {J : Nat → List V → Addr → Hp → Prop} {D : Addr} {i : Nat} (h : te σ H (kLcTE J D i)) : tYes σ H (kLcTt te σ J D i) := h
/-- for i, x in enumerate(xs) -/
def kEnum (K : PySem.W.Frag) (g : TG) (tb : TS) (D : Ends) (σ : L2.St) : List V → Hp → Prop := fun vs H1 => ∃ a xs, vs = [.ref a] ∧ SqL K H1 a xs ∧ ∃ W : Nat → Nat → L2.St → Hp → Prop, (∃ m, W 0 m σ H1) ∧ ∀ i m σ H, W i m σ H →
  ((Ite K a).stop i H ∧ D.nx σ H) ∨ ((Ite K a).go i H ∧ ∃ N : L2.St → Hp → Prop, (∀ σ' H', N σ' H' → ∃ m', m' < m ∧ W (i + 1) m' σ' H') ∧ ∀ x H', (Ite K a).yld i H x H' → g x σ H' fun σ2 H2 => tb { D with nx := N, ct := N, bk := D.nx } σ2 H2)
theorem rd_forE {tr : TA} (h : tr σ H (kEnum K g tb D σ)) : tFor (iEnum K tr) g tb D σ H := h
theorem rd_kEnum {a : Addr} {xs : List V} (hq : SqL K H a xs) (Pv : Nat → L2.St → Hp → Prop) (h0 : Pv 0 σ H) (hl : ∀ i σ H, i ≤ xs.length → Pv i σ H → SqL K H a xs)
    (hs : ∀ (i : Nat) (x : V) (T : Addr) (σ : L2.St) (H : Hp), xs[i]? = some x → Pv i σ H → H T = none → g (.ref T) σ (upd H T (.tup [.int (i : Nat), x])) fun σ2 H2 => tb { D with nx := Pv (i + 1), ct := Pv (i + 1), bk := D.nx } σ2 H2)
    (hd : ∀ σ H, Pv xs.length σ H → D.nx σ H) : kEnum K g tb D σ [.ref a] H := by
  refine ⟨a, xs, rfl, hq, fun i m σ H => m = xs.length - i ∧ i ≤ xs.length ∧ Pv i σ H, ⟨xs.length, rfl, Nat.zero_le _, h0⟩, ?_⟩
  rintro i m σ H ⟨rfl, hi, p⟩
  have q := hl i σ H hi p
  rcases Nat.lt_or_ge i xs.length with hlt | hge
  · refine .inr ⟨⟨xs, xs[i], q, List.getElem?_eq_getElem hlt⟩, Pv (i + 1), fun σ' H' p' => ⟨xs.length - (i + 1), by omega, rfl, hlt, p'⟩, fun v H' y => ?_⟩
    obtain ⟨T, x', rfl, hT, rfl, f1⟩ := y
    exact hs i x' T σ H (f1 xs q) p hT
  · have e : i = xs.length := by omega
    subst e
    exact .inl ⟨⟨xs, q, Nat.le_refl _⟩, hd σ H p⟩
/-- xs.pop() -/
theorem rd_pop {l : Addr} {xs : List V} {y : V} (hl : H l = some (.lst xs)) (hy : xs[xs.length - 1]? = some y) (k : Q y (upd H l (.lst xs.dropLast))) : rPop (.ref l) [] H Q := ⟨l, xs, y, rfl, rfl, hl, hy, k⟩
end
theorem rd_ext {K : PySem.W.Frag} {σ : L2.St} {H : Hp} {Q : VK} {i j : Nat} {l b : Addr} {xs zs : List V} (e1 : σ[i]? = some (some (.ref l))) (e2 : σ[j]? = some (some (.ref b))) (h1 : H l = some (.lst xs)) (h2 : H b = some (.lst zs)) (hz : xs.length + zs.length ≤ 100000) (k : Q .non (upd H l (.lst (xs ++ zs)))) :
    tBM K "list" rExtend (tVar i) (tCons (tVar j) tNil) σ H Q := ⟨.ref l, e1, .inl ⟨rfl, _, SqL.of h1⟩, .ref b, e2, l, b, xs, zs, rfl, rfl, h1, h2, Nat.le_trans hz (by decide), k⟩
/-! ### sorted tuples of numbers -/
abbrev TRow := Addr × List Int
def encT (e : TRow) : PyData := .tuple (e.2.map PyData.int)
def tv (e : TRow) : V := .ref e.1
def rSortedT (K : PySem.W.Frag) : List V → Hp → VK → Prop := fun vs H Q => ∃ (a : Addr) (es : List TRow), vs = [.ref a] ∧ SqL K H a (es.map tv) ∧ (∀ e ∈ es, SqT K H e.1 (e.2.map V.int) ∧ e.2 ≠ []) ∧
  ∀ p, H p = none → Q (.ref p) (upd H p (.lst ((es.mergeSort (PySem.W.dataLe false encT)).map tv)))
theorem dp_intsT {K : PySem.W.Frag} {H : Hp} {e : TRow} (h : SqT K H e.1 (e.2.map V.int)) : Dp K H (tv e) (encT e) := .tup h (dp_ints e.2)
section
variable {X : Cx}
theorem each_tv : ∀ {es : List TRow} {its : List Value}, Vals (es.map tv) its → PySem.W.EachIs (fun v (e : TRow) => v = Value.ref e.1) its es
  | [], _, r => by
    have r' : Vals [] _ := r
    cases r'
    exact .nil
  | e :: es, _, r => by
    have r' : Vals (tv e :: es.map tv) _ := r
    cases r' with
    | cons h t => exact .cons h (each_tv t)
theorem vals_tv : ∀ {es : List TRow} {its : List Value}, PySem.W.EachIs (fun v (e : TRow) => v = Value.ref e.1) its es → Vals (es.map tv) its
  | [], _, .nil => .nil
  | e :: es, _, .cons h t => .cons h (vals_tv t)
theorem each_reads {pins : List (Addr × Obj)} {σ : L2.St} {H : Hp} {s : Shared} (I : Inv X pins σ H s) : ∀ {es : List TRow} {its : List Value}, PySem.W.EachIs (fun v (e : TRow) => v = Value.ref e.1) its es → (∀ e ∈ es, SqT X.K H e.1 (e.2.map V.int)) →
    PySem.W.EachIs (fun v e => ∃ as, Reads s.heap v (encT e) as) its es
  | [], _, .nil, _ => .nil
  | e :: es, _, .cons h t, q => .cons (Dp.reads I (encT e) (tv e) _ (dp_intsT (q e (List.mem_cons_self ..))) h) (each_reads I t fun x hx => q x (List.mem_cons_of_mem _ hx))
theorem alike_encT (a b : TRow) : PySem.W.alike (encT a) (encT b) = true := by
  unfold encT
  rw [PySem.W.alike]
  exact PySem.W.alike_ints _ _
theorem cr_sortedTup (hu : X.A.units + 64 < cLine) : CallR X (.builtin "sorted") (rSortedT X.K) := by
  intro pins s σ H vs us Q I r h
  obtain ⟨a, es, rfl, hs, hx, q⟩ := h
  obtain ⟨its, rv, hl, hz⟩ := I.list hs
  obtain ⟨u, rfl, ru⟩ := vals1 r
  obtain rfl : u = Value.ref a := ru
  have e1 := each_tv rv
  have len : es.length = its.length := by
    have := rv.length
    rw [List.length_map] at this
    exact this
  refine PySem.W.sorted_data (R := fun v (e : TRow) => v = Value.ref e.1) (enc := encT) hl.isList e1 (each_reads I e1 fun e he => (hx e he).1) ?_ (.inl fun d hd => ?_) (by rw [len]; exact Nat.le_trans (Nat.le_of_eq (by rw [← len, List.length_map])) hz) (fun b hb => ?_) fun out ho eo => ?_
  · intro d hd d' hd'
    obtain ⟨b, _, rfl⟩ := List.mem_map.mp hd
    obtain ⟨b', _, rfl⟩ := List.mem_map.mp hd'
    exact alike_encT b b'
  · obtain ⟨b, hb, rfl⟩ := List.mem_map.mp hd
    obtain ⟨n, m⟩ := hx b hb
    unfold encT
    match q : b.2, m with
    | [], m => exact (m rfl).elim
    | x :: r, _ => exact ⟨_, _, rfl⟩
  · have : (encT b).depth ≤ 1 := by
      unfold encT
      simp only [PyData.depth]
      rw [PySem.W.depth_ints]
      omega
    omega
  · have ro := vals_tv eo
    obtain ⟨n, hn⟩ := sortedAll_at s.heap its out.toArray
    refine ⟨.ref (s.heap.objs.size + 1), _, I.laid (o := .lst ((es.mergeSort (PySem.W.dataLe false encT)).map tv)) (t' := s.toks) (fun b o e => sortedAll_old e) (Nat.le_succ _) ⟨?_, out, n, ro, hn⟩, rfl, q _ (I.hok.fresh (Nat.le_succ _))⟩
    rw [List.length_map, ← eo.length, ho, len]
    exact Nat.le_trans (Nat.le_of_eq (by rw [← len, List.length_map])) hz
theorem rd_sortedT {K : PySem.W.Frag} {a : Addr} {es : List TRow} {H : Hp} {Q : VK} (h1 : SqL K H a (es.map tv)) (h2 : ∀ e ∈ es, SqT K H e.1 (e.2.map V.int) ∧ e.2 ≠ []) (hp : es.Pairwise fun a b => ∃ x y, a.2.head? = some x ∧ b.2.head? = some y ∧ x < y)
    (k : ∀ p, H p = none → Q (.ref p) (upd H p (.lst (es.map tv)))) : rSortedT K [.ref a] H Q := by
  refine ⟨a, es, rfl, h1, h2, fun p hq => ?_⟩
  rw [List.mergeSort_of_pairwise]
  · exact k p hq
  · refine hp.imp ?_
    rintro a b ⟨x, y, hx, hy, l⟩
    rw [PySem.W.dataLe_eq]
    match ea : a.2, eb : b.2, hx, hy with
    | x' :: r, y' :: s, hx, hy =>
      cases hx
      cases hy
      show (!PySem.W.dataLt (encT b) (encT a)) = true
      unfold encT
      rw [ea, eb]
      show (!PyProof.Rows.lexLt itemOrd (PySem.W.keyToksAll (.int y :: s.map PyData.int)) (PySem.W.keyToksAll (.int x :: r.map PyData.int))) = true
      rw [PySem.W.dataLt_cons (by simp only [PySem.W.alike]), if_neg (by simp only [PyData.eqv, beq_iff_eq]; omega), PySem.W.dataLt_int]
      simp only [Bool.not_eq_true', decide_eq_false_iff_not]
      omega
end
/-! ### sets of places as data -/
def nz (ps : List Nat) : List Int := ps.map fun p : Nat => (p : Int)
def setD (ps : List Nat) : PyData := .tuple ((nz ps).map PyData.int)
def listD (ps : List Nat) : PyData := .list ((nz ps).map PyData.int)
def setsD (pss : List (List Nat)) : PyData := .list (pss.map setD)
theorem eqv_nats : ∀ ps qs : List Nat, PyData.eqvAll ((nz ps).map PyData.int) ((nz qs).map PyData.int) = decide (ps = qs)
  | [], [] => by simp [nz, PyData.eqvAll]
  | [], q :: qs => by simp [nz, PyData.eqvAll]
  | p :: ps, [] => by simp [nz, PyData.eqvAll]
  | p :: ps, q :: qs => by
    have ih := eqv_nats ps qs
    show PyData.eqvAll (.int (p : Int) :: (nz ps).map PyData.int) (.int (q : Int) :: (nz qs).map PyData.int) = _
    rw [PyData.eqvAll, ih, PyData.eqv]
    by_cases h : p = q
    · subst h
      simp
    · have h2 : ¬ ((p : Int) = (q : Int)) := fun e => h (by omega)
      simp [h, h2]
theorem eqv_set (ps qs : List Nat) : PyData.eqv (setD ps) (setD qs) = decide (ps = qs) := by
  unfold setD
  rw [PyData.eqv]
  exact eqv_nats ps qs
theorem eqv_lists (ps qs : List Nat) : PyData.eqv (listD ps) (listD qs) = decide (ps = qs) := by
  unfold listD
  rw [PyData.eqv]
  exact eqv_nats ps qs
theorem nice_nats {ps : List Nat} {n : Nat} (h : ∀ p ∈ ps, p < 1000000) : NiceAll ((nz ps).map PyData.int) ps.length n := by
  have e : ps.length = (nz ps).length := (List.length_map ..).symm
  rw [e]
  refine NiceAll.ints fun x hx => ?_
  obtain ⟨p, hp, rfl⟩ := List.mem_map.mp hx
  have := h p hp
  exact Nat.lt_of_lt_of_le (show ((p : Nat) : Int).natAbs < 2 ^ 20 by omega) (Nat.pow_le_pow_right (by decide) (by decide))
theorem nice_set {ps : List Nat} (h : ∀ p ∈ ps, p < 1000000) : Nice (setD ps) (ps.length + 1) 1 := .tup (nice_nats h)
theorem nice_listD {ps : List Nat} (h : ∀ p ∈ ps, p < 1000000) : Nice (listD ps) (ps.length + 1) 1 := .lst (nice_nats h)
theorem nice_setsAll {N : Nat} : ∀ {pss : List (List Nat)}, (∀ ps ∈ pss, ps.length ≤ N ∧ ∀ p ∈ ps, p < 1000000) → ∃ k, k ≤ (N + 1) * pss.length ∧ NiceAll (pss.map setD) k 1
  | [], _ => ⟨0, Nat.zero_le _, .nil⟩
  | ps :: r, h => by
    obtain ⟨k, hk, g⟩ := nice_setsAll fun x hx => h x (List.mem_cons_of_mem _ hx)
    obtain ⟨a, b⟩ := h ps (List.mem_cons_self ..)
    refine ⟨ps.length + 1 + k, ?_, .cons (nice_set b) (Nat.le_refl _) g⟩
    rw [List.length_cons, Nat.mul_succ]
    omega
theorem nice_sets {N M : Nat} {pss : List (List Nat)} (h : ∀ ps ∈ pss, ps.length ≤ N ∧ ∀ p ∈ ps, p < 1000000) (hM : (N + 1) * pss.length ≤ M) : ∃ k, k ≤ M + 1 ∧ Nice (setsD pss) k 2 := by
  obtain ⟨k, hk, g⟩ := nice_setsAll h
  exact ⟨k + 1, by omega, .lst g⟩
theorem dp_set {K : PySem.W.Frag} {H : Hp} {t : Addr} {ps : List Nat} (h : SqT K H t ((nz ps).map V.int)) : Dp K H (.ref t) (setD ps) := .tup h (dp_ints _)
theorem dp_listD {K : PySem.W.Frag} {H : Hp} {t : Addr} {ps : List Nat} (h : SqL K H t ((nz ps).map V.int)) : Dp K H (.ref t) (listD ps) := .lst h (dp_ints _)
theorem any_eqv (pss : List (List Nat)) (ps : List Nat) : ((pss.map setD).any fun z => PyData.eqv z (setD ps)) = decide (ps ∈ pss) := by
  induction pss with
  | nil => simp
  | cons q r ih =>
    rw [List.map_cons, List.any_cons, ih, eqv_set]
    by_cases h : q = ps
    · subst h
      simp
    · have h2 : ¬ ps = q := fun e => h e.symm
      simp [h, h2]
/-- sets, as tuples, in the heap -/
abbrev SRow := Addr × List Nat
def sv (e : SRow) : V := .ref e.1
def SetsAt (H : Hp) (l : Addr) (ts : List SRow) : Prop := H l = some (.lst (ts.map sv)) ∧ ∀ t ∈ ts, H t.1 = some (.tup ((nz t.2).map V.int))
theorem SetsAt.same {H H' : Hp} {l : Addr} {ts : List SRow} (h : SetsAt H l ts) (e : Same H H') : SetsAt H' l ts := ⟨e _ _ h.1, fun t ht => e _ _ (h.2 t ht)⟩
theorem dp_setsAll {K : PySem.W.Frag} {H : Hp} : ∀ {ts : List SRow}, (∀ t ∈ ts, H t.1 = some (.tup ((nz t.2).map V.int))) → DpAll K H (ts.map sv) ((ts.map Prod.snd).map setD)
  | [], _ => .nil
  | t :: r, h => .cons (dp_set (SqT.of (h t (List.mem_cons_self ..)))) (dp_setsAll fun x hx => h x (List.mem_cons_of_mem _ hx))
theorem dp_sets {K : PySem.W.Frag} {H : Hp} {l : Addr} {ts : List SRow} (h : SetsAt H l ts) : Dp K H (.ref l) (setsD (ts.map Prod.snd)) := .lst (SqL.of h.1) (dp_setsAll h.2)
theorem rd_eqSet {K : PySem.W.Frag} {H : Hp} {Q : VK} {x y : V} {ps qs : List Nat} (hx : Dp K H x (setD ps)) (hy : Dp K H y (setD qs)) (h1 : ∀ p ∈ ps, p < 1000000) (h2 : ∀ p ∈ qs, p < 1000000) (q : Q (.bl (decide (ps = qs))) H) : rEqD K x y H Q := by
  refine ⟨_, _, hx, hy, (nice_set h1).shaped (by omega), (nice_set h2).shaped (by omega), ?_⟩
  rw [eqv_set]
  exact q
theorem rd_eqList {K : PySem.W.Frag} {H : Hp} {Q : VK} {x y : V} {ps qs : List Nat} (hx : Dp K H x (listD ps)) (hy : Dp K H y (listD qs)) (h1 : ∀ p ∈ ps, p < 1000000) (h2 : ∀ p ∈ qs, p < 1000000) (q : Q (.bl (decide (ps = qs))) H) : rEqD K x y H Q := by
  refine ⟨_, _, hx, hy, (nice_listD h1).shaped (by omega), (nice_listD h2).shaped (by omega), ?_⟩
  rw [eqv_lists]
  exact q
theorem rd_notInSet {K : PySem.W.Frag} {H : Hp} {Q : VK} {x : V} {l : Addr} {ps : List Nat} {ts : List SRow} (hx : Dp K H x (setD ps)) (hl : SetsAt H l ts) (h1 : ∀ p ∈ ps, p < 1000000) (h2 : ∀ t ∈ ts, t.2.length ≤ 1000 ∧ ∀ p ∈ t.2, p < 1000000) (q : Q (.bl (!decide (ps ∈ ts.map Prod.snd))) H) : rNotInD K x (.ref l) H Q := by
  obtain ⟨k, hk, n⟩ := nice_sets (N := 1000) (M := 1001 * (ts.map Prod.snd).length) (pss := ts.map Prod.snd) (fun ps hps => by
    obtain ⟨t, ht, rfl⟩ := List.mem_map.mp hps
    exact h2 t ht) (Nat.le_refl _)
  refine ⟨_, _, hx, dp_sets hl, (nice_set h1).shaped (by omega), n.shaped (by omega), ?_⟩
  rw [any_eqv]
  exact q
/-- a flat thing among numbers -/
theorem inV_nat (y : Nat) (ps : List Nat) : inV (.int (y : Int)) ((nz ps).map V.int) = decide (y ∈ ps) := by
  unfold inV
  induction ps with
  | nil => simp [nz]
  | cons p r ih =>
    show ((V.int (p : Int) :: (nz r).map V.int).any fun z => eqV z (.int (y : Int))) = _
    rw [List.any_cons, ih]
    have e : eqV (V.int (p : Int)) (.int (y : Int)) = decide (p = y) := by
      simp only [eqV]
      by_cases h : p = y
      · subst h
        simp
      · have h2 : ¬ ((p : Int) = (y : Int)) := fun e => h (by omega)
        simp [h, h2]
    rw [e]
    by_cases h : p = y
    · subst h
      simp
    · have h2 : ¬ y = p := fun e => h e.symm
      simp [h, h2]
theorem flat_nats (ps : List Nat) : ((nz ps).map V.int).all flatV = true := by
  rw [List.all_eq_true]
  intro x hx
  obtain ⟨z, _, rfl⟩ := List.mem_map.mp hx
  rfl
theorem rd_notInNat {K : PySem.W.Frag} {H : Hp} {Q : VK} {y : Nat} {l : Addr} {ps : List Nat} (h : SqL K H l ((nz ps).map V.int)) (q : Q (.bl (!decide (y ∈ ps))) H) : rIn K true (.int (y : Int)) (.ref l) H Q := by
  refine ⟨l, _, rfl, .inl h, rfl, flat_nats ps, ?_⟩
  rw [if_pos rfl, inV_nat]
  exact q
theorem nz_app (a b : List Nat) : nz (a ++ b) = nz a ++ nz b := List.map_append
theorem nz_len (a : List Nat) : ((nz a).map V.int).length = a.length := by rw [List.length_map]; exact List.length_map ..
end My
namespace My
open PySem L2
theorem _root_.L2.Room.units65 {k : Nat} {A : Around} (r : Room k A) : A.units + 65 < cLine := by have := r.un; omega
end My
namespace My
open PySem PySem.Spec PyProof.Rows L2
theorem rd_sortedS {K : PySem.W.Frag} {H : Hp} {Q : VK} {l : Addr} {ts : List SRow} (h : SetsAt H l ts) (hp : (ts.map Prod.snd).Pairwise fun a b => ∃ x y, a.head? = some x ∧ b.head? = some y ∧ x < y) (hne : ∀ t ∈ ts, t.2 ≠ []) (k : ∀ p, H p = none → Q (.ref p) (upd H p (.lst (ts.map sv)))) : rSortedT K [.ref l] H Q := by
  have e : (ts.map fun t : SRow => (t.1, nz t.2)).map tv = ts.map sv := by rw [List.map_map]; rfl
  refine rd_sortedT (es := ts.map fun t : SRow => (t.1, nz t.2)) (by rw [e]; exact SqL.of h.1) (fun x hx => ?_) ?_ (by rw [e]; exact k)
  · obtain ⟨t, ht, rfl⟩ := List.mem_map.mp hx
    refine ⟨SqT.of (h.2 t ht), fun z => hne t ht ?_⟩
    cases q : t.2 with
    | nil => rfl
    | cons a r =>
      dsimp only at z
      rw [q] at z
      cases z
  · rw [List.pairwise_map] at hp ⊢
    refine hp.imp ?_
    rintro a b ⟨x, y, hx, hy, l⟩
    refine ⟨(x : Int), (y : Int), ?_, ?_, by omega⟩
    · show (nz a.2).head? = _
      unfold nz
      rw [List.head?_map, hx]
      rfl
    · show (nz b.2).head? = _
      unfold nz
      rw [List.head?_map, hy]
      rfl
end My
namespace My
open PySem PySem.Spec PyProof.Rows L2
def relab (sc scope : Scope) : Scope := { scope with names := scope.names.map fun (n, k) => if (k == NameKind.free && sc.kind == .function && sc.names.lookup n == some .cell) then (n, NameKind.cell) else (n, k) }
/-- a comprehension within a comprehension's block -/
theorem blk_in {X : Cx} {N : List Str} {sc osc scope : Scope} {own : List (Str × Nat)} {s : Shared} {H : Hp} {C : Addr} {cl : List (Str × Addr)} {fp : List Addr} (hs : X.env.scope = sc) (h : blkC N (relab sc osc) scope own = true) :
    BlkOk N (X.blk s H osc (compEnvC osc cl C X.env) fp).env.scope scope own := by
  subst hs
  exact blkOk_by h
end My
namespace My
open PySem PySem.Spec PyProof.Rows L2
section
variable {X : Cx}
/-- t.index(y), of flat things -/
def rTupIndex (K : PySem.W.Frag) : V → List V → Hp → VK → Prop := fun x xs H Q => ∃ (a : Addr) (ys : List V) (y : V) (j : Nat) (z : V), x = .ref a ∧ xs = [y] ∧ SqT K H a ys ∧ flatV y = true ∧ ys.all flatV = true ∧ ys[j]? = some z ∧ eqV z y = true ∧ (∀ (m : Nat) (z' : V), m < j → ys[m]? = some z' → eqV z' y = false) ∧ Q (.int (j : Nat)) H
theorem mt_tupIndex : MtR X "tuple.index" (rTupIndex X.K) := by
  intro pins s σ H x xs v us Q I rx rxs h
  obtain ⟨a, ys, y, j, z, rfl, rfl, hs, fy, fys, hz, hzj, hno, q⟩ := h
  cases rx
  cases rxs with
  | cons ry rt =>
    rename_i uy ut
    cases rt
    obtain ⟨its, rv, pl, hlen⟩ := I.tuple hs
    obtain ⟨⟨cls, dd, data, sl⟩, ho, hc, n, hd⟩ := pl
    simp only at hc hd
    subst hc hd
    obtain ⟨u, hu, ru⟩ := rv.get hz
    obtain ⟨hjl, hje⟩ := List.getElem?_eq_some_iff.mp hu
    have hvl := rv.length
    have hj : j < its.toArray.size := by simpa using hjl
    refine call_meets PySem.F.slot_tuple_index ⟨_, ho, rfl⟩ PySem.F.entry_tuple_index (PySem.F.args_tuple_index_2 _ _)
      (TI.tuple_indexAt a its.toArray n dd sl uy (eqU y) j hj ?_ ?_) ⟨ho, fun u' hu' => mem_eqAt ry fy rv fys u' (by simpa using hu'), ?_⟩
    · have e1 : its.toArray[j] = u := by simpa using hje
      rw [e1, eqU_of ru (flat_at fys hz)]
      exact hzj
    · intro m hm hmj
      have hml : m < its.length := by simpa using hm
      have hmy : m < ys.length := by omega
      have hy' : ys[m]? = some ys[m] := List.getElem?_eq_getElem hmy
      obtain ⟨u2, hu2, ru2⟩ := rv.get hy'
      obtain ⟨_, hme⟩ := List.getElem?_eq_some_iff.mp hu2
      have e1 : its.toArray[m] = u2 := by simpa using hme
      rw [e1, eqU_of ru2 (flat_at fys hy')]
      exact hno m _ hmj hy'
    · exact ⟨.int (j : Nat), H, I.tok _, ⟨_, rfl⟩, q⟩
/-- xs[i], by values, at a place counted from the first one -/
def gGetL (K : PySem.W.Frag) : V → V → Hp → VK → Prop := fun x y H Q => ∃ p xs j v, x = .ref p ∧ y = .int ((j : Nat) : Int) ∧ SqL K H p xs ∧ xs[j]? = some v ∧ Q v H
theorem get_list : PGet X (gGetL X.K) := by
  intro pins s σ H x y v u Q I rx ry h
  obtain ⟨p, xs, j, z, rfl, rfl, hq, he, q⟩ := h
  cases rx
  obtain ⟨t, rfl⟩ := ry
  obtain ⟨its, r, pl, hz⟩ := I.list hq
  obtain ⟨w, ew, rw'⟩ := r.get he
  have hl := r.length
  have hn := line63
  have hj := (List.getElem?_eq_some_iff.mp he).1
  exact wpAny_getItem_list pl.isList (by omega) (by omega) (by simpa using ew) ⟨z, H, I, rw', q⟩
end
section
variable {K : PySem.W.Frag} {to ti te : TE} {tip : TIp} {tset : TSet} {tget : V → V → Hp → VK → Prop} {D : Ends} {σ : L2.St} {H : Hp} {Q : VK}
theorem rd_augS (h : to σ H fun o H1 => ti σ H1 fun i H2 => tget o i H2 fun x H3 => te σ H3 fun y H4 => tip x y H4 fun z H5 => tset o i z H5 fun H6 => D.nx σ H6) : tAugS to ti te tget tip tset D σ H := h
theorem rd_getL {p : Addr} {xs : List V} {j : Nat} {v : V} (h : SqL K H p xs) (e : xs[j]? = some v) (q : Q v H) : gGetL K (.ref p) (.int ((j : Nat) : Int)) H Q := ⟨p, xs, j, v, rfl, rfl, h, e, q⟩
theorem rd_ipI {f : Int → Int → Int} {a b : Int} (q : Q (.int (f a b)) H) : ipI f (.int a) (.int b) H Q := ⟨a, b, rfl, rfl, q⟩
/-- where a number stands among others -/
theorem rd_tupIndex {a : Addr} {ps : List Nat} {j y : Nat} (h : SqT K H a ((nz ps).map V.int)) (hn : ps.Nodup) (e : ps[j]? = some y) (q : Q (.int (j : Nat)) H) : rTupIndex K (.ref a) [.int (y : Int)] H Q := by
  have at_ : ∀ (m p : Nat), ps[m]? = some p → ((nz ps).map V.int)[m]? = some (V.int ((p : Nat) : Int)) := fun m p hm => by
    unfold nz
    rw [List.getElem?_map, List.getElem?_map, hm]
    rfl
  refine ⟨a, _, _, j, V.int (y : Int), rfl, rfl, h, rfl, flat_nats ps, at_ j y e, ?_, fun m z hm hz => ?_, q⟩
  · simp [eqV]
  · unfold nz at hz
    rw [List.getElem?_map, List.getElem?_map] at hz
    cases g : ps[m]? with
    | none => rw [g] at hz; cases hz
    | some p =>
      rw [g] at hz
      cases hz
      have ne : p ≠ y := fun e2 => by
        subst e2
        have h1 := (List.getElem?_eq_some_iff.mp g)
        have h2 := (List.getElem?_eq_some_iff.mp e)
        obtain ⟨l1, e1⟩ := h1
        obtain ⟨l2, e2⟩ := h2
        exact (List.pairwise_iff_getElem.mp hn m j l1 l2 hm) (e1.trans e2.symm)
      simp only [eqV, beq_eq_false_iff_ne, ne_eq]
      intro z
      exact ne (by omega)
theorem rd_slT {a : Addr} {xs : List V} {lo hi : Option Int} (hs : SqT K H a xs) (hw : ¬ (HT.sIx xs.length 0 lo = 0 ∧ HT.sIx xs.length xs.length hi = xs.length)) (k : ∀ p, H p = none → Q (.ref p) (upd H p (.tup (cutV xs lo hi)))) : rSlT K (.ref a) lo hi H Q := ⟨a, xs, rfl, hs, hw, k⟩
theorem cut_last (xs : List V) (h : xs ≠ []) : cutV xs none (some (-1)) = xs.dropLast ∧ ¬ (HT.sIx xs.length 0 none = 0 ∧ HT.sIx xs.length xs.length (some (-1)) = xs.length) := by
  have h0 : 0 < xs.length := List.length_pos_iff.mpr h
  have e1 : HT.sIx xs.length xs.length (some (-1)) = xs.length - 1 := by
    simp only [HT.sIx]
    rw [if_pos (by decide)]
    omega
  have e0 : HT.sIx xs.length 0 none = 0 := rfl
  refine ⟨?_, fun z => ?_⟩
  · unfold cutV
    rw [e1, e0, List.drop_zero, Nat.sub_zero, List.dropLast_eq_take]
  · rw [e1] at z
    omega
end
end My
namespace My
open PySem PySem.Spec PyProof.Rows L2
section
variable {X : Cx}
/-- t[lo:hi], not the whole of it; the new tuple is one without a dict -/
def rSlTF (K : PySem.W.Frag) : V → Option Int → Option Int → Hp → VK → Prop := fun x lo hi H Q => ∃ a xs, x = .ref a ∧ SqT K H a xs ∧
  ¬ (HT.sIx xs.length 0 lo = 0 ∧ HT.sIx xs.length xs.length hi = xs.length) ∧ ∀ p o, o.dict = none → o.cls = .type "tuple" → H p = none → Q (.ref p) (upd H p (.frz o (.tup (cutV xs lo hi))))
theorem sl_tupF : SlR X (rSlTF X.K) := by
  intro pins s σ H x v vl vu lo hi sl Q I rx hs pl pu h
  obtain ⟨a, xs, rfl, hx, hw, q⟩ := h
  cases rx
  obtain ⟨its, r, ht, hz⟩ := I.tuple hx
  have hlen : its.toArray.size = xs.length := by rw [List.size_toArray]; exact r.length.symm
  refine ⟨"tuple", _, PyProof.Rows.slot_tuple_getitem.lookup, ht.typeIs, ?_⟩
  refine HT.getItem_tuple_cut ht hs pl pu (by rw [hlen]; exact hw) ?_ (by rw [hlen]; exact hz)
  rw [hlen]
  refine ⟨.ref s.heap.objs.size, _, I.laid (t' := s.toks) (o := .frz { cls := .type "tuple", data := .seq ((its.drop (HT.sIx xs.length 0 lo)).take (HT.sIx xs.length xs.length hi - HT.sIx xs.length 0 lo)).toArray 0 } (.tup (cutV xs lo hi))) (fun b ob q => Heap.get?_push_of_some _ q) (Nat.le_refl _) ?_, rfl, q _ _ rfl rfl (I.hok.fresh (Nat.le_refl _))⟩
  exact ⟨Heap.get?_push_size _ rfl, Nat.le_trans (cutV_length xs lo hi) hz, _, (r.drop (HT.sIx xs.length 0 lo)).take (HT.sIx xs.length xs.length hi - HT.sIx xs.length 0 lo), IsTup.new _ _⟩
/-- a tuple without a dict -/
def FrT (H : Hp) (p : Addr) (xs : List V) : Prop := ∃ o : Obj, H p = some (.frz o (.tup xs)) ∧ o.dict = none ∧ o.cls = .type "tuple"
def tBMF (r : V → List V → Hp → VK → Prop) (to : TE) (t : TA) : TE := fun σ H Q => to σ H fun x H1 => (∃ p xs, x = .ref p ∧ FrT H1 p xs) ∧ t σ H1 fun xs H2 => r x xs H2 Q
theorem pe_bmF {o e : Expr} {es : List Expr} {to : TE} {t : TA} {name : Str} {apos cpos : Pos} {id : String} {r : V → List V → Hp → VK → Prop} (slot : Slot "tuple" name id) (hty : typeOf (.builtin id) = pure (.type "method_descriptor")) (hm : MtR X id r) (ho : PE X o to) (ha : PA X (e :: es) t)
    (hbase : attributeBase o name X.env (eval o X.env) = eval o X.env := by rfl)
    (hfew : ((backTo cpos (starEach (e :: es) X.env)).all (fun x => !x.1) && (backToKw cpos (keywordEach [] X.env)).all (fun x => x.1.isSome)
      && decide ((e :: es).length + ([] : List Keyword).length + (if ([] : List Keyword).isEmpty then 0 else 1) < 30)) = true := by rfl)
    (hline : (apos.endLine == cpos.line) = true := by rfl) (hs : starEach (e :: es) X.env = (false, eval e X.env) :: starEach es X.env := by rfl) (hplain : (backTo cpos (starEach es X.env)).any (·.1) = false := by rfl) :
    PE X (.Call (.Attribute o name apos) (e :: es) [] cpos) (tBMF r to t) := by
  refine ⟨fun pins s σ H Q I h => ?_⟩
  refine wpAny_Call_method_late hbase hfew hline rfl (thn (ho.run pins s σ H _ I h) fun v s1 ⟨x, H1, I1, r1, ty, q1⟩ => ?_)
  obtain ⟨p, xs, rfl, ob, hp, hd, hc⟩ := ty
  cases (show v = Value.ref p from r1)
  have g := (I1.hok p _ hp).1
  refine ⟨"tuple", id, PySem.F.plainAttrs_tuple, slot, hty, ⟨ob, g, hc⟩, fun a e => by cases e; exact ⟨ob, g, hd⟩, ?_⟩
  have hA := ha.run cpos pins s1 σ H1 _ I1 q1
  rw [hs] at hA ⊢
  refine Calls.callWith_builtin (by show (false || (backTo cpos (starEach es X.env)).any (·.1)) = false; rw [hplain] <;> rfl) (Calls.evalArgs_plain ?_)
  exact thn hA fun us s2 ⟨vs, H2, I2, r2, q2⟩ => hm pins s2 σ H2 _ vs _ us Q I2 r1 r2 q2
end
section
variable {K : PySem.W.Frag} {H : Hp} {Q : VK}
theorem rd_slTF {a : Addr} {xs : List V} {lo hi : Option Int} (hs : SqT K H a xs) (hw : ¬ (HT.sIx xs.length 0 lo = 0 ∧ HT.sIx xs.length xs.length hi = xs.length)) (k : ∀ p H', H p = none → Same H H' → FrT H' p (cutV xs lo hi) → Q (.ref p) H') : rSlTF K (.ref a) lo hi H Q :=
  ⟨a, xs, rfl, hs, hw, fun p o hd hc hp => k p _ hp (fun b u q => by rw [upd_ne (ne_of_none q hp)]; exact q) ⟨o, upd_same, hd, hc⟩⟩
theorem FrT.same {H H' : Hp} {p : Addr} {xs : List V} (h : FrT H p xs) (e : Same H H') : FrT H' p xs := by
  obtain ⟨o, a, b, c⟩ := h
  exact ⟨o, e _ _ a, b, c⟩
theorem FrT.seq {p : Addr} {xs : List V} (h : FrT H p xs) : SqT K H p xs := by
  obtain ⟨o, a, _, _⟩ := h
  exact .inl (.inr ⟨o, a⟩)
end
end My
namespace My
open PySem PySem.Spec PyProof.Rows L2
section
variable {K : PySem.W.Frag} {g : TG} {tt : TT} {te : TE} {σ : L2.St} {H : Hp} {Q : VK}
/-- a comprehension over two lists side by side -/
def kLcZ (K : PySem.W.Frag) (g : TG) (tt : TT) (te : TE) (vs : List Nat) (σ : L2.St) (Q : VK) : List V → Hp → Prop := fun us H1 => ∃ a b xs ys, us = [.ref a, .ref b] ∧ SqL K H1 a xs ∧ SqL K H1 b ys ∧ ∀ D, H1 D = none → ∃ W : Nat → Nat → Hp → Prop, (∃ m, W 0 m (upd H1 D (.lst []))) ∧ ∀ i m H, W i m H →
  ((Itz K a b).stop i H ∧ Q (.ref D) H) ∨ ((Itz K a b).go i H ∧ ∃ Nx : Hp → Prop, (∀ H', Nx H' → ∃ m', m' < m ∧ W (i + 1) m' H') ∧ ∀ x H', (Itz K a b).yld i H x H' → g x (wipe σ vs) H' fun σ2 H2 => wipe σ2 vs = wipe σ vs ∧ tt σ2 H2 fun b H3 =>
    if b = true then te σ2 H3 fun y H4 => ∃ acc, H4 D = some (.lst acc) ∧ acc.length < sizeLine ∧ Nx (upd H4 D (.lst (acc ++ [y]))) else Nx H3)
theorem rd_lcZ {tr : TA} {vs : List Nat} (h : tr σ H (kLcZ K g tt te vs σ Q)) : tLc (iZip K tr) g tt te vs σ H Q := h
theorem rd_kLcZ {vs : List Nat} {a b : Addr} {xs ys : List V} (J : Nat → List V → Addr → Hp → Prop) (hl : xs.length = ys.length) (ha : SqL K H a xs) (hb : SqL K H b ys) (h0 : ∀ D, H D = none → J 0 [] D (upd H D (.lst []))) (hq : ∀ i acc D H', J i acc D H' → SqL K H' a xs ∧ SqL K H' b ys)
    (hs : ∀ i x y T acc D H', H D = none → i < xs.length → xs[i]? = some x → ys[i]? = some y → H' D = some (.lst acc) → acc.length ≤ i → J i acc D H' → H' T = none → g (.ref T) (wipe σ vs) (upd H' T (.tup [x, y])) fun σ2 H2 => wipe σ2 vs = wipe σ vs ∧ tt σ2 H2 (kLcTt te σ2 J D i))
    (hd : ∀ acc D H', H D = none → acc.length ≤ xs.length → H' D = some (.lst acc) → J xs.length acc D H' → Q (.ref D) H') : kLcZ K g tt te vs σ Q [.ref a, .ref b] H := by
  refine ⟨a, b, xs, ys, rfl, ha, hb, fun D hD => ⟨fun i m H' => m = xs.length - i ∧ i ≤ xs.length ∧ PvJ J D i H', ⟨xs.length, rfl, Nat.zero_le _, [], Nat.le_refl _, upd_same, h0 D hD⟩, ?_⟩⟩
  rintro i m H' ⟨rfl, hi, acc, e, h, j⟩
  obtain ⟨q1, q2⟩ := hq i acc D H' j
  rcases Nat.lt_or_ge i xs.length with l | l
  · refine .inr ⟨⟨xs, ys, xs[i], ys[i], q1, q2, List.getElem?_eq_getElem l, List.getElem?_eq_getElem (by omega)⟩, PvJ J D (i + 1), fun H'' p' => ⟨xs.length - (i + 1), by omega, rfl, l, p'⟩, fun v H'' y => ?_⟩
    obtain ⟨T, x, y', rfl, hT, rfl, f1, f2⟩ := y
    exact hs i x y' T acc D H' hD l (f1 xs q1) (f2 ys q2) h e j hT
  · have e' : i = xs.length := by omega
    subst e'
    exact .inl ⟨⟨xs, ys, q1, q2, .inl (Nat.le_refl _)⟩, hd acc D H' hD e h j⟩
end
end My
namespace My
open PySem PySem.Spec PyProof.Rows L2
/-! ### a tuple and a list side by side -/
def ItzM (K : PySem.W.Frag) (a b : Addr) : It :=
  ⟨fun i H => ∃ (xs ys : List V) (x y : V), SqT K H a xs ∧ SqL K H b ys ∧ xs[i]? = some x ∧ ys[i]? = some y,
   fun i H v H' => ∃ T x y, v = .ref T ∧ H T = none ∧ H' = upd H T (.tup [x, y]) ∧ (∀ xs, SqT K H a xs → xs[i]? = some x) ∧ ∀ ys, SqL K H b ys → ys[i]? = some y,
   fun i H => ∃ xs ys : List V, SqT K H a xs ∧ SqL K H b ys ∧ min xs.length ys.length = i⟩
def zmSt (z TI TO i1 i2 a b : Addr) (i : Nat) (h : Heap) : Prop := IsZip h z TI TO .none ∧ IsTupOf2 h TI (.ref i1) (.ref i2) ∧ (∃ a1 a2, IsTupOf2 h TO a1 a2) ∧ h.IsTupleIter i1 a i ∧ h.IsListIter i2 b i
theorem zmSt.obj {z TI TO i1 i2 a b : Addr} {i : Nat} {h : Heap} (st : zmSt z TI TO i1 i2 a b i h) : ∀ c ∈ [z, TI, TO, i1, i2], ∃ o, h.get? c = some o ∧ ∀ v, o.data ≠ .cell v := by
  obtain ⟨p1, p2, ⟨_, _, p3⟩, ⟨o1, p4, _, q4⟩, ⟨o2, p5, _, q5⟩⟩ := st
  intro c hc
  simp only [List.mem_cons, List.not_mem_nil, or_false] at hc
  rcases hc with rfl | rfl | rfl | rfl | rfl
  · exact ⟨_, p1, fun v e => nomatch e⟩
  · exact ⟨_, p2, fun v e => nomatch e⟩
  · exact ⟨_, p3, fun v e => nomatch e⟩
  · exact ⟨o1, p4, fun v e => by rw [q4] at e; exact nomatch e⟩
  · exact ⟨o2, p5, fun v e => by rw [q5] at e; exact nomatch e⟩
theorem turn_zipM {P : Program} {w : World} {K : PySem.W.Frag} {elts : List Expr} {kk : Nat} {tpos : Pos} {a b z TI TO i1 i2 : Addr} (S : ZipSep2 z TI TO i1 i2 [i1, a] [i2, b]) (n1 : a ≠ i1) (n2 : b ≠ i2) :
    Turn P w K (.Tuple elts kk tpos) (ItzM K a b) [z, TI, TO, i1, i2] z (zmSt z TI TO i1 i2 a b) where
  mem := List.mem_cons_self ..
  obj := fun i h st => st.obj
  keep := fun i h h' st k => by
    obtain ⟨p1, p2, ⟨u, v, p3⟩, p4, p5⟩ := st
    exact ⟨k z (by simp) _ p1, k TI (by simp) _ p2, ⟨u, v, k TO (by simp) _ p3⟩, p4.at fun o q => k i1 (by simp) o q, p5.at fun o q => k i2 (by simp) o q⟩
  item := by
    intro X e1 e2 e3 hc i pins s σ H E I hf st hg
    subst e1 e2 e3
    have sizes := st.obj
    obtain ⟨p1, p2, p3, p4, p5⟩ := st
    obtain ⟨xs, ys, x, y, hx, hy, gx, gy⟩ := hg
    obtain ⟨us, rx, tx, _⟩ := I.tuple hx
    obtain ⟨vs, ry, ty, _⟩ := I.list hy
    obtain ⟨u, gu, ru⟩ := rx.get gx
    obtain ⟨v, gv, rv⟩ := ry.get gy
    have hd : X.A.in1.handled = none := I.ok.hd hc
    have G := GoesN.zip2 (elts := elts) (x1 := kk) (pos := tpos) S (Draws.tuple (prog := X.prog) (w := X.w) hd i1 a n1 us.toArray) (Draws.list (prog := X.prog) (w := X.w) hd i2 b n2 vs.toArray)
    have lu := (List.getElem?_eq_some_iff.mp gu).1
    have lv := (List.getElem?_eq_some_iff.mp gv).1
    refine G.goes i s _ E (by rw [List.size_toArray, List.size_toArray]; omega) ⟨p1, p2, p3, ⟨p4, tx⟩, p5, ty.isList⟩ fun t h' tk hY st' hk htk => ?_
    obtain ⟨T, x', y', rfl, hT, hx', hy', hTup⟩ := hY
    have ex : x' = u := by
      have : us[i]? = some x' := by simpa using hx'
      rw [gu] at this
      exact (Option.some.inj this).symm
    have ey : y' = v := by
      have : vs[i]? = some y' := by simpa using hy'
      rw [gv] at this
      exact (Option.some.inj this).symm
    subst ex ey
    obtain ⟨q1, q2, q3, ⟨q4, _⟩, q5, _⟩ := st'
    refine ⟨.ref T, upd H T (.tup [x, y]), I.turnedNew (ch := [z, TI, TO, i1, i2]) (fun c o hc' q => hk c o (fun m => hc' (by simp only [List.mem_cons, List.not_mem_nil, or_false] at m ⊢; rcases m with m | m | m | m <;> simp [m])) q) hf hT ⟨Nat.le_trans (show 2 ≤ 1000 by omega) (by decide), [_, _], .cons ru (.cons rv .nil), hTup⟩,
      rfl, ⟨T, x, y, rfl, I.hok.fresh hT, rfl, fun l hl => by rw [I.tuple_inj hl hx]; exact gx, fun l hl => by rw [I.list_inj hl hy]; exact gy⟩, ⟨q1, q2, q3, q4, q5⟩, fun c hc' => ?_⟩
    obtain ⟨o, ho, _⟩ := sizes c hc'
    rw [upd_ne (Nat.ne_of_lt (Nat.lt_of_lt_of_le (Heap.lt_size ho) hT))]
    exact (hf c hc').1
  done := by
    intro X e1 e2 e3 hc i pins s σ H E I hf st hg
    subst e1 e2 e3
    obtain ⟨p1, p2, p3, p4, p5⟩ := st
    obtain ⟨xs, ys, hx, hy, e⟩ := hg
    obtain ⟨us, rx, tx, _⟩ := I.tuple hx
    obtain ⟨vs, ry, ty, _⟩ := I.list hy
    have hd : X.A.in1.handled = none := I.ok.hd hc
    have G := GoesN.zip2 (elts := elts) (x1 := kk) (pos := tpos) S (Draws.tuple (prog := X.prog) (w := X.w) hd i1 a n1 us.toArray) (Draws.list (prog := X.prog) (w := X.w) hd i2 b n2 vs.toArray)
    rw [rx.length, ry.length] at e
    subst e
    refine G.stops s _ E ⟨p1, p2, p3, ⟨by simpa using p4, tx⟩, by simpa using p5, ty.isList⟩ fun h' tk hk htk => ?_
    exact I.turnedL (ch := [z, TI, TO, i1, i2]) (fun c o hc' q => hk c o (fun m => hc' (by simp only [List.mem_cons, List.not_mem_nil, or_false] at m ⊢; rcases m with m | m | m | m <;> simp [m])) q) hf
  self := fun A i s Q E st h => wpAny_pyIter_zip st.1 h
def iZipM (K : PySem.W.Frag) (ta : TA) : TI := fun σ H R => ta σ H fun vs H1 => ∃ a b xs ys, vs = [.ref a, .ref b] ∧ SqT K H1 a xs ∧ SqL K H1 b ys ∧ R (ItzM K a b) H1
theorem pi_zipM {X : Cx} {e e2 : Expr} {ta : TA} {p pos tpos : Pos} {elts : List Expr} {kk : Nat} (hg : Gl X "zip") (hm : X.mg "zip" = none) (ha : PA X [e, e2] ta)
    (hs : starEach [e, e2] X.env = (false, eval e X.env) :: starEach [e2] X.env := by rfl) (hpl : (backTo pos (starEach [e2] X.env)).any (·.1) = false := by rfl) :
    PI X (.Tuple elts kk tpos) (.Call (.Name "zip" p) [e, e2] [] pos) (iZipM X.K ta) := by
  constructor
  intro pins s σ H R I h
  refine Call_ (ld_blt I hg hm PyProof.Rows.boot_zip (PyProof.Rows.callWith_type1 (thn (ha.run pos pins s σ H _ I h) ?_) hs hpl))
  rintro us s1 ⟨vs, H1, I1, r1, a, b, xs, ys, rfl, hx, hy, q⟩
  obtain ⟨u1, u2, rfl, r, r'⟩ := vals2 r1
  cases (show u1 = Value.ref a from r)
  cases (show u2 = Value.ref b from r')
  obtain ⟨us, rx, tx, _⟩ := I1.tuple hx
  obtain ⟨vs, ry, ty, _⟩ := I1.list hy
  have la : a < s1.heap.objs.size := by obtain ⟨o, ho, _⟩ := id tx; exact Heap.lt_size ho
  have lb : b < s1.heap.objs.size := ty.lt
  refine zip_begins2 (begins_tuple a us.toArray) (begins_list b vs.toArray) tx ty.isList fun h' hz hTI hTO g1 g2 _ hk => wpAny_pyIter_zip hz ?_
  have big : ∀ c ∈ [s1.heap.objs.size + 4, s1.heap.objs.size + 2, s1.heap.objs.size + 3, s1.heap.objs.size, s1.heap.objs.size + 1], s1.heap.objs.size ≤ c := fun c hc => by
    simp only [List.mem_cons, List.not_mem_nil, or_false] at hc
    omega
  refine ⟨s1.heap.objs.size + 4, _, _, _, H1, rfl, I1.kept (t' := s1.toks) hk, turn_zipM (zip_sep2 (fp1 := [a]) (fp2 := [b]) (fun c hc => by rw [List.mem_singleton.mp hc]; exact la) fun c hc => by rw [List.mem_singleton.mp hc]; exact lb) (Nat.ne_of_lt la) (Nat.ne_of_lt (Nat.lt_succ_of_lt lb)),
    ⟨hz, hTI, ⟨_, _, hTO⟩, ⟨_, g1, rfl, rfl⟩, ⟨_, g2, rfl, rfl⟩⟩, fun c hc => I1.fpOk (big c hc) (I1.hok.fresh (big c hc)), q⟩
section
variable {K : PySem.W.Frag} {g : TG} {tb : TS} {D : Ends} {σ : L2.St} {H : Hp}
def kZipM (K : PySem.W.Frag) (g : TG) (tb : TS) (D : Ends) (σ : L2.St) : List V → Hp → Prop := fun vs H1 => ∃ a b xs ys, vs = [.ref a, .ref b] ∧ SqT K H1 a xs ∧ SqL K H1 b ys ∧ ∃ W : Nat → Nat → L2.St → Hp → Prop, (∃ m, W 0 m σ H1) ∧ ∀ i m σ H, W i m σ H →
  ((ItzM K a b).stop i H ∧ D.nx σ H) ∨ ((ItzM K a b).go i H ∧ ∃ N : L2.St → Hp → Prop, (∀ σ' H', N σ' H' → ∃ m', m' < m ∧ W (i + 1) m' σ' H') ∧ ∀ x H', (ItzM K a b).yld i H x H' → g x σ H' fun σ2 H2 => tb { D with nx := N, ct := N, bk := D.nx } σ2 H2)
theorem rd_forM {tr : TA} (h : tr σ H (kZipM K g tb D σ)) : tFor (iZipM K tr) g tb D σ H := h
theorem rd_kZipM {a b : Addr} {xs ys : List V} (hl : xs.length = ys.length) (ha : SqT K H a xs) (hb : SqL K H b ys) (Pv : Nat → L2.St → Hp → Prop) (h0 : Pv 0 σ H) (hq : ∀ i σ H, Pv i σ H → SqT K H a xs ∧ SqL K H b ys)
    (hs : ∀ (i : Nat) (x y : V) (T : Addr) (σ : L2.St) (H : Hp), xs[i]? = some x → ys[i]? = some y → Pv i σ H → H T = none → g (.ref T) σ (upd H T (.tup [x, y])) fun σ2 H2 => tb { D with nx := Pv (i + 1), ct := Pv (i + 1), bk := D.nx } σ2 H2)
    (hd : ∀ σ H, Pv xs.length σ H → D.nx σ H) : kZipM K g tb D σ [.ref a, .ref b] H := by
  refine ⟨a, b, xs, ys, rfl, ha, hb, fun i m σ H => m = xs.length - i ∧ i ≤ xs.length ∧ Pv i σ H, ⟨xs.length, rfl, Nat.zero_le _, h0⟩, ?_⟩
  rintro i m σ H ⟨rfl, hi, p⟩
  obtain ⟨q1, q2⟩ := hq i σ H p
  rcases Nat.lt_or_ge i xs.length with l | l
  · refine .inr ⟨⟨xs, ys, xs[i], ys[i], q1, q2, List.getElem?_eq_getElem l, List.getElem?_eq_getElem (by omega)⟩, Pv (i + 1), fun σ' H' p' => ⟨xs.length - (i + 1), by omega, rfl, l, p'⟩, fun v H' y => ?_⟩
    obtain ⟨T, x', y', rfl, hT, rfl, f1, f2⟩ := y
    exact hs i x' y' T σ H (f1 xs q1) (f2 ys q2) p hT
  · have e : i = xs.length := by omega
    subst e
    exact .inl ⟨⟨xs, ys, q1, q2, by omega⟩, hd σ H p⟩
end
end My
namespace My
open PySem PySem.Spec PyProof.Rows L2 L2H
/-! ### try with several clauses, of which the first one, with a name, takes what comes -/
def topEnds (D : Ends) (i : Nat) : Ends := { nx := fun σ' H' => D.nx (σ'.set i none) H', rt := D.rt, bk := fun σ' H' => D.bk (σ'.set i none) H', ct := fun σ' H' => D.ct (σ'.set i none) H' }
def wTop (K : PySem.W.Frag) (c : Value) (i : Nat) (ts : Addr → Value → Option Addr → TS) (D : Ends) : WX := fun cls d σ H => PySem.W.exmOne K cls c = some true ∧ ∀ a, H a = none → ts a cls d (topEnds D i) (σ.set i (some (.ref a))) H
section
variable {X : Cx} {body : List Stmt} {hds : List ExceptHandler} {pos pos' np : Pos} {tb : WX → TS} {x n : Str} {c : Value} {i : Nat} {b₀ : Stmt} {suite : List Stmt} {ts : Addr → Value → Option Addr → TS}
theorem ps_try_top (hs : X.stack = X.env :: X.outer) (hf : X.env.frame = some X.env.locals) (hN : X.N.Nodup) (hi : X.N[i]? = some n) (hln : X.env.kindOf n = some .local) (hc : Names X x c)
    (hb : ∀ (W : WX) (pn : List (Addr × Obj)) (xe : Value → Shared → Prop), L2N.Takes (X.tr pn xe) W → PassesOwn (model X.prog X.w) X.A X.env xe → PSs (X.tr pn xe) body (tb W))
    (hsu : ∀ (a : Addr) (oe : Obj) (cls : Value) (d : Option Addr) (pn : List (Addr × Obj)), L2N.Zn cls d oe → (∃ vs, oe.data = .fields vs) → PSs (X.suite a ((a, oe) :: pn)) (b₀ :: suite) (ts a cls d)) :
    PS X (.Try body (.ExceptHandler (some (.Name x np)) (some n) (b₀ :: suite) pos' :: hds) [] [] pos) (fun D σ H => tb (wTop X.K c i ts D) D σ H) := by
  constructor
  intro pins s σ H D I h
  have top : X.A.frames = some (X.env :: X.outer) := by rw [I.ok.frames, hs]
  refine wpAny_Try_except ?_
  -- what is raised in the body, caught
  have caught : L2N.Takes (X.tr (X.pn ++ pins) fun e s₁ => wpAny (model X.prog X.w) X.A (noteFrame e X.env) (fun _ s₂ => wpAny (model X.prog X.w) X.A (setFlight e none) (fun _ s₃ =>
      wpAny (model X.prog X.w) X.A (handleBy e X.env (.ExceptHandler (some (.Name x np)) (some n) (b₀ :: suite) pos' :: hds)) (SP X pins D) X.xe s₃) X.xe s₂) X.xe s₁) (wTop X.K c i ts D) := by
    rintro u s' ⟨a, B, sI, pins', σ', H', cls, d, rfl, J', nb, up, sky, na, os, ag, one, go⟩
    have J : Inv X pins σ' H' sI := J'.ofTry I.ok
    refine L2N.Sky.land L2N.Zn.steady top hf (by rw [← hs]; exact sky) fun h3 fl3 up3 => ?_
    have up13 := up.trans up3
    have J3 : Inv X pins σ' H' { s' with heap := h3 } := J.landed nb fl3.1 up13 os ag
    obtain ⟨oe, vs, ge, ze, de⟩ := fl3.there
    have off : a ∉ frs (X.env :: X.outer) := fun m => by
      obtain ⟨_, o', e', hnf⟩ := fl3.2.2.1.mem m
      rw [ge] at e'
      cases e'
      exact hnf _ de
    have offL : a ≠ X.env.locals := fun z => off (List.mem_filterMap.mpr ⟨X.env, List.mem_cons_self, by rw [hf, z]⟩)
    have offF : a ∉ X.fs := fun m => by
      obtain ⟨e, he, q⟩ := List.mem_filterMap.mp m
      exact off (List.mem_filterMap.mpr ⟨e, List.mem_cons_of_mem _ he, q⟩)
    have S3 := J3.suite ge de na offL offF
    refine wpAny_handleBy_cons (codeAny_handlers_test ?_) (by intro q; cases q)
    have kind := PySem.W.exm_one (M := model X.prog X.w) J3.kIn (show PySem.W.Looks (model X.prog X.w) h3 (typeOf (.ref a)) cls from fun A Q E s k q => wpAny_typeOf_ref (k _ _ ge) (by rw [ze.1]; exact q)) one
    have named : ∀ {Q : Value → Shared → Prop} {E : Value → Shared → Prop}, Q c { s' with heap := h3 } → wpAny (model X.prog X.w) (X.A.mark (some (.ref a))) (eval (.Name x np) X.env) Q E { s' with heap := h3 } := fun {Q E} q => by
      obtain ⟨g1, g2, g3 | ⟨g3, g4, g5⟩⟩ := hc
      · exact ld_glob (X := X.suite a ((a, oe) :: (X.pn ++ pins))) S3 g1 g3 q g2
      · exact ld_blt (X := X.suite a ((a, oe) :: (X.pn ++ pins))) S3 g1 g3 g4 q g5 g2
    refine named (kind.here ?_)
    refine codeAny_handlers_suite_as ?_
    refine HandSPX.lands_againZ fl3 fun h4 fl4 up4 => ?_
    have J4 : Inv X pins σ' H' { s' with heap := h4 } := J.landed nb fl4.1 (up13.trans up4) os ag
    obtain ⟨oe4, vs4, ge4, ze4, de4⟩ := fl4.there
    refine store_ok (X := X.suite a ((a, oe4) :: (X.pn ++ pins))) (v := .ref a) (J4.suite ge4 de4 na offL offF) hN hi (.inl hln) rfl (fun s5 S5 => ?_) (.inr hln)
    have back : ∀ {σ6 : L2.St} {H6 : Hp} {s6 : Shared} {Q : Shared → Prop}, Inv (X.suite a ((a, oe4) :: (X.pn ++ pins))) [] σ6 H6 s6 → (∀ s7, Inv X pins (σ6.set i none) H6 s7 → Q s7) →
        wpAny (model X.prog X.w) X.A (do bindName X.env n .none; unbindBehindTheSuite X.env n pos') (fun _ s7 => Q s7) X.xe s6 := fun S6 hq => gone_ok (S6.unsuite I.ok) hN hi hln hq
    refine wpAny_mono ((hsu a oe4 cls d (X.pn ++ pins) ze4 ⟨_, de4⟩).run [] s5 _ H' _ S5 (go a na)) ?_ (fun _ _ z => False.elim z)
    rintro (_ | _ | _ | u) s6 hsp
    case ret =>
      obtain ⟨v6, σ6, H6, S6, r6, q6⟩ := hsp
      exact back S6 fun s7 J7 => ⟨_, _, _, J7, r6, q6⟩
    all_goals
      obtain ⟨σ6, H6, S6, q6⟩ := hsp
      exact back S6 fun s7 J7 => ⟨_, _, J7, q6⟩
  refine wpAny_mono ((hb (wTop X.K c i ts D) (X.pn ++ pins) _ caught PassesOwn.looking).run [] s σ H D (I.toTry _) h) ?_ (fun e s1 he => he)
  rintro (_ | _ | _ | u) s1 hsp
  case ret =>
    obtain ⟨v, σ1, H1, J1, r, q⟩ := hsp
    exact ⟨v, σ1, H1, J1.ofTry I.ok, r, q⟩
  case next =>
    obtain ⟨σ1, H1, J1, q⟩ := hsp
    exact wpAny_execs_nil ⟨σ1, H1, J1.ofTry I.ok, q⟩
  all_goals
    obtain ⟨σ1, H1, J1, q⟩ := hsp
    exact ⟨σ1, H1, J1.ofTry I.ok, q⟩
end
end My
namespace My
open PySem PySem.Spec PyProof.Rows L2 L2H
/-- what is caught stands in the suite, its context is None -/
theorem hot_suite {X : Cx} {a : Addr} {oe : Obj} {cls : Value} {d : Option Addr} {pn : List (Addr × Obj)} (hz : L2N.Zn cls d oe) (hf : ∃ vs, oe.data = .fields vs) : HotC (X.suite a ((a, oe) :: pn)) := by
  obtain ⟨vs, hv⟩ := hf
  exact ⟨(a, oe), ⟨rfl, vs, hv, hz.2.2 vs hv⟩, List.mem_cons_self ..⟩
/-- a list is at its end while an exception is handled -/
theorem list_end_hot {prog : Program} {w : World} {A : Around} {E : Value → Shared → Prop} {s : Shared} {it l x1 : Addr} {items : Array Value} {i : Nat} {Q : Option Value → Shared → Prop} (hot : HotX.HotAt A x1 s.heap) (hit : s.heap.IsListIter it l i) (hl : s.heap.IsList l items) (hx : items[i]? = none)
    (hQ : ∀ h', (∀ b o, b ≠ it → s.heap.get? b = some o → h'.get? b = some o) → Q none { s with heap := h' }) : wpAny (model prog w) A (pyNext (.ref it)) Q E s := by
  obtain ⟨hh, o1, vs1, g1, f1, c1⟩ := hot
  obtain ⟨oi, gi, ci, di⟩ := id hit
  obtain ⟨ol, gl, _, nl, dl⟩ := id hl
  have ne : x1 ≠ it := fun z => by
    rw [z, gi] at g1
    cases g1
    rw [di] at f1
    cases f1
    exact absurd c1 (by simp)
  unfold pyNext
  refine wpAny_bind (wpAny_attempt (wpAny_callSpecial?_slot (name := Str.ofString "__next__") hit.typeIs slot_listiter_next (wpAny_call_entry slot_listiter_next hit.typeIs entry_listiter_next ?_ (args_listiter_next _))))
  show wpAny _ _ (field (.ref it) 0 >>= _) _ _ s
  refine wpAny_bind (wpAny_field gi di (x := .ref l) rfl ?_)
  show wpAny _ _ (if (Value.ref l == Value.none) = true then _ else _) _ _ s
  have nn : ¬ ((Value.ref l == Value.none) = true) := Bool.false_ne_true
  rw [if_neg nn]
  show wpAny _ _ (field (.ref it) 1 >>= _) _ _ s
  refine wpAny_bind (wpAny_field gi di (x := .int i 0) rfl ?_)
  show wpAny _ _ (seqItems? (.ref l) >>= _) _ _ s
  refine wpAny_bind (wpAny_seqItems gl dl ?_)
  simp only [Int.toNat_natCast, hx]
  refine wpAny_bind (wpAny_rule (wpAny_bind (wpAny_setField gi di (by simp) ?_)))
  show wpAny _ _ (newExc (.type "StopIteration") [] >>= _) _ _ _
  refine wpAny_bind ?_
  simp only [newExc, newTuple]
  refine wpAny_bind (wpAny_newObj_type ?_ (by size_fits))
  refine wpAny_bind (m := firstArgMember _ _) (wpAny_of_eq (a := Value.none) (by first | rfl | (simp only [firstArgMember]; rfl)) ?_)
  refine wpAny_newObj_type ?_ (by size_fits)
  have g1' := (Heap.get?_update_other s.heap (Obj.mapFields fun xs => xs.setIfInBounds 0 Value.none) (Ne.symm ne)).trans g1
  refine HotX.raiseNew_hot ⟨hh, o1, vs1, Heap.get?_push_of_some _ (Heap.get?_push_of_some _ g1'), f1, c1⟩ (Nat.ne_of_lt (Heap.lt_size (Heap.get?_push_of_some _ g1'))) (Heap.get?_push_size _ rfl) rfl (by first | (simp; done) | (simp; omega) | (simp only [Array.size_append]; simp; omega)) ?_
  refine wpAny_bind (wpAny_isInstance (T := "StopIteration") (b := true) ⟨_, Heap.get?_update_self _ (Heap.get?_push_size _ rfl) rfl, rfl⟩ isSubtype_stop ?_)
  refine wpAny_pure (hQ _ fun b o nb e => ?_)
  have e1 := (Heap.get?_update_other s.heap (Obj.mapFields fun xs => xs.setIfInBounds 0 Value.none) (Ne.symm nb)).trans e
  rw [Heap.get?_update_other _ _ (Nat.ne_of_gt (Heap.lt_size (Heap.get?_push_of_some _ e1)))]
  exact Heap.get?_push_of_some _ (Heap.get?_push_of_some _ e1)
theorem hot_on {A : Around} {x1 : Addr} {h h' : Heap} (t : HotX.HotAt A x1 h) (k : ∀ o, h.get? x1 = some o → h'.get? x1 = some o) : HotX.HotAt A x1 h' := by
  obtain ⟨hh, o, vs, g, f, c⟩ := t
  exact ⟨hh, o, vs, k o g, f, c⟩
/-- a list walked while an exception is handled -/
theorem walks_hot {prog : Program} {w : World} {A : Around} {I l x1 : Addr} {items : Array Value} (n1 : l ≠ I) (n2 : x1 ≠ I) :
    Walks prog w A I [I, l, x1] [I] items.size (fun i v => items[i]? = some v) (fun i h => (h.IsListIter I l i ∧ h.IsList l items) ∧ HotX.HotAt A x1 h) where
  sub := fun b hb => by
    rw [List.mem_singleton] at hb
    rw [hb]
    exact List.mem_cons_self ..
  frame := fun i h h' ⟨⟨p, q⟩, t⟩ k => ⟨⟨p.at fun o e => k I (by simp) o e, q.at fun o e => k l (by simp) o e⟩, hot_on t fun o e => k x1 (by simp) o e⟩
  item := fun i s Q E hi st hQ => by
    have hx : items[i]? = some items[i] := by simp [hi]
    refine wpAny_pyNext_list_item st.1.1 st.1.2 hx fun h' p sb => ?_
    have far : ∀ b o, b ≠ I → s.heap.get? b = some o → h'.get? b = some o := fun b o nb e => sb.extBut b o nb e
    exact hQ _ h' s.toks hx ⟨⟨p, st.1.2.extBut sb.extBut n1⟩, hot_on st.2 fun o e => far _ o n2 e⟩ fun b o hb e => far b o (fun z => hb (by rw [z]; exact List.mem_cons_self ..)) e
  done := fun s Q E st hQ => list_end_hot st.2 st.1.1 st.1.2 (by simp) fun h' k => hQ h' s.toks fun b o hb e => k b o (fun z => hb (by rw [z]; exact List.mem_cons_self ..)) e
  self := fun i s Q E st hQ => wpAny_pyIter_listiter st.1.1 hQ
/-- any(bs) of a list of bools in an except suite -/
theorem cr_anyH {X : Cx} (hc : HotC X) : CallR X (.builtin "any") (rAny X.K) := by
  intro pins s σ H vs us Q I r h
  obtain ⟨a, bs, rfl, hs, q⟩ := h
  obtain ⟨its, rv, hl, _⟩ := I.list hs
  rw [Vals.ref1 r]
  have hb := rv.bls
  obtain ⟨x1, hot⟩ := hc.at I
  have lx : x1 < s.heap.objs.size := by
    obtain ⟨_, o, vs, g, _⟩ := hot
    exact Heap.lt_size g
  refine call_any_walk (iter_any hl.isList fun s₂ e2 st hne => ?_)
  subst e2
  refine ⟨_, _, _, _, _, _, _, rfl, walks_hot (A := X.A.in1) (x1 := x1) (items := its.toArray) hne (Nat.ne_of_lt lx), ⟨st, hot_on hot fun o e => Heap.get?_push_of_some _ e⟩, truth_bools hb, fun h' tk hk => ?_⟩
  refine ⟨.bl (bs.any id), H, I.kept fun b o eo => hk b o (fun z => ?_) (Heap.get?_push_of_some _ eo), ?_, q⟩
  · have := Heap.lt_size eo
    rw [List.mem_singleton.mp z] at this
    exact absurd this (Nat.lt_irrefl _)
  · show Value.bool _ = Value.bool _
    rw [← L2.any_range, hb, List.size_toArray, List.length_map]
theorem cr_anyS {X : Cx} {a : Addr} {oe : Obj} {cls : Value} {d : Option Addr} {pn : List (Addr × Obj)} (hz : L2N.Zn cls d oe) (hf : ∃ vs, oe.data = .fields vs) : CallR (X.suite a ((a, oe) :: pn)) (.builtin "any") (rAny X.K) := cr_anyH (hot_suite hz hf)
/-- isinstance(e, c), e the caught exception, which has values -/
def rIsX (D a : Addr) (cls : Value) (d : Option Addr) (K : PySem.W.Frag) : List V → Hp → VK → Prop := fun xs H Q => ∃ (c : V) (cv : Value) (b : Bool) (dd : Addr) (fs : List (Str × V)), xs = [.ref a, c] ∧ cls = .ref D ∧ ClsV c cv ∧ d = some dd ∧ H dd = some (.xd fs) ∧ PySem.W.kitOne K (.ref D) cv = some b ∧ Q (.bl b) H
theorem call_isX {X : Cx} {a D : Addr} {cls : Value} {d : Option Addr} {oe : Obj} {pn : List (Addr × Obj)} (C : ExcC X.K D) (hz : L2N.Zn cls d oe) (hf : ∃ vs, oe.data = .fields vs) : CallR (X.suite a ((a, oe) :: pn)) (.builtin "isinstance") (rIsX D a cls d X.K) := by
  intro pins s σ H xs us Q I r h
  obtain ⟨c, cv, b, dd, fs, rfl, rfl, hcv, rfl, hdd, e, q⟩ := h
  obtain ⟨u1, u2, rfl, r1, r2⟩ := vals2 r
  cases (show u1 = Value.ref a from r1)
  have e2 := hcv.eq r2
  subst e2
  obtain ⟨there, _⟩ := I.pin (a, oe) (List.mem_append.mpr (.inl List.mem_cons_self))
  obtain ⟨vs, hv⟩ := hf
  obtain ⟨mA, ns, _⟩ := (show ObjOk X.prog X.w H s.heap dd (.xd fs) from I.hok dd _ hdd)
  obtain ⟨od, ho, _⟩ := lookIn_ns ns
  have J : PySem.W.InstAt s.heap a oe D (some od) := ⟨there, hz.1, by unfold PySem.W.notCls; rw [hv] <;> rfl, by rw [hz.2.1]; exact ho⟩
  have cl : (PySem.W.clsIn X.K D).isSome = true := by
    obtain ⟨cd, hcd, _⟩ := PySem.W.any_some C.hd
    rw [hcd]
    rfl
  exact PySem.W.kia_one (PySem.W.kitx_exc cl C.hg C.hk C.hs C.ha C.hn C.ht C.hm) I.kIn J e (fun z => nomatch z) fun tk => ⟨.bl b, H, I.kept (t' := tk) fun _ _ z => z, rfl, q⟩
theorem rd_isX {K : PySem.W.Frag} {D a dd : Addr} {H : Hp} {Q : VK} {c : V} {cv : Value} {b : Bool} {fs : List (Str × V)} (hc : ClsV c cv) (h : H dd = some (.xd fs)) (e : PySem.W.kitOne K (.ref D) cv = some b) (q : Q (.bl b) H) : rIsX D a (.ref D) (some dd) K [.ref a, c] H Q := ⟨c, cv, b, dd, fs, rfl, rfl, hc, rfl, h, e, q⟩
/-! ### an own exception with one value -/
def spXInit (C : Addr) (f : Str) : Sp := fun vs H Q _ => ∃ (a : Addr) (v : V), vs = [.ref a, v] ∧ H a = some (exo a C none) ∧ ∀ dx, H dx = none → dx ≠ a → Q .non (upd (upd H dx (exd dx [(f, v)])) a (exo a C (some dx)))
structure Dx (P : Program) (w : World) (K : PySem.W.Frag) (mg : Str → Option Value) (base : Heap) (k : Nat) (x : Str) (C : Addr) (ps : List Str) (sp : Sp) : Prop where
  ox : OexC K C
  gl : mg x = some (.ref C)
  ex : ∃ (f : Addr) (fd : FuncData), PySem.W.findIn K (.ref C) "__init__" = some (some (.ref f)) ∧ PySem.W.typeIn K (.ref f) = some (.type "function") ∧ FnOk P w K mg base CX0 k f fd ps sp ∧ Binds K fd ps []
theorem pmk_x {X : Cx} {k : Nat} {x : Str} {C : Addr} {ps : List Str} {sp : Sp} {e : Expr} {es : List Expr} {ta : TA} {p pos : Pos} (D : Dx X.prog X.w X.K X.mg X.base k x C ps sp) (hr : Room (k + 1) X.A) (hg : Gl X x) (ha : PA X (e :: es) ta)
    (hdb : (x == ("__debug__" : Str)) = false := by decide) (he : starEach (e :: es) X.env = (false, eval e X.env) :: starEach es X.env := by rfl) (hpl : (backTo pos (starEach es X.env)).any (·.1) = false := by rfl) :
    L2N.PMk X (.Call (.Name x p) (e :: es) [] pos) (tMkO C sp [] ta) := by
  obtain ⟨fi, fd, gi, ti, fok, bi⟩ := D.ex
  obtain ⟨ds, no, bi⟩ : ∃ ds : List Value, Vals [] ds ∧ Binds X.K fd ps ds := ⟨[], .nil, bi⟩
  intro pins st σ H Q I h
  obtain ⟨nm, q, N, bs, bm, sn, sub, ab, col, dd, k0, k1, k2, k3, k5, gC, hve⟩ := D.ox.cls
  refine wpAny_Call_Name_kw (ld_glob I hg D.gl ?_ hdb)
  refine PySem.W.callWith_K (h₀ := X.base) I.ok.mod.kin D.ox.kC (thn (ha.run pos pins st σ H _ I h) fun us s1 z => ?_) he hpl
  obtain ⟨vs, H1, I1, r1, _, mk⟩ := z
  refine ⟨I1.kIn, ?_⟩
  show wpAny _ _ (call (.ref C) us) _ _ _
  obtain ⟨hp, gens, dr, tk, os⟩ := s1
  -- the record: behind the tuple of its values
  have new1 : hp.objs.size ≤ hp.objs.size + 1 := Nat.le_succ _
  have wish := mk (hp.objs.size + 1) (I1.hok.fresh new1)
  have keeps : ∀ b o, hp.get? b = some o → ((hp.push (PySem.W.kdv_tup us)).push (PySem.HandSPX.excO C hp.objs.size)).get? b = some o := fun b o g => Heap.get?_push_of_some _ (Heap.get?_push_of_some _ g)
  have I2 := I1.laid (t' := tk) (a := hp.objs.size + 1) (o := exo (hp.objs.size + 1) C none) (h' := (hp.push (PySem.W.kdv_tup us)).push (PySem.HandSPX.excO C hp.objs.size)) keeps new1 (exo_ok (by heap_get))
  have args : Vals (V.ref (hp.objs.size + 1) :: (vs ++ [])) (Value.ref (hp.objs.size + 1) :: (us ++ ds)) := .cons rfl (r1.append no)
  have many : (Value.ref (hp.objs.size + 1) :: us ++ ds).length = ps.length := args.length.symm.trans (fok.len _ _ _ _ wish)
  have few : us.length ≤ sizeLine := by
    have := r1.length
    rw [sizeLine_eq]
    omega
  refine wpAny_call (PySem.HandSPX.call_own F.excBase_ValueError (fun Y => PySem.HandSPX.refsVE_contains Y bm hve) (I1.kIn _ _ gC) (PySem.W.looks_findIn I1.kIn gi) (fun self => PySem.W.bind_fn I1.kIn self ti) few
    (codeAny_mono (fok.run _ X.stack _ _ ⟨Value.ref (hp.objs.size + 1) :: us, []⟩ (Value.ref (hp.objs.size + 1) :: (us ++ ds)) _ _ (fun _ _ _ => False) (hr.make C us []) (I2.env0.make C us []) (bi _ (Value.ref (hp.objs.size + 1) :: us) I2.kIn many) args wish) fun r s' out => ?_))
  rcases r with er | fl
  · exact pass0 pins σ _ _ er s' I2 out
  · cases fl with
    | ret u =>
      obtain ⟨v, H2, os2, bare, un, ok2, rv, rfl, d, fs, ea, ed, nd, q2⟩ := out
      obtain ⟨h2, g2, d2, t2, os'⟩ := s'
      obtain ⟨t0, G, J, kG, ge, hoe, na⟩ := L2.mk_end0 (d2 := d2) (t2 := t2) I1 new1 keeps un ok2 os2 bare ea ed nd
      exact ⟨rv, _, _, _, ⟨G, g2, d2, t2, os'⟩, _, .ref C, some d, rfl, J, kG, ge, hoe, ⟨rfl, rfl, fun vs z => by cases z; rfl⟩, rfl, rfl, na, rfl, bare, raises_own D.ox.exC D.ox.tyC, q2⟩
    | next => exact out.elim
    | brk => exact out.elim
    | cont => exact out.elim
theorem rd_mkO {C : Addr} {f : Str} {ta : TA} {σ : L2.St} {H : Hp} {Q : XK} (h : ta σ H fun vs H1 => ∃ v, vs = [v] ∧ ∀ d, H1 d = none → Q (.ref C) (some d) (upd H1 d (.xd [(f, v)]))) (mono : ∀ (Q1 Q2 : List V → Hp → Prop), (∀ vs H1, Q1 vs H1 → Q2 vs H1) → ta σ H Q1 → ta σ H Q2) : tMkO C (spXInit C f) [] ta σ H Q := by
  refine mono _ _ ?_ h
  rintro vs H1 ⟨v, rfl, k⟩
  refine ⟨by show 1 ≤ 1000; omega, fun a na => ⟨a, v, rfl, upd_same, fun dx hdx ne => ⟨rfl, dx, [(f, v)], upd_same, ?_, ?_, ?_⟩⟩⟩
  · rw [upd_ne ne]
    exact upd_same
  · rw [upd_ne ne] at hdx
    exact hdx
  · have hd : H1 dx = none := by
      rw [upd_ne ne] at hdx
      exact hdx
    have e : upd (del (upd (upd (upd H1 a (exo a C none)) dx (exd dx [(f, v)])) a (exo a C (some dx))) a) dx (.xd [(f, v)]) = upd H1 dx (.xd [(f, v)]) := by
      funext b
      rcases Classical.em (b = dx) with z | z
      · rw [z, upd_same, upd_same]
      · rw [upd_ne z, upd_ne z]
        rcases Classical.em (b = a) with y | y
        · rw [y, del_same, na]
        · rw [del_ne y, upd_ne y, upd_ne z, upd_ne y]
    rw [e]
    exact k dx hd
/-- what a def promises that may raise, its exceptions' contexts None -/
theorem okXN {P : Program} {w : World} {K : PySem.W.Frag} {mg : Str → Option Value} {base : Heap} {x qual : Str} {st : Stmt} {f : Addr} {fd : FuncData} {N ps : List Str} {k : Nat} {sp : Sp} (F : Fun K x qual st f fd) (S : FnScope N ps (defScope st)) (len : ∀ vs H Q E, sp vs H Q E → vs.length = ps.length)
    (body : ∀ (cdv : Value) (A : Around) (outer : List Env) (s : Shared) (H : Hp) (vs : List V) (Q : VK) (E : XK), Room k (A.deeper (envOfC qual (defScope st) s.heap.objs.size f cdv)) → sp vs H Q E →
      ∃ t, PSs (cxOf (L2N.CX P w) P w K mg base N qual (defScope st) f cdv A outer s H E) (defBody st) t ∧ t { nx := fun _ H' => Q .non H', rt := Q } (L2.start N vs) H) : FnOk P w K mg base (L2N.CX P w) (k + 1) f fd ps sp := by
  obtain ⟨_, _, _, _, _, _, cdv, _, _, rfl, lk, hcd⟩ := F.ex
  exact fn_of lk hcd S len fun A outer s H vs Q E => body cdv A outer s H vs Q E
section
variable {K : PySem.W.Frag} {g : TG} {tt : TT} {te : TE} {σ : L2.St} {H : Hp} {Q : VK}
/-- a comprehension over enumerate(xs) -/
def kLcEn (K : PySem.W.Frag) (g : TG) (tt : TT) (te : TE) (vs : List Nat) (σ : L2.St) (Q : VK) : List V → Hp → Prop := fun us H1 => ∃ a xs, us = [.ref a] ∧ SqL K H1 a xs ∧ ∀ D, H1 D = none → ∃ W : Nat → Nat → Hp → Prop, (∃ m, W 0 m (upd H1 D (.lst []))) ∧ ∀ i m H, W i m H →
  ((Ite K a).stop i H ∧ Q (.ref D) H) ∨ ((Ite K a).go i H ∧ ∃ Nx : Hp → Prop, (∀ H', Nx H' → ∃ m', m' < m ∧ W (i + 1) m' H') ∧ ∀ x H', (Ite K a).yld i H x H' → g x (wipe σ vs) H' fun σ2 H2 => wipe σ2 vs = wipe σ vs ∧ tt σ2 H2 fun b H3 =>
    if b = true then te σ2 H3 fun y H4 => ∃ acc, H4 D = some (.lst acc) ∧ acc.length < sizeLine ∧ Nx (upd H4 D (.lst (acc ++ [y]))) else Nx H3)
theorem rd_lcEn {tr : TA} {vs : List Nat} (h : tr σ H (kLcEn K g tt te vs σ Q)) : tLc (iEnum K tr) g tt te vs σ H Q := h
theorem rd_kLcEn {vs : List Nat} {a : Addr} {xs : List V} (J : Nat → List V → Addr → Hp → Prop) (ha : SqL K H a xs) (h0 : ∀ D, H D = none → J 0 [] D (upd H D (.lst []))) (hq : ∀ i acc D H', J i acc D H' → SqL K H' a xs)
    (hs : ∀ i x T acc D H', H D = none → i < xs.length → xs[i]? = some x → H' D = some (.lst acc) → acc.length ≤ i → J i acc D H' → H' T = none → g (.ref T) (wipe σ vs) (upd H' T (.tup [.int (i : Nat), x])) fun σ2 H2 => wipe σ2 vs = wipe σ vs ∧ tt σ2 H2 (kLcTt te σ2 J D i))
    (hd : ∀ acc D H', H D = none → acc.length ≤ xs.length → H' D = some (.lst acc) → J xs.length acc D H' → Q (.ref D) H') : kLcEn K g tt te vs σ Q [.ref a] H := by
  refine ⟨a, xs, rfl, ha, fun D hD => ⟨fun i m H' => m = xs.length - i ∧ i ≤ xs.length ∧ PvJ J D i H', ⟨xs.length, rfl, Nat.zero_le _, [], Nat.le_refl _, upd_same, h0 D hD⟩, ?_⟩⟩
  rintro i m H' ⟨rfl, hi, acc, e, h, j⟩
  have q := hq i acc D H' j
  rcases Nat.lt_or_ge i xs.length with l | l
  · refine .inr ⟨⟨xs, xs[i], q, List.getElem?_eq_getElem l⟩, PvJ J D (i + 1), fun H'' p' => ⟨xs.length - (i + 1), by omega, rfl, l, p'⟩, fun v H'' y => ?_⟩
    obtain ⟨T, x, rfl, hT, rfl, f1⟩ := y
    exact hs i x T acc D H' hD l (f1 xs q) h e j hT
  · have e' : i = xs.length := by omega
    subst e'
    exact .inl ⟨⟨xs, q, Nat.le_refl _⟩, hd acc D H' hD e h j⟩
end
end My
/-! ### != of two lists whose items are equal, by an own __eq__ -/
namespace My
open PySem PySem.SeqAt GQ
open AutoSeq1 (wpAny_loadPart')
open MeetsSeq MeetsSeq2 MeetsSeq3 SeqRoads2
section
variable {prog : Program} {w : World} {A : Around} {R : Result → Shared → Prop} {l b : Addr} {N : Nat} {I : Nat → Shared → Prop}
theorem ne_from (hl : ListI prog w A (fun e s' => R (.error e) s') l b N I) (fin : ∀ s, I N s → R (.ok (.ret (.bool false))) s) :
    ∀ (k i : Nat), i + k = N → ∀ s, I i s → wpAny (model prog w) A.in1 (Builtin.«list.__eq__.loop» ⟨[.ref l, .ref b, rawInt i, rawInt 3], []⟩) (FinOf prog w A R) (fun e s' => R (.error e) s') s
  | 0, i, e, s, h => by
    obtain ⟨xs, ys, n, n2, gl, gb, sx, sy, _⟩ := hl i s h
    have out := fin s (by rw [← e]; exact h)
    have z1 : xs[((i : Nat) : Int).toNat]? = none := by simp; omega
    have z2 : ys[((i : Nat) : Int).toNat]? = none := by simp; omega
    obtain ⟨hp, g, d, tk, os⟩ := s
    wp_walk using wpAny_loadPart' gl, wpAny_loadPart' gb
    rw [z1, z2]
    wp_walk using wpAny_loadPart' gl, wpAny_loadPart' gb
    show R (.ok (.ret (.bool (xs.size != ys.size)))) _
    rw [sx, sy]
    simpa using out
  | k + 1, i, e, s, h => by
    obtain ⟨xs, ys, n, n2, gl, gb, sx, sy, turn⟩ := hl i s h
    have l1 : i < xs.size := by omega
    have l2 : i < ys.size := by omega
    have z1 : xs[((i : Nat) : Int).toNat]? = some xs[i] := by simp [l1]
    have z2 : ys[((i : Nat) : Int).toNat]? = some ys[i] := by simp [l2]
    have t := turn l1 l2
    obtain ⟨hp, g, d, tk, os⟩ := s
    wp_walk using wpAny_loadPart' gl, wpAny_loadPart' gb
    rw [z1, z2]
    refine wpAny_bind (wpAny_mono t (fun r s2 q => ?_) fun _ _ x => x)
    obtain ⟨rfl, q⟩ := q
    have more := ne_from hl fin k (i + 1) (by omega) s2 q
    have up : ((i : Int) + 1) = ((i + 1 : Nat) : Int) := by omega
    obtain ⟨hp2, g2, d2, tk2, os2⟩ := s2
    wp_walk
    rw [up]
    exact ⟨plainId_quiet plain_eq_loop _, codeAny_builtin entry_eq_loop (by rw [Around.under_plainId plain_eq_loop _]; exact more)⟩
theorem ne_lists (hl : ListI prog w A (fun e s' => R (.error e) s') l b N I) (fin : ∀ s, I N s → R (.ok (.ret (.bool false))) s) {s : Shared} (h : I 0 s) :
    wpAny (model prog w) A.in1 (Builtin.«list.__ne__» ⟨[.ref l, .ref b], []⟩) (FinOf prog w A R) (fun e s' => R (.error e) s') s := by
  obtain ⟨xs, ys, n, n2, gl, gb, sx, sy, _⟩ := hl 0 s h
  have go := ne_from hl fin N 0 (by omega) s h
  have f3 := AutoSeq1.sub_list_list
  have same : ¬ (xs.size != ys.size) = true := by simp [sx, sy]
  obtain ⟨hp, g, d, tk, os⟩ := s
  wp_walk using wpAny_loadPart' gl, wpAny_loadPart' gb
  exact ⟨plainId_quiet plain_eq_loop _, codeAny_builtin entry_eq_loop (by rw [Around.under_plainId plain_eq_loop _]; exact go)⟩
end
theorem ne_rich {prog : Program} {w : World} {A : Around} {E : Value → Shared → Prop} {s : Shared} {l b : Addr} {N : Nat} {Q : Value → Shared → Prop} (hu : A.units < cLine) (I : Nat → Shared → Prop) (hl : ListI prog w A E l b N I)
    (fin : ∀ s, I N s → Q (.bool false) s) (h : I 0 s) : wpAny (model prog w) A (richCompare .NotEq (.ref l) (.ref b)) Q E s := by
  obtain ⟨xs, ys, n, n2, gl, gb, _, _, _⟩ := hl 0 s h
  refine wpAny_richCompare_same_room (op := .NotEq) ⟨_, gl, rfl⟩ ⟨_, gb, rfl⟩ F.slot_list_ne (call_here F.slot_list_ne ⟨_, gl, rfl⟩ F.entry_list_ne (F.args_list_ne_2 _ _) ?_) hu
  exact ne_lists (R := wants (fun v s' => v ≠ .notImplemented ∧ Q v s') E) hl (fun s' q => ⟨(fun x => nomatch x), fin s' q⟩) h
end My
namespace My
open PySem PySem.Spec PyProof.Rows L2
/-- x != y of lists, pairs of items equal by D: False -/
def rNeG (D : Eqv) : R2 := fun x y H Q => D x y H ∧ ∀ H', Same H H' → Q (.bl false) H'
theorem op_neGL {X : Cx} {n : Nat} {D : Eqv} (hD : Mon D) (h : EqG X n D) (hr : Room (n + 1) X.A) : OpR X (compareOp .NotEq) (rNeG (DList D)) := by
  intro pins s σ H x y v u Q I rx ry hq
  obtain ⟨⟨a, b, xs, ys, rfl, rfl, ha, hb, p⟩, q⟩ := hq
  cases rx
  cases ry
  show wpAny (model X.prog X.w) X.A (richCompare .NotEq (.ref a) (.ref b)) (EP X pins σ Q) X.xe s
  refine ne_rich (N := xs.length) hr.units0 (fun _ s' => LoopI X pins σ H s') (fun i s' z => ?_) (fun s' z => ?_) ⟨H, I, Ext.rfl'⟩
  · obtain ⟨H1, I1, e1⟩ := id z
    obtain ⟨_, us, k, r, g⟩ := I1.hok a _ (e1 _ _ ha)
    obtain ⟨_, us2, k2, r2, g2⟩ := I1.hok b _ (e1 _ _ hb)
    exact ⟨us.toArray, us2.toArray, k, k2, g, g2, by rw [List.size_toArray, ← r.length], by rw [List.size_toArray, ← r2.length, ← p.1], fun h1 h2 => turnG hD h ⟨hr, rfl⟩ p r r2 i h1 h2 s' z⟩
  · obtain ⟨H1, I1, e1⟩ := z
    exact ⟨.bl false, H1, I1, rfl, q H1 e1⟩
end My
namespace My
open PySem PySem.Spec PyProof.Rows L2
/-! ### enumerate of a tuple -/
set_option maxHeartbeats 1000000 in
theorem new_enumB {v : Value} {o : Obj} {H : Heap → Prop} (B : Begins v o H) :
    Meets (Builtin.«enumerate.__new__» ⟨[.type "enumerate", v], []⟩) (fun _ R s => H s.heap ∧
      R (.ok (.ret (.ref (s.heap.push o).objs.size))) { s with heap := (s.heap.push o).push { cls := .type "enumerate", data := .fields #[.none, .bool false, .ref s.heap.objs.size, rawInt 0, .none, .none] } }) :=
  .of_wp fun prog w A R s h => by
    obtain ⟨hp, g, d, tk, os⟩ := s; obtain ⟨h1, h⟩ := h
    have hsub := sub_enumerate
    have q1 : ∀ {A' : Around} {E : Value → Shared → Prop} {Q : Value → Shared → Prop}, Q (.ref hp.objs.size) ⟨hp.push o, g, d, tk, os⟩ → wpAny (model prog w) A' (pyIter v) Q E ⟨hp, g, d, tk, os⟩ :=
      fun q => B.iter prog w _ _ ⟨hp, g, d, tk, os⟩ _ h1 q
    wp_walk using q1
    refine wpAny_stack_any fun st => wpAny_pure ?_
    split
    · rename_i c _ _ _ _ _
      cases (c == Value.type "enumerate")
      · wp_walk using q1
        exact ⟨_, rfl, h⟩
      · wp_walk using q1
        exact ⟨_, rfl, h⟩
    · wp_walk using q1
      exact ⟨_, rfl, h⟩
section
variable {prog : Program} {w : World} {A : Around} {E : Value → Shared → Prop} {s : Shared}
theorem enum_B {v : Value} {o : Obj} {H : Heap → Prop} {Q : Value → Shared → Prop} (B : Begins v o H) (h1 : H s.heap)
    (h : ∀ h', IsEnum h' (s.heap.objs.size + 1) s.heap.objs.size 0 .none → h'.get? s.heap.objs.size = some o → h'.objs.size = s.heap.objs.size + 2 →
      (∀ b o, s.heap.get? b = some o → h'.get? b = some o) → Q (.ref (s.heap.objs.size + 1)) { s with heap := h' }) :
    wpAny (model prog w) A (call (.type "enumerate") [v]) Q E s := by
  refine callType_new F.called_enumerate (by decide) (F.typeCall_enumerate_1 _) (F.newCall_enumerate_1 _) (fun obj => F.args_object_init_2 obj _) F.entry_enumerate_new
    (new_enumB B) ⟨h1, ?_⟩
  have hz : (s.heap.push o).objs.size = s.heap.objs.size + 1 := Heap.size_push ..
  show _ ∧ _
  rw [hz]
  have he : IsEnum ((s.heap.push o).push { cls := .type "enumerate", data := .fields #[.none, .bool false, .ref s.heap.objs.size, rawInt 0, .none, .none] }) (s.heap.objs.size + 1) s.heap.objs.size 0 .none := by
    have := Heap.get?_push_size (s.heap.push o) (o := { cls := .type "enumerate", data := .fields #[.none, .bool false, .ref s.heap.objs.size, rawInt 0, .none, .none] }) rfl
    rw [hz] at this; exact this
  refine ⟨⟨_, he, rfl⟩, h _ he (Heap.get?_push_of_some _ (Heap.get?_push_size _ B.free)) (by rw [Heap.size_push, hz]) fun b o x => Heap.get?_push_of_some _ (Heap.get?_push_of_some _ x)⟩
end
/-- the tuple at a as it stands at each turn, each item in a new pair -/
def IteT (K : PySem.W.Frag) (a : Addr) : It :=
  ⟨fun i H => ∃ (xs : List V) (x : V), SqT K H a xs ∧ xs[i]? = some x, fun i H v H' => ∃ T x, v = .ref T ∧ H T = none ∧ H' = upd H T (.tup [.int (i : Nat), x]) ∧ ∀ xs, SqT K H a xs → xs[i]? = some x, fun i H => ∃ xs : List V, SqT K H a xs ∧ xs.length = i⟩
theorem turn_enumT {P : Program} {w : World} {K : PySem.W.Frag} {elts : List Expr} {kk : Nat} {tpos : Pos} (a e it : Addr) :
    Turn P w K (.Tuple elts kk tpos) (IteT K a) [e, it] e (fun i h => (∃ old, IsEnum h e it ((i : Nat) : Int) old) ∧ h.IsTupleIter it a i ∧ e ≠ it ∧ e ≠ a ∧ a ≠ it) where
  mem := by simp
  obj := fun i h st b hb => by
    obtain ⟨⟨old, he⟩, ⟨o, ho, hc, hd⟩, _⟩ := st
    have e' : b = e ∨ b = it := by simpa using hb
    rcases e' with z | z
    · rw [z]; exact ⟨_, he, fun v q => nomatch q⟩
    · rw [z]; exact ⟨o, ho, fun v q => by rw [hd] at q; cases q⟩
  keep := fun i h h' st k => let ⟨⟨old, he⟩, hi, hne⟩ := st; ⟨⟨old, k e (by simp) _ he⟩, hi.at fun o q => k it (by simp) o q, hne⟩
  item := by
    intro X hP hw hK hc i pins s σ H E I hf st hg
    subst hP hw hK
    obtain ⟨⟨old, he⟩, hit, hne, hea, hai⟩ := st
    obtain ⟨xs, x, hq, hx⟩ := hg
    obtain ⟨its, rv, p, hz⟩ := I.tuple hq
    obtain ⟨u, hu, ru⟩ := rv.get hx
    have hel : e < s.heap.objs.size := Heap.lt_size he
    have hil : it < s.heap.objs.size := by obtain ⟨_, q, _⟩ := hit; exact Heap.lt_size q
    have hlt : i < its.toArray.size := by simpa using (List.getElem?_eq_some_iff.mp hu).1
    refine wpAny_pyNext_enum_itemD (Draws.tuple (A := X.A.in1) (show X.A.in1.handled = none from I.ok.hd hc) it a hai its.toArray) he ⟨hit, p⟩ hlt hne (by simp; exact ⟨hne, hea⟩) fun x' h' tk hP ho hst hT hsz hk => ?_
    have ex : x' = u := by
      have z : its.toArray[i]? = some u := by simpa using hu
      exact Option.some.inj (hP.symm.trans z)
    subst ex
    obtain ⟨hit', -⟩ := hst
    refine ⟨_, rfl, wpAny_letOwnedTupleGo_enum (s := { s with heap := h', toks := tk + 1 }) ho fun h'' he' sb => ?_⟩
    have hT2 : h''.get? s.heap.objs.size = some { cls := .type "tuple", data := .seq #[.int i tk, x'] } := (sb.2 _ (Nat.ne_of_gt hel)).trans hT
    have new : ObjOk X.prog X.w (upd H s.heap.objs.size (.tup [.int (i : Nat), x])) h'' s.heap.objs.size (.tup [.int (i : Nat), x]) :=
      ⟨by show 2 ≤ sizeLine; decide, [.int i tk, x'], .cons ⟨_, rfl⟩ (.cons ru .nil), ⟨_, hT2, rfl, _, rfl⟩⟩
    have I1 : Inv X pins σ (upd H s.heap.objs.size (.tup [.int (i : Nat), x])) { s with heap := h'', toks := tk + 1 } :=
      I.turnedNew (ch := [e, it]) (fun b ob hb q => (sb.2 b (fun z => hb (by simp [z]))).trans (hk b ob (fun z => hb (by simp [z])) (fun z => hb (by simp [z])) q)) hf (Nat.le_refl _) new
    refine ⟨.ref s.heap.objs.size, _, I1, rfl, ⟨_, x, rfl, I.hok.fresh (Nat.le_refl _), rfl, fun ys hy => by rw [I.tuple_inj hy hq]; exact hx⟩, ⟨⟨x', ?_⟩, hit'.at fun o q => (sb.2 it (Ne.symm hne)).trans q, hne, hea, hai⟩, fun b hb => ?_⟩
    · have e1 : ((i + 1 : Nat) : Int) = (i : Int) + 1 := by omega
      rw [e1]; exact he'
    · have hb' : b < s.heap.objs.size := by
        have e' : b = e ∨ b = it := by simpa using hb
        rcases e' with z | z
        · rw [z]; exact hel
        · rw [z]; exact hil
      rw [upd_ne (Nat.ne_of_lt hb')]
      exact (hf b hb).1
  done := by
    intro X hP hw hK hc i pins s σ H E I hf st hg
    subst hP hw hK
    obtain ⟨⟨old, he⟩, hit, hne, hea, hai⟩ := st
    obtain ⟨xs, hq, hx⟩ := hg
    obtain ⟨its, rv, p, hz⟩ := I.tuple hq
    obtain ⟨f0, f1, f2, f3, f4, f5⟩ := hf it (by simp)
    have hl := rv.length
    have es : i = its.toArray.size := by simp; omega
    subst es
    exact wpAny_pyNext_enum_endD (Draws.tuple (A := X.A.in1) (show X.A.in1.handled = none from I.ok.hd hc) it a hai its.toArray) he ⟨hit, p⟩ fun h' eb => ⟨rfl, I.turned (t' := s.toks) (fun b o hb q => eb b o hb q) f0 f1 f3 f4 f5⟩
  self := fun A i s Q E st h => let ⟨⟨_, he⟩, _⟩ := st; wpAny_pyIter_enum he h
def iEnumT (K : PySem.W.Frag) (ta : TA) : TI := fun σ H R => ta σ H fun vs H1 => ∃ a xs, vs = [.ref a] ∧ SqT K H1 a xs ∧ R (IteT K a) H1
theorem pi_enumT {X : Cx} {e : Expr} {ta : TA} {p pos tpos : Pos} {elts : List Expr} {kk : Nat} (hg : Gl X "enumerate") (hm : X.mg "enumerate" = none) (ha : PA X [e] ta) (hs : starEach [e] X.env = [(false, eval e X.env)] := by rfl) :
    PI X (.Tuple elts kk tpos) (.Call (.Name "enumerate" p) [e] [] pos) (iEnumT X.K ta) := by
  refine ⟨fun pins s σ H R I h => ?_⟩
  refine Call_ (ld_blt I hg hm boot_enumerate (PyProof.Rows.callWith_type1 (thn (ha.run pos pins s σ H _ I h) fun us s1 ⟨vs, H1, I1, r1, q1⟩ => ?_) hs rfl))
  obtain ⟨a, xs, ex, hq, q⟩ := q1
  subst ex
  cases r1 with
  | cons r rr =>
    cases rr
    cases r
    obtain ⟨its, rv, p', hz⟩ := I1.tuple hq
    have hal : a < s1.heap.objs.size := by obtain ⟨_, q, _⟩ := p'; exact Heap.lt_size q
    refine enum_B (begins_tuple a its.toArray) p' fun h' he hit hsz hk => wpAny_pyIter_enum he ?_
    have I2 : Inv X pins σ H1 { s1 with heap := h' } := I1.kept (t' := s1.toks) hk
    refine ⟨s1.heap.objs.size + 1, [s1.heap.objs.size + 1, s1.heap.objs.size], _, _, H1, rfl, I2, turn_enumT a (s1.heap.objs.size + 1) s1.heap.objs.size, ⟨⟨.none, he⟩, ⟨_, hit, rfl, rfl⟩, Nat.succ_ne_self _, Nat.ne_of_gt (Nat.lt_succ_of_lt hal), Nat.ne_of_lt hal⟩, fun b hb => ?_, q⟩
    have e' : b = s1.heap.objs.size + 1 ∨ b = s1.heap.objs.size := by simpa using hb
    have hle : s1.heap.objs.size ≤ b := by
      rcases e' with z | z
      · rw [z]; exact Nat.le_add_right _ _
      · rw [z]; exact Nat.le_refl _
    exact I1.fpOk hle (I1.hok.fresh hle)
end My
namespace My
open PySem PySem.Spec PyProof.Rows L2
section
variable {X : Cx} {te : L2.St → Hp → (Int → Int → Hp → Prop) → Prop} {e : Expr}
/-- tuple(xs), xs a list: a tuple without a dict -/
def rTupOfF (K : PySem.W.Frag) : List V → Hp → VK → Prop := fun xs H Q => ∃ p ys, xs = [.ref p] ∧ SqL K H p ys ∧ ∀ l o, o.dict = none → o.cls = .type "tuple" → H l = none → Q (.ref l) (upd H l (.frz o (.tup ys)))
theorem cr_tupOfF : CallR X (.type "tuple") (rTupOfF X.K) := by
  intro pins s σ H xs us Q I r h
  obtain ⟨p, ys, rfl, hq, q⟩ := h
  obtain ⟨u, rfl, rx⟩ := vals1 r
  cases rx
  obtain ⟨its, r', pl, hz⟩ := I.list hq
  have hlen := r'.length
  refine call_tuple_list pl.isList (fun h' kp => ?_) (by simp only [List.size_toArray] <;> omega)
  have I1 : Inv X pins σ H { s with heap := h' } := I.kept (t' := s.toks) kp
  have I2 : Inv X pins σ (upd H h'.objs.size (.frz { cls := .type "tuple", data := .seq its.toArray } (.tup ys))) { s with heap := h'.push { cls := .type "tuple", data := .seq its.toArray } } :=
    I1.laid (t' := s.toks) (o := .frz { cls := .type "tuple", data := .seq its.toArray } (.tup ys)) (fun b o e => Heap.get?_push_of_some _ e) (Nat.le_refl _) ⟨Heap.get?_push_size _ rfl, hz, its, r', IsTup.new _ _⟩
  exact ⟨.ref h'.objs.size, _, I2, rfl, q _ _ rfl rfl (I1.hok.fresh (Nat.le_refl _))⟩
def tTupRgF (te : L2.St → Hp → (Int → Int → Hp → Prop) → Prop) : TE := fun σ H Q => te σ H fun a b H1 => RgOk a b ∧ ∀ q o, o.dict = none → o.cls = .type "tuple" → H1 q = none → Q (.ref q) (upd H1 q (.frz o (.tup (rgV a b))))
theorem pe_tupRgF {p pos : Pos} (hc : X.calm = true) (hg : Gl X "tuple") (hm : X.mg "tuple" = none) (he : PRg X e te) (na : starEach [e] X.env = (false, eval e X.env) :: starEach [] X.env := by rfl) : PE X (.Call (.Name "tuple" p) [e] [] pos) (tTupRgF te) := by
  refine ⟨fun pins s σ H Q I h => ?_⟩
  refine Call_ (ld_blt I hg hm boot_tuple (PyProof.Rows.callWith_type1 (PyProof.Rows.args_cons (thn (he pins s σ H _ I h) fun x s1 ⟨r, a, b, t, u, v, H1, ex, hr, I1, ok, q⟩ => PyProof.Rows.args_nil ?_) na) na))
  subst ex
  obtain ⟨b1, b2, b3, b4, b5⟩ := ok
  refine call_tuple_range (n := (b - a).toNat) (I1.ok.hd hc) hr (small_one b1 b2 b3 b4) (rangeSize_nat a b) b5 fun h' tk acc hk hi => ?_
  have I2 : Inv X pins σ H1 { s1 with heap := h', toks := tk } := I1.kept hk
  refine ⟨.ref h'.objs.size, _, I2.laid (t' := tk) (o := .frz { cls := .type "tuple", data := .seq acc } (.tup (rgV a b))) (fun c o e => Heap.get?_push_of_some _ e) (Nat.le_refl _) ⟨Heap.get?_push_size _ rfl, ?_, acc.toList, vals_rg hi, ?_⟩, rfl, q _ _ rfl rfl (I2.hok.fresh (Nat.le_refl _))⟩
  · rw [rgV_length, sizeLine_eq]; omega
  · rw [Array.toArray_toList]; exact IsTup.new _ _
end
section
variable {K : PySem.W.Frag} {H : Hp} {Q : VK}
theorem rd_tupOfF {p : Addr} {ys : List V} (h : SqL K H p ys) (k : ∀ l H', H l = none → Same H H' → FrT H' l ys → Q (.ref l) H') : rTupOfF K [.ref p] H Q :=
  ⟨p, ys, rfl, h, fun l o hd hc hl => k l _ hl (fun b u q => by rw [upd_ne (ne_of_none q hl)]; exact q) ⟨o, upd_same, hd, hc⟩⟩
def kRgF (Q : VK) : VK := fun x H1 => ∃ j : Int, x = .int j ∧ RgOk 0 j ∧ ∀ q o, o.dict = none → o.cls = .type "tuple" → H1 q = none → Q (.ref q) (upd H1 q (.frz o (.tup (rgV 0 j))))
theorem rd_tupRgF1 {ta : TE} {σ : L2.St} (h : ta σ H (kRgF Q)) : tTupRgF (tRg1 ta) σ H Q := h
end
end My
namespace My
open PySem PySem.Spec PyProof.Rows L2
section
variable {X : Cx}
/-- t.count(n), of a tuple of ints -/
def rTCnt (K : PySem.W.Frag) : V → List V → Hp → VK → Prop := fun x xs H Q => ∃ (p : Addr) (ns : List Int) (k : Int), x = .ref p ∧ xs = [.int k] ∧ SqT K H p (ns.map V.int) ∧ Q (.int (ns.count k : Nat)) H
theorem mt_tcount : MtR X "tuple.count" (rTCnt X.K) := by
  intro pins s σ H x xs v us Q I rx rxs h
  obtain ⟨p, ns, k, rfl, rfl, hs, q⟩ := h
  cases rx
  obtain ⟨u, rfl, ru⟩ := rxs.one
  obtain ⟨t, rfl⟩ := ru
  obtain ⟨its, rv, ⟨⟨cls, dd, data, sl⟩, ho, hc, n, hd⟩, hlen⟩ := I.tuple hs
  simp only at hc hd
  subst hc hd
  have hi := ints_of_vals rv
  refine call_meets PySem.F.slot_tuple_count ⟨_, ho, rfl⟩ PySem.F.entry_tuple_count (PySem.F.args_tuple_count_2 _ _)
    (SeqAt.tuple_countAt p its.toArray n dd sl (.int k t) (eqk k)) ⟨ho, fun y hy => (eqk_gives hi y (by simpa using hy)).at _ _, ?_⟩
  have ec : its.toArray.toList.countP (eqk k) = ns.count k := eqk_count hi
  refine ⟨.int (ns.count k : Nat), H, I.tok _, ⟨s.toks, ?_⟩, q⟩
  show Value.int ((its.toArray.toList.countP (eqk k) : Nat) : Int) s.toks = Value.int ((ns.count k : Nat) : Int) s.toks
  rw [ec]
/-- how many unlike ints there are -/
def unlike (ns : List Int) : Nat := (firstMet (fun i => ns.getD i 0) ns.length).length
def tLenSetF (K : PySem.W.Frag) (ta : TE) : TE := fun σ H Q => ta σ H fun x H1 => ∃ (l : Addr) (ns : List Int), x = V.ref l ∧ SqL K H1 l (ns.map V.int) ∧ ns.length < 64 ∧ Q (.int (unlike ns : Nat)) H1
theorem pe_lenSetF {a : Expr} {ta : TE} {p p2 q pos : Pos} (hc : X.calm = true) (hg : Gl X "len") (hm : X.mg "len" = none) (hg2 : Gl X "set") (hm2 : X.mg "set" = none) (ha : PE X a ta)
    (na : starEach [a] X.env = (false, eval a X.env) :: starEach [] X.env := by rfl) : PE X (.Call (.Name "len" p) [.Call (.Name "set" p2) [a] [] q] [] pos) (tLenSetF X.K ta) := by
  refine ⟨fun pins s σ H Q I h => ?_⟩
  refine Call_ (ld_blt I hg hm PySem.boot_len ?_)
  refine PyProof.Rows.callWith_builtin1 (PyProof.Rows.args_cons ?_ rfl) rfl rfl
  refine Call_ (ld_blt I hg2 hm2 PyProof.Rows.boot_set ?_)
  refine PyProof.Rows.callWith_type1 (PyProof.Rows.args_cons (thn (ha.run pins s σ H _ I h) fun v s1 ⟨x, H1, I1, r1, q1⟩ => PyProof.Rows.args_nil ?_) na) na rfl
  obtain ⟨l, ns, rfl, hq, h1, q1⟩ := q1
  cases r1
  obtain ⟨its, r, pl, hz⟩ := I1.list hq
  have hl : its.toArray.size = ns.length := by rw [List.size_toArray, ← r.length, List.length_map]
  refine call_set_list (I1.ok.hd hc) pl.isList (ns := ns) (by simpa using r.ints) (by unfold scanBound; omega) fun h' tk hS hk => ?_
  rw [hl] at hS
  refine PyProof.Rows.args_nil ?_
  obtain ⟨o, es, ep, t, ho, hex, hd, _, _, _, hf, hn⟩ := hS
  have I2 : Inv X pins σ H1 { s1 with heap := h', toks := tk } := I1.kept fun b o e => hk b o (Heap.lt_size e) e
  have hle : (firstMet (fun i => ns.getD i 0) ns.length).length ≤ ns.length := firstMet_length_le _ _
  refine call_len_set ho hex hd hf (by rw [hn] <;> omega) ⟨.int (unlike ns : Nat), H1, I2.tok _, ⟨_, by rw [hn]; rfl⟩, q1⟩
end
theorem unlike_one {ns : List Int} : unlike ns = 1 ↔ ns ≠ [] ∧ ∀ x ∈ ns, some x = ns.head? := by
  have key : ∀ (f : Nat → Int) (n : Nat), (∀ i, i ≤ n → f i = f 0) → firstMet f (n + 1) = [f 0] := by
    intro f n
    induction n with
    | zero => intro _; rfl
    | succ n ih =>
      intro h
      rw [firstMet_succ, ih fun i hi => h i (by omega), h (n + 1) (Nat.le_refl _)]
      simp [step_dedup]
  have grow : ∀ (f : Nat → Int) (n : Nat), (∃ i, i < n ∧ f i ≠ f 0) → 2 ≤ (firstMet f n).length := by
    intro f n
    induction n with
    | zero => rintro ⟨i, hi, _⟩; omega
    | succ n ih =>
      rintro ⟨i, hi, hne⟩
      rw [firstMet_succ]
      by_cases c : ∃ i, i < n ∧ f i ≠ f 0
      · have := ih c
        unfold step_dedup
        split
        · exact this
        · rw [List.length_append]; omega
      · have e : i = n := by
          rcases Nat.lt_or_ge i n with l | l
          · exact absurd ⟨i, l, hne⟩ c
          · omega
        subst e
        have i0 : 0 < i := by
          rcases Nat.eq_zero_or_pos i with z | z
          · subst z; exact absurd rfl hne
          · exact z
        obtain ⟨m, rfl⟩ : ∃ m, i = m + 1 := ⟨i - 1, by omega⟩
        have e2 := key f m fun j hj => Classical.byContradiction fun z => c ⟨j, by omega, z⟩
        rw [e2]
        have ne' : ¬ (([f 0] : List Int).any (· == f (m + 1))) = true := by
          simp
          exact fun z => hne z.symm
        unfold step_dedup
        rw [if_neg ne']
        exact Nat.le_refl 2
  unfold unlike
  constructor
  · intro h
    have hne : ns ≠ [] := fun e => by rw [e] at h; exact absurd h (by decide)
    refine ⟨hne, fun x hx => ?_⟩
    obtain ⟨i, hi, rfl⟩ := List.getElem_of_mem hx
    refine Classical.byContradiction fun z => ?_
    have := grow (fun i => ns.getD i 0) ns.length ⟨i, hi, fun e => z ?_⟩
    · omega
    · have e' : ns.getD i 0 = ns.getD 0 0 := e
      cases ns with
      | nil => exact absurd rfl hne
      | cons a r =>
        rw [List.getD_eq_getElem?_getD, List.getElem?_eq_getElem hi] at e'
        simpa using e'
  · rintro ⟨hne, h⟩
    cases ns with
    | nil => exact absurd rfl hne
    | cons a r =>
      have e := key (fun i => (a :: r).getD i 0) r.length fun i hi => by
        have hi' : i < (a :: r).length := by rw [List.length_cons]; omega
        have := h _ (List.getElem_mem hi')
        show (a :: r).getD i 0 = (a :: r).getD 0 0
        rw [List.getD_eq_getElem?_getD, List.getElem?_eq_getElem hi']
        simpa using this
      rw [List.length_cons, e]
      rfl
section
variable {D : Ends} {σ : L2.St} {H : Hp} {Q : VK} {K : PySem.W.Frag} {te ta : TE} {tr : TA}
theorem rd_popAt {l : Addr} {xs : List V} {j : Nat} {y : V} (hl : H l = some (.lst xs)) (hj : xs[j]? = some y) (hz : xs.length ≤ 100000) (k : Q y (upd H l (.lst (xs.eraseIdx j)))) : rPopAt (.ref l) [.int (j : Nat)] H Q := by
  have hlt := (List.getElem?_eq_some_iff.mp hj).1
  refine ⟨l, xs, (j : Nat), j, y, rfl, rfl, hl, by omega, by omega, ?_, hj, k⟩
  unfold seqIndex?
  have e : ¬ ((j : Int) < 0) := by omega
  simp [e]
  omega
def kRg1 (Q : VK) (k : Int → Int → Hp → Prop) : VK := fun x H1 => ∃ j : Int, x = .int j ∧ k 0 j H1
def kRgL (Q : VK) : VK := fun x H1 => ∃ j : Int, x = .int j ∧ RgOk 0 j ∧ ∀ q, H1 q = none → Q (.ref q) (upd H1 q (.lst (rgV 0 j)))
theorem rd_lstRg1 {ta : TE} (h : ta σ H (kRgL Q)) : tLstRg (tRg1 ta) σ H Q := h
def kRgT (Q : VK) : VK := fun x H1 => ∃ j : Int, x = .int j ∧ RgOk 0 j ∧ ∀ q, H1 q = none → Q (.ref q) (upd H1 q (.tup (rgV 0 j)))
theorem rd_tupRg1 {ta : TE} (h : ta σ H (kRgT Q)) : tTupRg (tRg1 ta) σ H Q := h
theorem rgV_nat (n : Nat) : rgV 0 (n : Int) = (nz (List.range n)).map V.int := by
  unfold rgV nz
  rw [List.map_map, show ((n : Int) - 0).toNat = n from by omega]
  refine List.map_congr_left fun i _ => ?_
  simp
theorem rd_kRgL {n : Nat} (h0 : n ≤ 100000) (k : ∀ q, H q = none → Q (.ref q) (upd H q (.lst ((nz (List.range n)).map V.int)))) : kRgL Q (.int (n : Int)) H :=
  ⟨n, rfl, RgOk.of_le (by omega) (by omega) (by omega) (by omega), by rw [rgV_nat]; exact k⟩
theorem rd_kRgT {n : Nat} (h0 : n ≤ 100000) (k : ∀ q, H q = none → Q (.ref q) (upd H q (.tup ((nz (List.range n)).map V.int)))) : kRgT Q (.int (n : Int)) H :=
  ⟨n, rfl, RgOk.of_le (by omega) (by omega) (by omega) (by omega), by rw [rgV_nat]; exact k⟩
def rMax2 : List V → Hp → VK → Prop := fun xs H Q => ∃ i j, xs = [.int i, .int j] ∧ Q (.int (if j > i then j else i)) H
def rMin2 : List V → Hp → VK → Prop := fun xs H Q => ∃ i j, xs = [.int i, .int j] ∧ Q (.int (if j < i then j else i)) H
theorem cr_max2 {X : Cx} (hc : X.calm = true) : CallR X (.builtin "max") rMax2 := call_max2 hc
theorem cr_min2 {X : Cx} (hc : X.calm = true) : CallR X (.builtin "min") rMin2 := call_min2 hc
theorem rd_max2 {i j : Int} (h : Q (.int (max i j)) H) : rMax2 [.int i, .int j] H Q := ⟨i, j, rfl, by rw [show (if j > i then j else i) = max i j from by omega]; exact h⟩
theorem rd_min2 {i j : Int} (h : Q (.int (min i j)) H) : rMin2 [.int i, .int j] H Q := ⟨i, j, rfl, by rw [show (if j < i then j else i) = min i j from by omega]; exact h⟩
theorem rd_tcount {p : Addr} {ns : List Int} {k : Int} (h : SqT K H p (ns.map V.int)) (q : Q (.int (ns.count k : Nat)) H) : rTCnt K (.ref p) [.int k] H Q := ⟨p, ns, k, rfl, rfl, h, q⟩
/-- a for over a tuple -/
def kForT (K : PySem.W.Frag) (g : TG) (tb : TS) (D : Ends) (σ : L2.St) : VK := fun x H1 => ∃ a, x = .ref a ∧ (∃ xs, SqT K H1 a xs) ∧ ∃ W : Nat → Nat → L2.St → Hp → Prop, (∃ m, W 0 m σ H1) ∧ ∀ i m σ H, W i m σ H →
  ((Itt K a).stop i H ∧ D.nx σ H) ∨ ((Itt K a).go i H ∧ ∃ N : L2.St → Hp → Prop, (∀ σ' H', N σ' H' → ∃ m', m' < m ∧ W (i + 1) m' σ' H') ∧ ∀ x H', (Itt K a).yld i H x H' → g x σ H' fun σ2 H2 => tb { D with nx := N, ct := N, bk := D.nx } σ2 H2)
theorem rd_forT {g : TG} {tb : TS} (h : te σ H (kForT K g tb D σ)) : tFor (iTup K te) g tb D σ H := h
/-- a for over an enumerated tuple -/
def kEnumT (K : PySem.W.Frag) (g : TG) (tb : TS) (D : Ends) (σ : L2.St) : List V → Hp → Prop := fun vs H1 => ∃ a xs, vs = [.ref a] ∧ SqT K H1 a xs ∧ ∃ W : Nat → Nat → L2.St → Hp → Prop, (∃ m, W 0 m σ H1) ∧ ∀ i m σ H, W i m σ H →
  ((IteT K a).stop i H ∧ D.nx σ H) ∨ ((IteT K a).go i H ∧ ∃ N : L2.St → Hp → Prop, (∀ σ' H', N σ' H' → ∃ m', m' < m ∧ W (i + 1) m' σ' H') ∧ ∀ x H', (IteT K a).yld i H x H' → g x σ H' fun σ2 H2 => tb { D with nx := N, ct := N, bk := D.nx } σ2 H2)
theorem rd_forET {g : TG} {tb : TS} (h : tr σ H (kEnumT K g tb D σ)) : tFor (iEnumT K tr) g tb D σ H := h
theorem rd_kEnumT {g : TG} {tb : TS} {a : Addr} {xs : List V} (hq : SqT K H a xs) (Pv : Nat → L2.St → Hp → Prop) (h0 : Pv 0 σ H) (hl : ∀ i σ H, i ≤ xs.length → Pv i σ H → SqT K H a xs)
    (hs : ∀ i x T σ H, xs[i]? = some x → Pv i σ H → H T = none → g (.ref T) σ (upd H T (.tup [.int (i : Nat), x])) fun σ2 H2 => tb { D with nx := Pv (i + 1), ct := Pv (i + 1), bk := D.nx } σ2 H2) (hd : ∀ σ H, Pv xs.length σ H → D.nx σ H) : kEnumT K g tb D σ [.ref a] H := by
  refine ⟨a, xs, rfl, hq, fun i m σ' H' => m = xs.length - i ∧ i ≤ xs.length ∧ Pv i σ' H', ⟨_, rfl, Nat.zero_le _, h0⟩, ?_⟩
  rintro i m σ' H' ⟨rfl, hi, p⟩
  rcases Nat.lt_or_ge i xs.length with l | l
  · refine .inr ⟨⟨xs, xs[i], hl i σ' H' hi p, List.getElem?_eq_getElem l⟩, Pv (i + 1), fun σ'' H'' p' => ⟨xs.length - (i + 1), by omega, rfl, l, p'⟩, fun v H'' y => ?_⟩
    obtain ⟨T, x, rfl, hT, rfl, f1⟩ := y
    exact hs i x T σ' H' (f1 xs (hl i σ' H' hi p)) p hT
  · have e' : i = xs.length := by omega
    subst e'
    exact .inl ⟨⟨xs, hl _ σ' H' hi p, rfl⟩, hd σ' H' p⟩
/-- a comprehension over an enumerated tuple -/
def kLcET (K : PySem.W.Frag) (g : TG) (tt : TT) (te : TE) (vs : List Nat) (σ : L2.St) (Q : VK) : List V → Hp → Prop := fun us H1 => ∃ a xs, us = [.ref a] ∧ SqT K H1 a xs ∧ ∀ D, H1 D = none → ∃ W : Nat → Nat → Hp → Prop, (∃ m, W 0 m (upd H1 D (.lst []))) ∧ ∀ i m H, W i m H →
  ((IteT K a).stop i H ∧ Q (.ref D) H) ∨ ((IteT K a).go i H ∧ ∃ Nx : Hp → Prop, (∀ H', Nx H' → ∃ m', m' < m ∧ W (i + 1) m' H') ∧ ∀ x H', (IteT K a).yld i H x H' → g x (wipe σ vs) H' fun σ2 H2 => wipe σ2 vs = wipe σ vs ∧ tt σ2 H2 fun b H3 =>
    if b = true then te σ2 H3 fun y H4 => ∃ acc, H4 D = some (.lst acc) ∧ acc.length < sizeLine ∧ Nx (upd H4 D (.lst (acc ++ [y]))) else Nx H3)
theorem rd_lcET {g : TG} {tt : TT} {vs : List Nat} (h : tr σ H (kLcET K g tt te vs σ Q)) : tLc (iEnumT K tr) g tt te vs σ H Q := h
theorem rd_kLcET {g : TG} {tt : TT} {vs : List Nat} {a : Addr} {xs : List V} (J : Nat → List V → Addr → Hp → Prop) (ha : SqT K H a xs) (h0 : ∀ D, H D = none → J 0 [] D (upd H D (.lst []))) (hq : ∀ i acc D H', J i acc D H' → SqT K H' a xs)
    (hs : ∀ i x T acc D H', H D = none → i < xs.length → xs[i]? = some x → H' D = some (.lst acc) → acc.length ≤ i → J i acc D H' → H' T = none → g (.ref T) (wipe σ vs) (upd H' T (.tup [.int (i : Nat), x])) fun σ2 H2 => wipe σ2 vs = wipe σ vs ∧ tt σ2 H2 (kLcTt te σ2 J D i))
    (hd : ∀ acc D H', H D = none → acc.length ≤ xs.length → H' D = some (.lst acc) → J xs.length acc D H' → Q (.ref D) H') : kLcET K g tt te vs σ Q [.ref a] H := by
  refine ⟨a, xs, rfl, ha, fun D hD => ⟨fun i m H' => m = xs.length - i ∧ i ≤ xs.length ∧ PvJ J D i H', ⟨xs.length, rfl, Nat.zero_le _, [], Nat.le_refl _, upd_same, h0 D hD⟩, ?_⟩⟩
  rintro i m H' ⟨rfl, hi, acc, e, h, j⟩
  have q1 := hq i acc D H' j
  rcases Nat.lt_or_ge i xs.length with l | l
  · refine .inr ⟨⟨xs, xs[i], q1, List.getElem?_eq_getElem l⟩, PvJ J D (i + 1), fun H'' p' => ⟨xs.length - (i + 1), by omega, rfl, l, p'⟩, fun v H'' y => ?_⟩
    obtain ⟨T, x, rfl, hT, rfl, f1⟩ := y
    exact hs i x T acc D H' hD l (f1 xs q1) h e j hT
  · have e' : i = xs.length := by omega
    subst e'
    exact .inl ⟨⟨xs, q1, rfl⟩, hd acc D H' hD e h j⟩
theorem rd_kRgF {n : Nat} (h0 : n ≤ 100000) (k : ∀ q H', H q = none → Same H H' → FrT H' q ((nz (List.range n)).map V.int) → Q (.ref q) H') : kRgF Q (.int (n : Int)) H :=
  ⟨n, rfl, RgOk.of_le (by omega) (by omega) (by omega) (by omega), fun q o hd hc hq => by rw [rgV_nat]; exact k q _ hq (fun b u e => by rw [upd_ne (ne_of_none e hq)]; exact e) ⟨o, upd_same, hd, hc⟩⟩
end
end My
namespace My
open PySem PySem.Spec PyProof.Rows L2
/-! ### where words lead -/
def MapOk (n : Nat) (ms : List Nat) : Prop := ms.length = n ∧ ∀ m ∈ ms, m < n
def TOk (n : Nat) (mss : List (List Nat)) : Prop := 1 ≤ n ∧ n ≤ 32 ∧ 1 ≤ mss.length ∧ mss.length ≤ 200 ∧ ∀ ms ∈ mss, MapOk n ms
theorem MapOk.at {n : Nat} {ms : List Nat} (h : MapOk n ms) {x : Nat} (hx : x < n) : ∃ y, ms[x]? = some y ∧ y < n :=
  ⟨ms[x]'(by rw [h.1]; exact hx), List.getElem?_eq_getElem _, h.2 _ (List.getElem_mem _)⟩
theorem MapOk.getD_lt {n : Nat} {ms : List Nat} (h : MapOk n ms) {x : Nat} (hx : x < n) : ms.getD x 0 < n := by
  obtain ⟨y, e, l⟩ := h.at hx
  rw [List.getD_eq_getElem?_getD, e]
  exact l
def thenM (one other : List Nat) : List Nat := one.map fun x => other.getD x 0
def pall : List Nat → Option Nat
  | [] => none
  | m :: r => if r.all (fun x => x == m) then some m else none
theorem pall_cons (m : Nat) (r : List Nat) : pall (m :: r) = if r.all (fun x => x == m) then some m else none := rfl
def follow (mss : List (List Nat)) (word : List Nat) (x : Nat) : Nat := word.foldl (fun x s => (mss.getD s []).getD x 0) x
def wmap (mss : List (List Nat)) (n : Nat) (word : List Nat) : List Nat := (List.range n).map (follow mss word)
def SgOk (mss : List (List Nat)) (ss : List Nat) : Prop := ∀ s ∈ ss, s < mss.length
theorem TOk.sign {n : Nat} {mss : List (List Nat)} (h : TOk n mss) {s : Nat} (hs : s < mss.length) : MapOk n (mss.getD s []) := by
  rw [List.getD_eq_getElem?_getD, List.getElem?_eq_getElem hs]
  exact h.2.2.2.2 _ (List.getElem_mem _)
theorem follow_nil (mss : List (List Nat)) (x : Nat) : follow mss [] x = x := rfl
theorem follow_cons (mss : List (List Nat)) (s : Nat) (w : List Nat) (x : Nat) : follow mss (s :: w) x = follow mss w ((mss.getD s []).getD x 0) := rfl
theorem follow_app (mss : List (List Nat)) (w v : List Nat) (x : Nat) : follow mss (w ++ v) x = follow mss v (follow mss w x) := by
  unfold follow
  rw [List.foldl_append]
theorem follow_lt {n : Nat} {mss : List (List Nat)} (h : TOk n mss) : ∀ {w : List Nat} {x : Nat}, SgOk mss w → x < n → follow mss w x < n
  | [], _, _, hx => hx
  | s :: w, _, hw, hx => follow_lt h (w := w) (fun t ht => hw t (List.mem_cons_of_mem _ ht)) ((h.sign (hw s (List.mem_cons_self ..))).getD_lt hx)
theorem wmap_nil (mss : List (List Nat)) (n : Nat) : wmap mss n [] = List.range n := by
  unfold wmap
  rw [show follow mss [] = id from rfl, List.map_id]
theorem wmap_ok {n : Nat} {mss : List (List Nat)} (h : TOk n mss) {w : List Nat} (hw : SgOk mss w) : MapOk n (wmap mss n w) := by
  refine ⟨by unfold wmap; rw [List.length_map, List.length_range], fun m hm => ?_⟩
  obtain ⟨x, hx, rfl⟩ := List.mem_map.mp hm
  exact follow_lt h hw (List.mem_range.mp hx)
theorem wmap_at {n : Nat} {mss : List (List Nat)} {w : List Nat} {x : Nat} (hx : x < n) : (wmap mss n w).getD x 0 = follow mss w x := by
  unfold wmap
  rw [List.getD_eq_getElem?_getD, List.getElem?_map, List.getElem?_range hx]
  rfl
theorem map_range_getD (ms : List Nat) (g : Nat → Nat) : ms.map g = (List.range ms.length).map fun x => g (ms.getD x 0) := by
  refine List.ext_getElem (by rw [List.length_map, List.length_map, List.length_range]) fun i h1 h2 => ?_
  rw [List.length_map] at h1
  rw [List.getElem_map, List.getElem_map, List.getElem_range, List.getD_eq_getElem?_getD, List.getElem?_eq_getElem h1]
  rfl
/-- a sign ahead -/
theorem thenM_wmap {n : Nat} {mss : List (List Nat)} (h : TOk n mss) {s : Nat} (hs : s < mss.length) (w : List Nat) : thenM (mss.getD s []) (wmap mss n w) = wmap mss n (s :: w) := by
  have ok := h.sign hs
  unfold thenM
  rw [map_range_getD, ok.1]
  unfold wmap
  refine List.map_congr_left fun x hx => ?_
  rw [follow_cons]
  exact wmap_at (mss := mss) (w := w) (ok.getD_lt (List.mem_range.mp hx))
/-- a sign behind -/
theorem wmap_thenM {n : Nat} {mss : List (List Nat)} (s : Nat) (w : List Nat) : thenM (wmap mss n w) (mss.getD s []) = wmap mss n (w ++ [s]) := by
  unfold thenM wmap
  rw [List.map_map]
  refine List.map_congr_left fun x _ => ?_
  rw [follow_app]
  rfl
theorem wmap_app {n : Nat} {mss : List (List Nat)} (h : TOk n mss) {w v : List Nat} (hw : SgOk mss w) : wmap mss n (w ++ v) = thenM (wmap mss n w) (wmap mss n v) := by
  unfold thenM
  rw [show wmap mss n w = (List.range n).map (follow mss w) from rfl, List.map_map]
  refine List.map_congr_left fun x hx => ?_
  rw [follow_app]
  exact (wmap_at (follow_lt h hw (List.mem_range.mp hx))).symm
theorem pall_some {ms : List Nat} {p : Nat} : pall ms = some p ↔ ms ≠ [] ∧ ∀ m ∈ ms, m = p := by
  cases ms with
  | nil => simp [pall]
  | cons m r =>
    rw [pall_cons]
    constructor
    · intro h
      split at h
      · rename_i c
        rw [List.all_eq_true] at c
        cases h
        refine ⟨by simp, fun x hx => ?_⟩
        rcases List.mem_cons.mp hx with rfl | hx
        · rfl
        · exact beq_iff_eq.mp (c x hx)
      · cases h
    · rintro ⟨_, h⟩
      have e := h m (List.mem_cons_self ..)
      subst e
      rw [if_pos]
      rw [List.all_eq_true]
      exact fun x hx => beq_iff_eq.mpr (h x (List.mem_cons_of_mem _ hx))
theorem pall_none {ms : List Nat} : pall ms = none ↔ ∀ p, ms ≠ [] → ∃ m ∈ ms, m ≠ p := by
  constructor
  · intro h p hne
    refine Classical.byContradiction fun z => ?_
    have := pall_some.mpr ⟨hne, fun m hm => Classical.byContradiction fun y => z ⟨m, hm, y⟩⟩
    rw [h] at this
    cases this
  · intro h
    cases e : pall ms with
    | none => rfl
    | some p =>
      obtain ⟨h1, h2⟩ := pall_some.mp e
      obtain ⟨m, hm, z⟩ := h p h1
      exact absurd (h2 m hm) z
/-! ### ever elder signs -/
/-- the map of the first k signs, newest first -/
def LK (mss : List (List Nat)) (n : Nat) (ss : List Nat) (k : Nat) : List Nat := wmap mss n (ss.take k).reverse
def IsDrawn (mss : List (List Nat)) (n : Nat) (ss : List Nat) : Option (Nat × Nat) → Prop
  | none => ∀ k, k ≤ ss.length → pall (LK mss n ss k) = none
  | some (p, k) => k ≤ ss.length ∧ pall (LK mss n ss k) = some p ∧ ∀ i, i < k → pall (LK mss n ss i) = none
theorem IsDrawn.uniq {mss : List (List Nat)} {n : Nat} {ss : List Nat} {r r' : Option (Nat × Nat)} (h : IsDrawn mss n ss r) (h' : IsDrawn mss n ss r') : r = r' := by
  cases r with
  | none =>
    cases r' with
    | none => rfl
    | some q =>
      obtain ⟨p, k⟩ := q
      have := h k h'.1
      rw [h'.2.1] at this
      cases this
  | some q =>
    obtain ⟨p, k⟩ := q
    cases r' with
    | none =>
      have := h' k h.1
      rw [h.2.1] at this
      cases this
    | some q' =>
      obtain ⟨p', k'⟩ := q'
      obtain ⟨a1, a2, a3⟩ := h
      obtain ⟨b1, b2, b3⟩ := h'
      rcases Nat.lt_trichotomy k k' with c | c | c
      · rw [b3 k c] at a2; cases a2
      · subst c
        rw [a2] at b2
        cases b2
        rfl
      · rw [a3 k' c] at b2; cases b2
/-- a draw that was told signs: how many were used, and their map -/
def DS (mss : List (List Nat)) (n : Nat) (ss : List Nat) (u : Nat) (lk : List Nat) : Prop := u ≤ ss.length ∧ lk = LK mss n ss u ∧ (pall lk = none → u = ss.length) ∧ ∀ i, i < u → pall (LK mss n ss i) = none
theorem LK_snoc {mss : List (List Nat)} {n : Nat} {ss : List Nat} {s k : Nat} (h : k ≤ ss.length) : LK mss n (ss ++ [s]) k = LK mss n ss k := by
  unfold LK
  rw [List.take_append_of_le_length h]
theorem DS.zero (mss : List (List Nat)) (n : Nat) : DS mss n [] 0 (List.range n) := ⟨Nat.le_refl _, by unfold LK; rw [List.take_nil, List.reverse_nil, wmap_nil], fun _ => rfl, fun i hi => absurd hi (by omega)⟩
theorem DS.stay {mss : List (List Nat)} {n : Nat} {ss : List Nat} {u : Nat} {lk : List Nat} (h : DS mss n ss u lk) (hp : pall lk ≠ none) (s : Nat) : DS mss n (ss ++ [s]) u lk := by
  obtain ⟨a, b, c, d⟩ := h
  refine ⟨by rw [List.length_append]; omega, by rw [LK_snoc a]; exact b, fun z => absurd z hp, fun i hi => by rw [LK_snoc (by omega)]; exact d i hi⟩
theorem DS.go {mss : List (List Nat)} {n : Nat} (hT : TOk n mss) {ss : List Nat} {u : Nat} {lk : List Nat} (h : DS mss n ss u lk) (hp : pall lk = none) {s : Nat} (hs : s < mss.length) : DS mss n (ss ++ [s]) (u + 1) (thenM (mss.getD s []) lk) := by
  obtain ⟨a, b, c, d⟩ := h
  have e := c hp
  subst e
  refine ⟨by rw [List.length_append]; exact Nat.le_refl _, ?_, fun _ => by rw [List.length_append]; rfl, fun i hi => ?_⟩
  · rw [b]
    unfold LK
    rw [thenM_wmap hT hs, List.take_length, List.take_of_length_le (by rw [List.length_append]; exact Nat.le_refl _), List.reverse_append]
    rfl
  · rw [LK_snoc (by omega)]
    rcases Nat.lt_or_ge i ss.length with l | l
    · exact d i l
    · have e : i = ss.length := by omega
      subst e
      rw [← b]
      exact hp
def drR (u : Nat) (lk : List Nat) : Option (Nat × Nat) := (pall lk).map fun p => (p, u)
theorem DS.drawn {mss : List (List Nat)} {n : Nat} {ss : List Nat} {u : Nat} {lk : List Nat} (h : DS mss n ss u lk) : IsDrawn mss n ss (drR u lk) := by
  obtain ⟨a, b, c, d⟩ := h
  unfold drR
  cases e : pall lk with
  | none =>
    intro k hk
    have z := c e
    rcases Nat.lt_or_ge k u with l | l
    · exact d k l
    · have e2 : k = u := by omega
      rw [e2, ← b]
      exact e
  | some p => exact ⟨a, by rw [← b]; exact e, d⟩
theorem SgOk.take {mss : List (List Nat)} {ss : List Nat} (h : SgOk mss ss) (k : Nat) : SgOk mss (ss.take k) := fun s hs => h s (List.mem_of_mem_take hs)
theorem SgOk.rev {mss : List (List Nat)} {ss : List Nat} (h : SgOk mss ss) : SgOk mss ss.reverse := fun s hs => h s (List.mem_reverse.mp hs)
theorem LK_ok {n : Nat} {mss : List (List Nat)} (h : TOk n mss) {ss : List Nat} (hs : SgOk mss ss) (k : Nat) : MapOk n (LK mss n ss k) := wmap_ok h (hs.take k).rev
/-! ### values: a number or None, a pair or None -/
def optV : Option Nat → V
  | none => .non
  | some n => .int (n : Int)
def drD : Option (Nat × Nat) → PyData
  | none => .none
  | some (p, k) => .tuple [.int (p : Int), .int (k : Int)]
def DrAt (K : PySem.W.Frag) (H : Hp) (v : V) : Option (Nat × Nat) → Prop
  | none => v = .non
  | some (p, k) => ∃ t, v = .ref t ∧ H t = some (.tup [.int (p : Int), .int (k : Int)])
theorem DrAt.dp {K : PySem.W.Frag} {H : Hp} {v : V} {r : Option (Nat × Nat)} (h : DrAt K H v r) : Dp K H v (drD r) := by
  cases r with
  | none => cases h; exact .non
  | some q =>
    obtain ⟨p, k⟩ := q
    obtain ⟨t, rfl, st⟩ := h
    exact .tup (SqT.of st) (.cons (.int _) (.cons (.int _) .nil))
theorem drD_shaped (r : Option (Nat × Nat)) (h : ∀ p k, r = some (p, k) → p < 1000000 ∧ k < 1000000) : SeqAt.shaped (drD r) = true := by
  cases r with
  | none => rfl
  | some q =>
    obtain ⟨p, k⟩ := q
    obtain ⟨h1, h2⟩ := h p k rfl
    exact Nice.shaped (m := 3) (n := 1) (nice_set (ps := [p, k]) (fun x hx => by
      simp only [List.mem_cons, List.not_mem_nil, or_false] at hx
      rcases hx with rfl | rfl <;> assumption)) (by decide)
theorem cut_pre {xs : List V} {k : Nat} (h : k ≤ xs.length) : cutV xs none (some (k : Int)) = xs.take k := by
  unfold cutV
  have e1 : HT.sIx xs.length 0 none = 0 := rfl
  have e2 : HT.sIx xs.length xs.length (some (k : Int)) = k := by
    unfold HT.sIx
    dsimp only
    split <;> omega
  rw [e1, e2]
  rfl
theorem cut_suf {xs : List V} {k : Nat} (h : k ≤ xs.length) : cutV xs (some (k : Int)) none = xs.drop k := by
  unfold cutV
  have e1 : HT.sIx xs.length xs.length none = xs.length := rfl
  have e2 : HT.sIx xs.length 0 (some (k : Int)) = k := by
    unfold HT.sIx
    dsimp only
    split <;> omega
  rw [e1, e2, List.take_of_length_le (by rw [List.length_drop]; omega)]
theorem unlike_pall {ms : List Nat} : unlike (nz ms) = 1 ↔ pall ms ≠ none := by
  rw [unlike_one]
  constructor
  · rintro ⟨h1, h2⟩ e
    cases ms with
    | nil => exact h1 rfl
    | cons m r =>
      have := (pall_some (ms := m :: r) (p := m)).mpr ⟨by simp, fun x hx => by
        have z := h2 (x : Int) (List.mem_map.mpr ⟨x, hx, rfl⟩)
        have z2 : some (x : Int) = some (m : Int) := z
        injection z2 with z3
        omega⟩
      rw [e] at this
      cases this
  · intro h
    cases e : pall ms with
    | none => exact absurd e h
    | some p =>
      obtain ⟨h1, h2⟩ := pall_some.mp e
      cases ms with
      | nil => exact absurd rfl h1
      | cons m r =>
        refine ⟨by simp [nz], fun x hx => ?_⟩
        obtain ⟨y, hy, rfl⟩ := List.mem_map.mp hx
        show some ((y : Nat) : Int) = some ((m : Nat) : Int)
        rw [h2 y hy, h2 m (List.mem_cons_self ..)]
theorem DrAt.same {K : PySem.W.Frag} {H H' : Hp} {v : V} {r : Option (Nat × Nat)} (h : DrAt K H v r) (e : Same H H') : DrAt K H' v r := by
  cases r with
  | none => exact h
  | some q =>
    obtain ⟨p, k⟩ := q
    obtain ⟨t, rfl, st⟩ := h
    exact ⟨t, rfl, e _ _ st⟩
theorem rd_neDr {K : PySem.W.Frag} {H : Hp} {Q : VK} {x y : V} {r : Option (Nat × Nat)} (hx : DrAt K H x r) (hy : DrAt K H y r) (hb : ∀ p k, r = some (p, k) → p < 1000000 ∧ k < 1000000) (q : Q (.bl false) H) : rNeD K x y H Q := by
  refine ⟨drD r, drD r, hx.dp, hy.dp, drD_shaped r hb, drD_shaped r hb, ?_⟩
  have e : PyData.eqv (drD r) (drD r) = true := by
    cases r with
    | none => rfl
    | some q =>
      obtain ⟨p, k⟩ := q
      have := eqv_set [p, k] [p, k]
      rw [decide_eq_true rfl] at this
      exact this
  rw [e]
  exact q
end My
namespace My
open PySem PySem.Spec PyProof.Rows L2
/-! ### looks at 1, 2, 4 .. signs -/
def IsDbl (mss : List (List Nat)) (n : Nat) (ss : List Nat) : Option (Nat × Nat) → Prop
  | none => n ≠ 1 ∧ ∀ i, 2 ^ i ≤ ss.length → pall (LK mss n ss (2 ^ i)) = none
  | some (p, k) => (n = 1 ∧ p = 0 ∧ k = 0) ∨ (n ≠ 1 ∧ ∃ i, k = 2 ^ i ∧ k ≤ ss.length ∧ pall (LK mss n ss k) = some p ∧ ∀ j, j < i → pall (LK mss n ss (2 ^ j)) = none)
theorem IsDbl.uniq {mss : List (List Nat)} {n : Nat} {ss : List Nat} {r r' : Option (Nat × Nat)} (h : IsDbl mss n ss r) (h' : IsDbl mss n ss r') : r = r' := by
  cases r with
  | none =>
    cases r' with
    | none => rfl
    | some q =>
      obtain ⟨p, k⟩ := q
      rcases h' with ⟨e, _⟩ | ⟨_, i, rfl, b, c, _⟩
      · exact absurd e h.1
      · have := h.2 i b
        rw [c] at this
        cases this
  | some q =>
    obtain ⟨p, k⟩ := q
    cases r' with
    | none =>
      rcases h with ⟨e, _⟩ | ⟨_, i, rfl, b, c, _⟩
      · exact absurd e h'.1
      · have := h'.2 i b
        rw [c] at this
        cases this
    | some q' =>
      obtain ⟨p', k'⟩ := q'
      rcases h with ⟨e, rfl, rfl⟩ | ⟨e, i, rfl, b, c, d⟩
      · rcases h' with ⟨_, rfl, rfl⟩ | ⟨e', _⟩
        · rfl
        · exact absurd e e'
      · rcases h' with ⟨e', _⟩ | ⟨_, i', rfl, b', c', d'⟩
        · exact absurd e' e
        · rcases Nat.lt_trichotomy i i' with z | z | z
          · rw [d' i z] at c; cases c
          · subst z
            rw [c] at c'
            cases c'
            rfl
          · rw [d i' z] at c'; cases c'
def pw2 : List Nat := [1, 2, 4, 8, 16, 32, 64, 128, 256]
theorem pw2_mem {i : Nat} (h : 2 ^ i < 512) : 2 ^ i ∈ pw2 := by
  have hi : i < 9 := Classical.byContradiction fun z => by
    have := Nat.pow_le_pow_right (n := 2) (by decide) (show 9 ≤ i by omega)
    omega
  have e : i = 0 ∨ i = 1 ∨ i = 2 ∨ i = 3 ∨ i = 4 ∨ i = 5 ∨ i = 6 ∨ i = 7 ∨ i = 8 := by omega
  rcases e with rfl | rfl | rfl | rfl | rfl | rfl | rfl | rfl | rfl <;> decide
theorem pw2_pow {x : Nat} (h : x ∈ pw2) : ∃ i, x = 2 ^ i := by
  simp only [pw2, List.mem_cons, List.not_mem_nil, or_false] at h
  rcases h with rfl | rfl | rfl | rfl | rfl | rfl | rfl | rfl | rfl
  · exact ⟨0, rfl⟩
  · exact ⟨1, rfl⟩
  · exact ⟨2, rfl⟩
  · exact ⟨3, rfl⟩
  · exact ⟨4, rfl⟩
  · exact ⟨5, rfl⟩
  · exact ⟨6, rfl⟩
  · exact ⟨7, rfl⟩
  · exact ⟨8, rfl⟩
theorem pw2_lt : pw2.Pairwise (· < ·) := by decide
def looks (m : Nat) : List Nat := pw2.filter fun x => decide (x ≤ m)
theorem looks_before {m j x y : Nat} (hx : (looks m)[j]? = some x) (hy : y ∈ looks m) (h : y < x) : y ∈ (looks m).take j := by
  have hp : (looks m).Pairwise (· < ·) := List.Pairwise.sublist List.filter_sublist pw2_lt
  obtain ⟨hj, e⟩ := List.getElem?_eq_some_iff.mp hx
  obtain ⟨i, hi, rfl⟩ := List.getElem_of_mem hy
  have hij : i < j := Classical.byContradiction fun z => by
    rcases Nat.lt_or_ge j i with c | c
    · have := List.pairwise_iff_getElem.mp hp j i hj hi c
      omega
    · have e2 : i = j := by omega
      subst e2
      omega
  rw [List.mem_take_iff_getElem]
  exact ⟨i, by omega, rfl⟩
theorem IsDbl.found {mss : List (List Nat)} {n : Nat} {ss : List Nat} {j x p : Nat} (h1 : n ≠ 1) (hz : ss.length < 512) (hx : (looks ss.length)[j]? = some x) (hp : pall (LK mss n ss x) = some p) (hno : ∀ y ∈ (looks ss.length).take j, pall (LK mss n ss y) = none) : IsDbl mss n ss (some (p, x)) := by
  have hm := List.mem_of_getElem? hx
  obtain ⟨m1, m2⟩ := List.mem_filter.mp hm
  have m2 := of_decide_eq_true m2
  obtain ⟨i, rfl⟩ := pw2_pow m1
  refine .inr ⟨h1, i, rfl, m2, hp, fun k hk => hno _ ?_⟩
  have lt : 2 ^ k < 2 ^ i := Nat.pow_lt_pow_right (by decide) hk
  exact looks_before hx (List.mem_filter.mpr ⟨pw2_mem (by omega), decide_eq_true (by omega)⟩) lt
theorem IsDbl.never {mss : List (List Nat)} {n : Nat} {ss : List Nat} (h1 : n ≠ 1) (hz : ss.length < 512) (hno : ∀ y ∈ looks ss.length, pall (LK mss n ss y) = none) : IsDbl mss n ss none :=
  ⟨h1, fun i hi => hno _ (List.mem_filter.mpr ⟨pw2_mem (by omega), decide_eq_true hi⟩)⟩
end My
namespace My
open PySem PySem.Spec PyProof.Rows L2
/-! ### (x,) * n, n from 1 on -/
theorem tuple_mul1 (l : Addr) (items : Array Value) (n : Nat) (dd : Option Addr) (sl : Array (Option Value)) (u : Tok) :
    Meets (Builtin.«tuple.__mul__» ⟨[.ref l, .int 1 u], []⟩) (fun _ R s => s.heap.get? l = some { cls := .type "tuple", dict := dd, data := .seq items n, slots := sl } ∧ R (.ok (.ret (Value.ref l))) s) :=
  .of_wp fun prog w A R s h => by
    obtain ⟨hp, g, d, tk, os⟩ := s
    obtain ⟨hl, h⟩ := h
    have f1 := AutoSeq1.idx_int
    have c0 : (decide ((1 : Int) < -(2 ^ 63)) || decide ((1 : Int) ≥ 2 ^ 63)) = false := by decide
    have c1 : (items.isEmpty || (1 : Int) == 1) = true := by simp
    wp_walk using wpAny_loadPart' hl
    repeat (first
      | (refine wpAny_ite_false (decide_eq_false (by rw [c0]; exact Bool.false_ne_true)) ?_; wp_walk using wpAny_loadPart' hl)
      | (refine wpAny_ite_true (decide_eq_true c1) ?_; wp_walk using wpAny_loadPart' hl))
    exact ⟨_, rfl, h⟩
def rRepU (K : PySem.W.Frag) : R2 := fun x y H Q => ∃ l k xs, x = .ref l ∧ y = .int k ∧ SqT K H l xs ∧ xs ≠ [] ∧ 1 ≤ k ∧ k ≤ 1000 ∧ xs.length ≤ 1000 ∧ (k = 1 → Q (.ref l) H) ∧ (2 ≤ k → ∀ p, H p = none → Q (.ref p) (upd H p (.tup (List.replicate k.toNat xs).flatten)))
theorem op_repU {X : Cx} : OpR X (binaryOp .Mult) (rRepU X.K) := by
  intro pins s σ H x y v u Q I rx ry h
  obtain ⟨l, k, xs, rfl, rfl, hT, hne, h1, h2, hz, q1, q2⟩ := h
  rcases (show k = 1 ∨ 2 ≤ k by omega) with rfl | h3
  · cases rx
    obtain ⟨t, rfl⟩ := ry
    obtain ⟨its, r, ⟨⟨cls, dd, data, sl⟩, ho, hc, n, hd⟩, hs⟩ := I.tuple hT
    simp only at hc hd
    subst hc hd
    refine wpAny_binaryOp_repeat_ref (T := "tuple") (U := "int") (by decide) ⟨_, ho, rfl⟩ (fun s' => typeIs_int s' 1 t) noFill_tuple_mul F.fills_int_mul F.slot_int_rmul repeat_tuple F.slot_int_index.lookup
      (call_meets F.slot_int_rmul (typeIs_int s 1 t) F.entry_int_rmul (F.args_int_rmul_2 _ _) (int_rmul_tuple 1 t l its.toArray n dd sl)
        ⟨ho, rfl, ⟨_, ho, rfl⟩, call_meets F.slot_tuple_mul ⟨_, ho, rfl⟩ F.entry_tuple_mul (F.args_tuple_mul_2 _ _) (tuple_mul1 l its.toArray n dd sl t) ⟨ho, ⟨.ref l, H, I, rfl, q1 rfl⟩⟩⟩)
  · exact op_repT pins s σ H _ _ v u Q I rx ry ⟨l, k, xs, rfl, rfl, hT, hne, h3, h2, hz, q2 h3⟩
theorem rd_repU {K : PySem.W.Frag} {H : Hp} {Q : VK} {l : Addr} {n m : Nat} (h : H l = some (.tup [.int (m : Int)])) (n1 : 1 ≤ n) (n2 : n ≤ 1000) (k : ∀ p H', (H p = none ∨ p = l) → Same H H' → H' p = some (.tup ((nz (List.replicate n m)).map V.int)) → Q (.ref p) H') : rRepU K (.ref l) (.int (n : Int)) H Q := by
  refine ⟨l, n, _, rfl, rfl, SqT.of h, by simp, by omega, by omega, by simp, fun e => ?_, fun e p hp => ?_⟩
  · have : n = 1 := by omega
    subst this
    exact k l H (.inr rfl) (Same.refl _) h
  · refine k p _ (.inl hp) (fun b o q => by rw [upd_ne (ne_of_none q hp)]; exact q) ?_
    rw [upd_same, show ((n : Int)).toNat = n from by omega]
    congr 2
    clear k e hp n1 n2
    induction n with
    | zero => rfl
    | succ n ih => rw [List.replicate_succ, List.flatten_cons, ih, List.replicate_succ]; rfl
end My
namespace My
open PySem PySem.Spec PyProof.Rows L2
/-! ### what has met has met for ever -/
theorem const_then {m : List Nat} {lk : List Nat} {n p : Nat} (hm : MapOk n m) (h1 : 1 ≤ n) (hl : lk.length = n) (hp : pall lk = some p) : pall (thenM m lk) = some p := by
  obtain ⟨_, h2⟩ := pall_some.mp hp
  refine pall_some.mpr ⟨fun e => ?_, fun x hx => ?_⟩
  · have := congrArg List.length e
    unfold thenM at this
    rw [List.length_map, hm.1] at this
    simp at this
    omega
  · unfold thenM at hx
    obtain ⟨y, hy, rfl⟩ := List.mem_map.mp hx
    have hy' := hm.2 y hy
    rw [List.getD_eq_getElem?_getD, List.getElem?_eq_getElem (by omega)]
    exact h2 _ (List.getElem_mem _)
theorem then_const {m : List Nat} {lk : List Nat} {n p : Nat} (hp : pall lk = some p) : pall (thenM lk m) = some (m.getD p 0) := by
  obtain ⟨h1, h2⟩ := pall_some.mp hp
  refine pall_some.mpr ⟨fun e => h1 ?_, fun x hx => ?_⟩
  · unfold thenM at e
    exact List.map_eq_nil_iff.mp e
  · unfold thenM at hx
    obtain ⟨y, hy, rfl⟩ := List.mem_map.mp hx
    rw [h2 y hy]
theorem LK_on {n : Nat} {mss : List (List Nat)} (hT : TOk n mss) {ss : List Nat} (hs : SgOk mss ss) {k j p : Nat} (h : k ≤ j) (hp : pall (LK mss n ss k) = some p) : pall (LK mss n ss j) = some p := by
  have e : (ss.take j).reverse = ((ss.take j).drop k).reverse ++ (ss.take k).reverse := by
    rw [← List.reverse_append]
    congr 1
    have := List.take_append_drop k (ss.take j)
    rw [List.take_take, Nat.min_eq_left h] at this
    exact this.symm
  unfold LK
  rw [e, wmap_app hT (fun s hs' => hs s (List.mem_of_mem_take (List.mem_of_mem_drop (List.mem_reverse.mp hs'))))]
  exact const_then (wmap_ok hT (fun s hs' => hs s (List.mem_of_mem_take (List.mem_of_mem_drop (List.mem_reverse.mp hs'))))) hT.1 (LK_ok hT hs k).1 hp
theorem LK_pre {mss : List (List Nat)} {n : Nat} {ss more : List Nat} {k : Nat} (h : k ≤ ss.length) : LK mss n (ss ++ more) k = LK mss n ss k := by
  unfold LK
  rw [List.take_append_of_le_length h]
theorem IsDrawn.more {mss : List (List Nat)} {n : Nat} {ss : List Nat} {p k : Nat} (h : IsDrawn mss n ss (some (p, k))) (more : List Nat) : IsDrawn mss n (ss ++ more) (some (p, k)) := by
  obtain ⟨a, b, c⟩ := h
  exact ⟨by rw [List.length_append]; omega, by rw [LK_pre a]; exact b, fun i hi => by rw [LK_pre (by omega)]; exact c i hi⟩
theorem LK_zero {mss : List (List Nat)} {n : Nat} {ss : List Nat} : LK mss n ss 0 = List.range n := by
  unfold LK
  rw [List.take_zero, List.reverse_nil, wmap_nil]
theorem pall_range {n p : Nat} (h : pall (List.range n) = some p) : n = 1 := by
  obtain ⟨h1, h2⟩ := pall_some.mp h
  rcases Nat.lt_or_ge n 2 with c | c
  · rcases Nat.eq_zero_or_pos n with z | z
    · subst z; exact absurd rfl h1
    · omega
  · have a := h2 0 (List.mem_range.mpr (by omega))
    have b := h2 1 (List.mem_range.mpr (by omega))
    omega
/-- looks by doubled steps tell of a row that draws: the same place, no sooner, not twice as late; or the row ends ahead of that -/
def DblDue (len p k : Nat) : Option (Nat × Nat) → Prop
  | none => len < 2 * k
  | some (p', k') => p' = p ∧ k ≤ k' ∧ (k' < 2 * k ∨ k < 2)
theorem dbl_due {n : Nat} {mss : List (List Nat)} (hT : TOk n mss) {ss : List Nat} (hs : SgOk mss ss) {p k : Nat} (h : IsDrawn mss n ss (some (p, k))) {r : Option (Nat × Nat)} (hr : IsDbl mss n ss r) : DblDue ss.length p k r := by
  obtain ⟨a, b, c⟩ := h
  have h0 : n ≠ 1 → 1 ≤ k := fun hn => by
    rcases Nat.eq_zero_or_pos k with z | z
    · subst z
      rw [LK_zero] at b
      exact absurd (pall_range b) hn
    · exact z
  have no : ∀ j, j ≤ ss.length → pall (LK mss n ss j) = none → j < k := fun j _ hj => Classical.byContradiction fun z => by
    have := LK_on hT hs (show k ≤ j by omega) b
    rw [hj] at this
    cases this
  cases r with
  | none =>
    obtain ⟨hn, hno⟩ := hr
    have k1 := h0 hn
    refine Classical.byContradiction fun z => ?_
    -- the greatest power that the row has
    have : ∀ i, 2 ^ i ≤ ss.length → 2 ^ i < k := fun i hi => no _ hi (hno i hi)
    have grow : ∀ i, 2 ^ i < k := by
      intro i
      induction i with
      | zero => exact this 0 (by show 1 ≤ ss.length; omega)
      | succ i ih => exact this (i + 1) (by
          have z' : ¬ ss.length < 2 * k := z
          rw [Nat.pow_succ]
          omega)
    have := grow k
    have := Nat.lt_two_pow_self (n := k)
    omega
  | some q =>
    obtain ⟨p', k'⟩ := q
    rcases hr with ⟨hn, rfl, rfl⟩ | ⟨hn, i, rfl, b', c', d'⟩
    · subst hn
      have e0 : pall (LK mss 1 ss 0) = some 0 := by rw [LK_zero]; rfl
      have k0 : k = 0 := Nat.eq_zero_of_not_pos fun z => by
        have := c 0 z
        rw [e0] at this
        cases this
      subst k0
      rw [e0] at b
      cases b
      exact ⟨rfl, Nat.le_refl _, .inr (by decide)⟩
    · have k1 := h0 hn
      have kk : k ≤ 2 ^ i := Classical.byContradiction fun z => by
        have := c (2 ^ i) (by omega)
        rw [c'] at this
        cases this
      refine ⟨?_, kk, ?_⟩
      · have := LK_on hT hs kk b
        rw [c'] at this
        cases this
        rfl
      · cases i with
        | zero => exact .inr (by have : k ≤ 1 := kk; omega)
        | succ i =>
          have := no (2 ^ i) (by rw [Nat.pow_succ] at b'; omega) (d' i (Nat.lt_succ_self i))
          left
          rw [Nat.pow_succ]
          omega
/-- a newer sign ahead -/
theorem LK_newer {mss : List (List Nat)} {n : Nat} {ss : List Nat} {s k : Nat} : LK mss n (s :: ss) (k + 1) = thenM (LK mss n ss k) (mss.getD s []) := by
  unfold LK
  rw [List.take_succ_cons, List.reverse_cons, wmap_thenM]
theorem drawn_newer {n : Nat} {mss : List (List Nat)} (hT : TOk n mss) {ss : List Nat} {s : Nat} (hs : SgOk mss (s :: ss)) {p k : Nat} (h : IsDrawn mss n ss (some (p, k))) {r : Option (Nat × Nat)} (hr : IsDrawn mss n (s :: ss) r) : ∃ k', r = some ((mss.getD s []).getD p 0, k') ∧ k' ≤ k + 1 := by
  obtain ⟨a, b, c⟩ := h
  have e : pall (LK mss n (s :: ss) (k + 1)) = some ((mss.getD s []).getD p 0) := by
    rw [LK_newer]
    exact then_const (n := n) b
  cases r with
  | none =>
    have := hr (k + 1) (by rw [List.length_cons]; omega)
    rw [e] at this
    cases this
  | some q =>
    obtain ⟨p', k'⟩ := q
    obtain ⟨a', b', c'⟩ := hr
    have kk : k' ≤ k + 1 := Classical.byContradiction fun z => by
      have := c' (k + 1) (by omega)
      rw [e] at this
      cases this
    have := LK_on hT hs kk b'
    rw [e] at this
    cases this
    exact ⟨k', rfl, kk⟩
end My
namespace My
open PySem PySem.Spec PyProof.Rows L2
/-! ### data of a known depth -/
def Sh (d : PyData) (n : Nat) : Prop := d.canLay0 = true ∧ d.depth ≤ n
theorem Sh.all {n : Nat} : ∀ {ds : List PyData}, (∀ d ∈ ds, Sh d n) → PyData.canLayAll0 ds = true ∧ PyData.depthAll ds ≤ n
  | [], _ => ⟨rfl, Nat.zero_le _⟩
  | d :: ds, h => by
    obtain ⟨a, b⟩ := h d (List.mem_cons_self ..)
    obtain ⟨c, e⟩ := Sh.all (ds := ds) fun x hx => h x (List.mem_cons_of_mem _ hx)
    refine ⟨?_, ?_⟩
    · simp [PyData.canLayAll0, a, c]
    · simp only [PyData.depthAll]
      omega
theorem Sh.tup {n : Nat} {ds : List PyData} (h : ∀ d ∈ ds, Sh d n) : Sh (.tuple ds) (n + 1) := by
  obtain ⟨a, b⟩ := Sh.all h
  refine ⟨?_, ?_⟩
  · simp [PyData.canLay0, a]
  · simp only [PyData.depth]
    omega
theorem Sh.lst {n : Nat} {ds : List PyData} (h : ∀ d ∈ ds, Sh d n) : Sh (.list ds) (n + 1) := by
  obtain ⟨a, b⟩ := Sh.all h
  refine ⟨?_, ?_⟩
  · simp [PyData.canLay0, a]
  · simp only [PyData.depth]
    omega
theorem Sh.str {n : Nat} {x : Str} (h : (PyData.str x).canLay0 = true) : Sh (.str x) n := ⟨h, Nat.zero_le _⟩
theorem Sh.bl {n : Nat} (b : Bool) : Sh (.bool b) n := ⟨rfl, Nat.zero_le _⟩
theorem Sh.int {n : Nat} (i : Int) : Sh (.int i) n := ⟨rfl, Nat.zero_le _⟩
theorem Sh.non {n : Nat} : Sh .none n := ⟨rfl, Nat.zero_le _⟩
theorem Sh.mono {d : PyData} {n m : Nat} (h : Sh d n) (l : n ≤ m) : Sh d m := ⟨h.1, Nat.le_trans h.2 l⟩
theorem Sh.ints {n : Nat} (ns : List Int) : ∀ d ∈ ns.map PyData.int, Sh d n := fun d hd => by
  obtain ⟨i, _, rfl⟩ := List.mem_map.mp hd
  exact .int i
theorem Sh.set (ps : List Nat) : Sh (setD ps) 1 := .tup (.ints _)
theorem Sh.listD (ps : List Nat) : Sh (listD ps) 1 := .lst (.ints _)
theorem Sh.shaped {d : PyData} {n : Nat} (h : Sh d n) (l : n ≤ 60) : SeqAt.shaped d = true := by
  unfold SeqAt.shaped
  rw [h.1, decide_eq_true (show d.depth ≤ 64 by have := h.2; omega)]
  rfl
theorem rd_neSh {K : PySem.W.Frag} {H : Hp} {Q : VK} {x y : V} {d : PyData} {n : Nat} (hx : Dp K H x d) (hy : Dp K H y d) (h : Sh d n) (l : n ≤ 60) (q : Q (.bl false) H) : rNeD K x y H Q := by
  refine ⟨d, d, hx, hy, h.shaped l, h.shaped l, ?_⟩
  rw [SeqAt.eqv_refl d h.1]
  exact q
theorem rd_eqSh {K : PySem.W.Frag} {H : Hp} {Q : VK} {x y : V} {d : PyData} {n : Nat} (hx : Dp K H x d) (hy : Dp K H y d) (h : Sh d n) (l : n ≤ 60) (q : Q (.bl true) H) : rEqD K x y H Q := by
  refine ⟨d, d, hx, hy, h.shaped l, h.shaped l, ?_⟩
  rw [SeqAt.eqv_refl d h.1]
  exact q
/-! ### things that are signs, and things that are none -/
def SignV (m : Nat) (x : V) : Prop := ∃ k : Nat, x = .int (k : Int) ∧ k < m
/-- a thing that is no number -/
def NoNum (H : Hp) (x : V) : Prop := (∃ b, x = .bl b) ∨ x = .non ∨ (∃ s, x = .str s ∧ (PyData.str s).canLay0 = true) ∨ ∃ (p : Addr) (ns : List Int), x = .ref p ∧ (H p = some (.lst (ns.map V.int)) ∨ H p = some (.tup (ns.map V.int)))
def OddV (H : Hp) (m : Nat) (x : V) : Prop := (∃ n : Int, x = .int n ∧ (n < 0 ∨ (m : Int) ≤ n)) ∨ NoNum H x
theorem NoNum.same {H H' : Hp} {x : V} (h : NoNum H x) (e : Same H H') : NoNum H' x := by
  rcases h with h | h | h | ⟨p, ys, rfl, h⟩
  · exact .inl h
  · exact .inr (.inl h)
  · exact .inr (.inr (.inl h))
  · exact .inr (.inr (.inr ⟨p, ys, rfl, h.imp (e _ _) (e _ _)⟩))
theorem OddV.same {H H' : Hp} {m : Nat} {x : V} (h : OddV H m x) (e : Same H H') : OddV H' m x := h.imp id fun z => z.same e
/-- its data -/
theorem NoNum.dp {K : PySem.W.Frag} {H : Hp} {x : V} (h : NoNum H x) : ∃ d, Dp K H x d ∧ Sh d 1 := by
  rcases h with ⟨b, rfl⟩ | rfl | ⟨s, rfl, hs⟩ | ⟨p, ns, rfl, h | h⟩
  · exact ⟨_, .bl b, .bl b⟩
  · exact ⟨_, .non, .non⟩
  · exact ⟨_, .str s, .str hs⟩
  · exact ⟨_, .lst (SqL.of h) (dp_ints ns), .lst (.ints ns)⟩
  · exact ⟨_, .tup (SqT.of h) (dp_ints ns), .tup (.ints ns)⟩
theorem OddV.dp {K : PySem.W.Frag} {H : Hp} {m : Nat} {x : V} (h : OddV H m x) : ∃ d, Dp K H x d ∧ Sh d 1 := by
  rcases h with ⟨n, rfl, _⟩ | h
  · exact ⟨_, .int n, .int n⟩
  · exact h.dp
end My
namespace My
open PySem PySem.Spec PyProof.Rows L2
/-! ### methods that may raise -/
structure MtX (P : Program) (w : World) (K : PySem.W.Frag) (mg : Str → Option Value) (base : Heap) (CX : CXT) (k : Nat) (C : Addr) (m : Str) (ps : List Str) (sp : Sp) : Prop where
  ex : ∃ (f : Addr) (fd : FuncData), Meth K C m f ∧ FnOk P w K mg base CX k f fd ps sp ∧ Binds K fd ps []
def tMethES (C : Addr) (m : Str) (sp : Sp) (ES : L2.St → XK) (ta : TE) (t : TA) : TE := fun σ H Q => ta σ H fun x H1 => ∃ a dx fs, x = .ref a ∧ H1 a = some (.ins C dx fs) ∧ fs.lookup m = none ∧ t σ H1 fun vs H2 => sp (x :: vs) H2 Q (ES σ)
section
variable {X : Cx} {CX : CXT} {k : Nat} {C : Addr} {sp : Sp} {m : Str} {ps : List Str} {o e : Expr} {es : List Expr} {ta : TE} {t : TA} {apos pos : Pos} {E : XK} {ES : L2.St → XK}
theorem pe_mtX {pl : Sem Bool} (D : MtX X.prog X.w X.K X.mg X.base CX k C m ps sp) (he : PE X o ta) (c : Cls X.K C) (hr : Room k X.A) (hx : Passes CX X E) (ha : PA X (e :: es) t)
    (hst : starEach (e :: es) X.env = (false, eval e X.env) :: starEach es X.env := by rfl) (hpl : (backTo pos (starEach es X.env)).any (·.1) = false := by rfl)
    (ht : eval (.Call (.Attribute o m apos) (e :: es) [] pos) X.env = (do
      let ov ← eval o X.env
      standAt apos.atName
      let (f, first) ← holding [ov] (getMethod ov m pl)
      callWith pos f first (backTo pos (starEach (e :: es) X.env)) (backToKw pos (keywordEach [] X.env))) := by rfl) :
    PE X (.Call (.Attribute o m apos) (e :: es) [] pos) (tMeth C m sp [] E ta t) := by
  obtain ⟨f, fd, hm, F, b⟩ := D.ex
  exact pe_meth (pl := pl) he c hm F hr b .nil hx ha hst hpl ht
theorem pe_mtXS {pl : Sem Bool} (D : MtX X.prog X.w X.K X.mg X.base CX k C m ps sp) (he : PE X o ta) (c : Cls X.K C) (hr : Room k X.A) (hx : ∀ σ, PassesAt CX X σ (ES σ)) (ha : PA X (e :: es) t)
    (hst : starEach (e :: es) X.env = (false, eval e X.env) :: starEach es X.env := by rfl) (hpl : (backTo pos (starEach es X.env)).any (·.1) = false := by rfl)
    (ht : eval (.Call (.Attribute o m apos) (e :: es) [] pos) X.env = (do
      let ov ← eval o X.env
      standAt apos.atName
      let (f, first) ← holding [ov] (getMethod ov m pl)
      callWith pos f first (backTo pos (starEach (e :: es) X.env)) (backToKw pos (keywordEach [] X.env))) := by rfl) :
    PE X (.Call (.Attribute o m apos) (e :: es) [] pos) (tMethES C m sp ES ta t) := by
  obtain ⟨f, fd, hm, F, b⟩ := D.ex
  refine ⟨fun pins s σ H Q I h => ?_⟩
  refine PySem.W.methodCall_KW (pl := pl) (thn (he.run pins s σ H _ I h) fun u s1 ⟨x, H1, I1, rx, a, dx, fs, ex, ea, l, q⟩ => ?_) ht
  subst ex
  obtain rfl : u = Value.ref a := rx
  refine getmeth_ok I1 ea c hm l ?_
  refine PySem.W.callWith_K (first := [.ref a]) (h₀ := X.base) I.ok.mod.kin hm.kp (thn (ha.run pos pins s1 σ H1 _ I1 q) fun us s2 ⟨vs, H2, I2, r, q2⟩ => ⟨I2.kIn, ?_⟩) hst hpl
  exact run_fnS (us := .ref a :: us) (vs := .ref a :: vs) F hr b (hx σ) I2 (.cons rfl r) q2
end
def kMethX (C : Addr) (m : Str) (sp : Sp) (E : XK) (σ : L2.St) (t : TA) (Q : VK) : VK := fun x H1 => ∃ a dx fs, x = .ref a ∧ H1 a = some (.ins C dx fs) ∧ fs.lookup m = none ∧ t σ H1 fun vs H2 => sp (x :: (vs ++ [])) H2 Q E
section
variable {C : Addr} {sp : Sp} {m : Str} {ta : TE} {t : TA} {E : XK} {ES : L2.St → XK} {σ : L2.St} {H : Hp} {Q : VK}
theorem rd_methX (h : ta σ H (kMethX C m sp E σ t Q)) : tMeth C m sp [] E ta t σ H Q := h
theorem rd_kMethX {a dx : Addr} {fs : List (Str × V)} (ho : H a = some (.ins C dx fs)) (hl : fs.lookup m = none) (h : t σ H fun vs H2 => sp (.ref a :: (vs ++ [])) H2 Q E) : kMethX C m sp E σ t Q (.ref a) H := ⟨a, dx, fs, rfl, ho, hl, h⟩
def kMethS (C : Addr) (m : Str) (sp : Sp) (E : XK) (σ : L2.St) (t : TA) (Q : VK) : VK := fun x H1 => ∃ a dx fs, x = .ref a ∧ H1 a = some (.ins C dx fs) ∧ fs.lookup m = none ∧ t σ H1 fun vs H2 => sp (x :: vs) H2 Q E
theorem rd_methS (h : ta σ H (kMethS C m sp (ES σ) σ t Q)) : tMethES C m sp ES ta t σ H Q := h
theorem rd_kMethS {a dx : Addr} {fs : List (Str × V)} (ho : H a = some (.ins C dx fs)) (hl : fs.lookup m = none) (h : t σ H fun vs H2 => sp (.ref a :: vs) H2 Q E) : kMethS C m sp E σ t Q (.ref a) H := ⟨a, dx, fs, rfl, ho, hl, h⟩
end
end My
namespace My
open PySem PySem.Spec PyProof.Rows L2
/-! ### reading once, block by block -/
def blkAt (long : Nat) (word : List Nat) (k : Nat) : List Nat := (word.drop (k * long)).take long
/-- the state st behind k blocks, and the blocks to come -/
def readO (mss : List (List Nat)) (n : Nat) : Option Nat → Nat → List (List Nat) → Option (Nat × Nat)
  | _, _, [] => none
  | none, k, b :: r => readO mss n (pall (wmap mss n b)) (k + 1) r
  | some s, k, b :: r => if (pall (wmap mss n b)).isSome then some (s, k + 1) else readO mss n (some (follow mss b s)) (k + 1) r
def blocksOf (long : Nat) (word : List Nat) : List (List Nat) := (List.range (word.length / long)).map (blkAt long word)
def onceF (mss : List (List Nat)) (n long : Nat) (word : List Nat) : Option (Nat × Nat) := readO mss n none 0 (blocksOf long word)
theorem blocks_drop {long : Nat} {word : List Nat} {i : Nat} (h : i < word.length / long) : (blocksOf long word).drop i = blkAt long word i :: (blocksOf long word).drop (i + 1) := by
  have hl : i < (blocksOf long word).length := by unfold blocksOf; rw [List.length_map, List.length_range]; exact h
  rw [List.drop_eq_getElem_cons hl]
  congr 1
  simp [blocksOf]
theorem blocks_end {long : Nat} {word : List Nat} : (blocksOf long word).drop (word.length / long) = [] := by
  refine List.drop_eq_nil_of_le ?_
  unfold blocksOf
  rw [List.length_map, List.length_range]
  exact Nat.le_refl _
/-- the blocks ahead of i that meet -/
def metTo (mss : List (List Nat)) (n long : Nat) (word : List Nat) (i : Nat) : List Nat := (List.range i).filter fun k => (pall (wmap mss n (blkAt long word k))).isSome
theorem metTo_succ {mss : List (List Nat)} {n long : Nat} {word : List Nat} {i : Nat} : metTo mss n long word (i + 1) = metTo mss n long word i ++ if (pall (wmap mss n (blkAt long word i))).isSome then [i] else [] := by
  unfold metTo
  rw [List.range_succ, List.filter_append]
  congr 1
  cases h : (pall (wmap mss n (blkAt long word i))).isSome <;> simp [h]
theorem metTo_more {mss : List (List Nat)} {n long : Nat} {word : List Nat} {i j : Nat} (h : i ≤ j) : ∃ rest, metTo mss n long word j = metTo mss n long word i ++ rest := by
  obtain ⟨d, rfl⟩ : ∃ d, j = i + d := ⟨j - i, by omega⟩
  unfold metTo
  rw [List.range_add, List.filter_append]
  exact ⟨_, rfl⟩
def seg (long : Nat) (word : List Nat) (m k : Nat) : List Nat := (word.take (k * long)).drop (m * long)
theorem seg_succ {long : Nat} {word : List Nat} {m k : Nat} (h : m ≤ k) (hk : k * long ≤ word.length) : seg long word m (k + 1) = seg long word m k ++ blkAt long word k := by
  unfold seg blkAt
  rw [Nat.succ_mul, List.take_add]
  refine List.drop_append_of_le_length ?_
  rw [List.length_take]
  have := Nat.mul_le_mul_right long h
  omega
theorem seg_one {long : Nat} {word : List Nat} {k : Nat} (hk : k * long ≤ word.length) : seg long word k (k + 1) = blkAt long word k := by
  rw [seg_succ (Nat.le_refl _) hk]
  have : seg long word k k = [] := by
    unfold seg
    refine List.drop_eq_nil_of_le ?_
    rw [List.length_take]
    omega
  rw [this, List.nil_append]
theorem pall_wmap {mss : List (List Nat)} {n s : Nat} {w : List Nat} (h1 : 1 ≤ n) : pall (wmap mss n w) = some s ↔ ∀ x, x < n → follow mss w x = s := by
  rw [pall_some]
  unfold wmap
  constructor
  · rintro ⟨_, h⟩ x hx
    exact h _ (List.mem_map.mpr ⟨x, List.mem_range.mpr hx, rfl⟩)
  · intro h
    refine ⟨fun e => ?_, fun m hm => ?_⟩
    · have := congrArg List.length e
      rw [List.length_map, List.length_range] at this
      simp at this
      omega
    · obtain ⟨x, hx, rfl⟩ := List.mem_map.mp hm
      exact h x (List.mem_range.mp hx)
/-- what is told by reading once, by the blocks that meet -/
def OnceIs (mss : List (List Nat)) (n long : Nat) (word : List Nat) : Option (Nat × Nat) → Prop
  | none => (metTo mss n long word (word.length / long)).length < 2
  | some (s, k) => ∃ m m2 rest, m < m2 ∧ m2 < word.length / long ∧ k = m2 + 1 ∧ metTo mss n long word (word.length / long) = m :: m2 :: rest ∧ ∀ x, x < n → follow mss (seg long word m m2) x = s
def OnceInv (mss : List (List Nat)) (n long : Nat) (word : List Nat) (i : Nat) : Option Nat → Prop
  | none => metTo mss n long word i = []
  | some s => s < n ∧ ∃ m, m < i ∧ metTo mss n long word i = [m] ∧ ∀ x, x < n → follow mss (seg long word m i) x = s
theorem SgOk.blk {mss : List (List Nat)} {ss : List Nat} (h : SgOk mss ss) (long k : Nat) : SgOk mss (blkAt long ss k) := fun s hs => h s (List.mem_of_mem_drop (List.mem_of_mem_take hs))
theorem OnceInv.go {mss : List (List Nat)} {n long : Nat} {word : List Nat} (hT : TOk n mss) (hs : SgOk mss word) {i : Nat} (hi : i * long ≤ word.length) : OnceInv mss n long word i none → OnceInv mss n long word (i + 1) (pall (wmap mss n (blkAt long word i))) := by
  intro h
  have h' : metTo mss n long word i = [] := h
  cases q : pall (wmap mss n (blkAt long word i)) with
  | none =>
    show metTo mss n long word (i + 1) = []
    rw [metTo_succ, h', q]
    rfl
  | some s =>
    have hq := (pall_wmap hT.1).mp q
    refine ⟨?_, i, by omega, ?_, ?_⟩
    · rw [← hq 0 hT.1]
      exact follow_lt hT (hs.blk _ _) hT.1
    · rw [metTo_succ, h', q]
      rfl
    · rw [seg_one hi]
      exact hq
theorem OnceInv.on {mss : List (List Nat)} {n long : Nat} {word : List Nat} (hT : TOk n mss) (hs : SgOk mss word) {i s : Nat} (hi : i * long ≤ word.length) (q : pall (wmap mss n (blkAt long word i)) = none) : OnceInv mss n long word i (some s) → OnceInv mss n long word (i + 1) (some (follow mss (blkAt long word i) s)) := by
  rintro ⟨h0, m, h1, h2, h3⟩
  refine ⟨follow_lt hT (hs.blk _ _) h0, m, by omega, ?_, fun x hx => ?_⟩
  · rw [metTo_succ, h2, q]
    rfl
  · rw [seg_succ (by omega) hi, follow_app, h3 x hx]
theorem readO_is {mss : List (List Nat)} {n long : Nat} {word : List Nat} (hT : TOk n mss) (hs : SgOk mss word) (hl : 0 < long) : ∀ d i st, i + d = word.length / long → OnceInv mss n long word i st → OnceIs mss n long word (readO mss n st i ((blocksOf long word).drop i))
  | 0, i, st, e, h => by
    have e' : i = word.length / long := by omega
    subst e'
    rw [blocks_end]
    have : readO mss n st (word.length / long) [] = none := by cases st <;> rfl
    rw [this]
    show (metTo mss n long word (word.length / long)).length < 2
    cases st with
    | none =>
      have h' : metTo mss n long word (word.length / long) = [] := h
      rw [h']
      decide
    | some s =>
      obtain ⟨_, m, _, h2, _⟩ := h
      rw [h2]
      exact Nat.lt_succ_self 1
  | d + 1, i, st, e, h => by
    have hi : i < word.length / long := by omega
    have hil : i * long ≤ word.length := Nat.le_trans (Nat.mul_le_mul_right long (Nat.le_of_lt hi)) (Nat.div_mul_le_self _ _)
    rw [blocks_drop hi]
    cases st with
    | none => exact readO_is hT hs hl d (i + 1) _ (by omega) (h.go hT hs hil)
    | some s =>
      show OnceIs mss n long word (if (pall (wmap mss n (blkAt long word i))).isSome then some (s, i + 1) else readO mss n (some (follow mss (blkAt long word i) s)) (i + 1) _)
      cases q : pall (wmap mss n (blkAt long word i)) with
      | none =>
        rw [if_neg (by simp)]
        exact readO_is hT hs hl d (i + 1) _ (by omega) (h.on hT hs hil q)
      | some y =>
        rw [if_pos (show (some y).isSome = true from rfl)]
        obtain ⟨h0, m, h1, h2, h3⟩ := h
        have e2 : metTo mss n long word (i + 1) = [m, i] := by rw [metTo_succ, h2, q]; rfl
        obtain ⟨rest, hr⟩ := metTo_more (mss := mss) (n := n) (long := long) (word := word) (show i + 1 ≤ word.length / long by omega)
        exact ⟨m, i, rest, h1, hi, rfl, by rw [hr, e2]; rfl, h3⟩
theorem onceF_is {mss : List (List Nat)} {n long : Nat} {word : List Nat} (hT : TOk n mss) (hs : SgOk mss word) (hl : 0 < long) : OnceIs mss n long word (onceF mss n long word) := by
  have := readO_is hT hs hl (word.length / long) 0 none (by omega) (show metTo mss n long word 0 = [] from rfl)
  rw [List.drop_zero] at this
  exact this
/-- the signs of a segment, looked at from the last one back -/
theorem once_elder {mss : List (List Nat)} {n long : Nat} {word : List Nat} (hT : TOk n mss) (hs : SgOk mss word) {m m2 s : Nat} (h : m < m2) (hl : m2 * long ≤ word.length) (hx : ∀ x, x < n → follow mss (seg long word m m2) x = s) {r : Option (Nat × Nat)} (hr : IsDrawn mss n (word.take (m2 * long)).reverse r) :
    ∃ k, r = some (s, k) ∧ k ≤ (m2 - m) * long := by
  have hk : pall (LK mss n (word.take (m2 * long)).reverse ((m2 - m) * long)) = some s := by
    unfold LK
    rw [List.take_reverse, List.reverse_reverse]
    refine (pall_wmap hT.1).mpr ?_
    have e : (word.take (m2 * long)).length - (m2 - m) * long = m * long := by
      rw [List.length_take, Nat.min_eq_left hl, Nat.sub_mul]
      have := Nat.mul_le_mul_right long (Nat.le_of_lt h)
      omega
    rw [e]
    exact hx
  have hle : (m2 - m) * long ≤ (word.take (m2 * long)).reverse.length := by
    rw [List.length_reverse, List.length_take, Nat.min_eq_left hl]
    exact Nat.mul_le_mul_right long (Nat.sub_le _ _)
  cases r with
  | none =>
    have := hr _ hle
    rw [hk] at this
    cases this
  | some q =>
    obtain ⟨p, k⟩ := q
    obtain ⟨a, b, c⟩ := hr
    have hkk : k ≤ (m2 - m) * long := Classical.byContradiction fun z => by
      have := c ((m2 - m) * long) (by omega)
      rw [hk] at this
      cases this
    have := LK_on hT (hs.take (m2 * long)).rev hkk b
    rw [hk] at this
    cases this
    exact ⟨k, rfl, hkk⟩
/-- all signs ahead of the block that told it lead all places there -/
theorem once_ahead {mss : List (List Nat)} {n long : Nat} {word : List Nat} (hT : TOk n mss) (hs : SgOk mss word) {m m2 s : Nat} (h : m < m2) (hl : m2 * long ≤ word.length) (hx : ∀ x, x < n → follow mss (seg long word m m2) x = s) : wmap mss n (word.take (m2 * long)) = List.replicate n s := by
  have e : word.take (m2 * long) = word.take (m * long) ++ seg long word m m2 := by
    unfold seg
    have := List.take_append_drop (m * long) (word.take (m2 * long))
    rw [List.take_take, Nat.min_eq_left (Nat.mul_le_mul_right long (Nat.le_of_lt h))] at this
    exact this.symm
  refine List.eq_replicate_iff.mpr ⟨by unfold wmap; rw [List.length_map, List.length_range], fun b hb => ?_⟩
  unfold wmap at hb
  obtain ⟨x, hx', rfl⟩ := List.mem_map.mp hb
  rw [e, follow_app]
  exact hx _ (follow_lt hT (hs.take _) (List.mem_range.mp hx'))
theorem cut_sub {xs : List V} {a b : Nat} (h : a ≤ b) (hb : b ≤ xs.length) : cutV xs (some (a : Int)) (some (b : Int)) = (xs.drop a).take (b - a) := by
  unfold cutV
  rw [HT.sIx_nat, HT.sIx_nat, Nat.min_eq_left hb, Nat.min_eq_left (Nat.le_trans h hb)]
theorem cut_blk {long : Nat} {word : List Nat} {k : Nat} (h : k < word.length / long) : cutV ((nz word).map V.int) (some ((k * long : Nat) : Int)) (some (((k + 1) * long : Nat) : Int)) = (nz (blkAt long word k)).map V.int := by
  have e : (k + 1) * long ≤ word.length := Nat.le_trans (Nat.mul_le_mul_right long h) (Nat.div_mul_le_self _ _)
  rw [cut_sub (by rw [Nat.succ_mul]; omega) (by rw [nz_len]; exact e)]
  unfold blkAt nz
  rw [← List.map_drop, ← List.map_drop, ← List.map_take, ← List.map_take, show (k + 1) * long - k * long = long from by rw [Nat.succ_mul]; omega]
end My
namespace My
open PySem PySem.Spec PyProof.Rows L2
section
variable {X : Cx}
/-- out: unlike numbers, just those of ns -/
def JustIn (out ns : List Int) : Prop := out.Nodup ∧ ∀ k, k ∈ out ↔ k ∈ ns
/-- len(set(t)), of a tuple -/
def tLenSetT (K : PySem.W.Frag) (ta : TE) : TE := fun σ H Q => ta σ H fun x H1 => ∃ (l : Addr) (ns : List Int), x = V.ref l ∧ SqT K H1 l (ns.map V.int) ∧ ns.length < 64 ∧ ∀ out, JustIn out ns → Q (.int (out.length : Nat)) H1
theorem pe_lenSetT {a : Expr} {ta : TE} {p p2 q pos : Pos} (hc : X.calm = true) (hg : Gl X "len") (hm : X.mg "len" = none) (hg2 : Gl X "set") (hm2 : X.mg "set" = none) (ha : PE X a ta)
    (na : starEach [a] X.env = (false, eval a X.env) :: starEach [] X.env := by rfl) : PE X (.Call (.Name "len" p) [.Call (.Name "set" p2) [a] [] q] [] pos) (tLenSetT X.K ta) := by
  refine ⟨fun pins s σ H Q I h => ?_⟩
  refine Call_ (ld_blt I hg hm PySem.boot_len ?_)
  refine PyProof.Rows.callWith_builtin1 (PyProof.Rows.args_cons ?_ rfl) rfl rfl
  refine Call_ (ld_blt I hg2 hm2 PyProof.Rows.boot_set ?_)
  refine PyProof.Rows.callWith_type1 (PyProof.Rows.args_cons (thn (ha.run pins s σ H _ I h) fun v s1 ⟨x, H1, I1, r1, q1⟩ => PyProof.Rows.args_nil ?_) na) na rfl
  obtain ⟨l, ns, rfl, hq, h1, q1⟩ := q1
  cases r1
  obtain ⟨its, rv, pt, hz⟩ := I1.tuple hq
  have hi : IntsAre its.toArray.toList ns := ints_of_vals rv
  have hd := I1.ok.hd hc
  refine call_set_tupI ns hd (show s1.heap.IsTuple l its.toArray from pt) hi (by unfold scanBound; omega) fun h' tk c R1 hcn kp => ?_
  obtain ⟨o, es, ep, t, ho, hex, hdt, g, nd, hm2, hb, hf, hn, hr, hl2⟩ := R1
  refine PyProof.Rows.args_nil ?_
  have I2 : Inv X pins σ H1 { s1 with heap := h', toks := tk } := I1.kept fun b o e => kp b o e
  have he : JustIn (es.toList.map keyOf) ns := ⟨nd, fun k => by rw [← hm2 k, decide_eq_true_eq]⟩
  have hl : (es.toList.map keyOf).length = es.size := by rw [List.length_map, Array.length_toList]
  have hle : es.size ≤ ns.length := by
    rw [← hl]
    exact he.1.length_le_of_subset fun k hk => (he.2 k).mp hk
  refine call_len_set ho hex hdt hf (by omega) ⟨.int ((es.toList.map keyOf).length : Nat), H1, I2.tok _, ⟨_, by rw [hl]⟩, q1 _ he⟩
end
theorem justIn_one {out : List Int} {ms : List Nat} (h : JustIn out (nz ms)) : out.length = 1 ↔ pall ms ≠ none := by
  obtain ⟨h1, h2⟩ := h
  constructor
  · intro e z
    obtain ⟨q, rfl⟩ : ∃ q, out = [q] := by
      cases out with
      | nil => cases e
      | cons q r =>
        cases r with
        | nil => exact ⟨q, rfl⟩
        | cons y r => simp at e
    have hq := (h2 q).mp (List.mem_singleton.mpr rfl)
    obtain ⟨m, hm, rfl⟩ := List.mem_map.mp hq
    have : pall ms = some m := pall_some.mpr ⟨(fun e => by rw [e] at hm; cases hm), fun x hx => by
      have := (h2 (x : Int)).mpr (List.mem_map.mpr ⟨x, hx, rfl⟩)
      have := List.mem_singleton.mp this
      omega⟩
    rw [z] at this
    cases this
  · intro h
    obtain ⟨p, hp⟩ : ∃ p, pall ms = some p := by
      cases e : pall ms with
      | none => exact absurd e h
      | some p => exact ⟨p, rfl⟩
    obtain ⟨h3, h4⟩ := pall_some.mp hp
    have all : ∀ k ∈ out, k = (p : Int) := fun k hk => by
      obtain ⟨m, hm, rfl⟩ := List.mem_map.mp ((h2 k).mp hk)
      rw [h4 m hm]
    have hin : (p : Int) ∈ out := (h2 _).mpr (List.mem_map.mpr ⟨p, by
      cases ms with
      | nil => exact absurd rfl h3
      | cons m r => rw [← h4 m (List.mem_cons_self ..)]; exact List.mem_cons_self .., rfl⟩)
    cases out with
    | nil => cases hin
    | cons a r =>
      cases r with
      | nil => rfl
      | cons b r =>
        have ea := all a (List.mem_cons_self ..)
        have eb := all b (List.mem_cons_of_mem _ (List.mem_cons_self ..))
        rw [ea, eb] at h1
        simp at h1
end My
namespace My
open PySem PySem.Spec PyProof.Rows L2
section
variable {X : Cx}
/-- repr of a thing without an address -/
def atomText : V → Option Str
  | .int i => if i.natAbs.log2 < 1920 then some (toString i) else none
  | .bl b => some (if b then "True" else "False")
  | .non => some "None"
  | .str s => if (reprText s).length ≤ sizeLine then some (reprText s) else none
  | _ => none
/-- repr of data or of a thing without an address -/
def rReprX (K : PySem.W.Frag) : List V → Hp → VK → Prop := fun vs H Q => rRepr K vs H Q ∨ ∃ v t, vs = [v] ∧ atomText v = some t ∧ Q (.str t) H
theorem cr_reprX (hu : X.A.units + 64 < cLine) (hg : X.A.guards = some []) : CallR X (.builtin "repr") (rReprX X.K) := by
  intro pins s σ H vs us Q I r h
  rcases h with h | ⟨v, t, rfl, ht, q⟩
  · exact cr_repr hu hg pins s σ H vs us Q I r h
  · obtain ⟨u, rfl, ru⟩ := vals1 r
    cases v with
    | int i =>
      obtain ⟨tk, rfl⟩ := ru
      unfold atomText at ht
      dsimp only at ht
      split at ht
      · rename_i c
        cases ht
        exact PySem.P.repr_of_int c ⟨.str _, H, I.tok _, ⟨_, rfl⟩, q⟩
      · cases ht
    | bl b =>
      cases (show u = Value.bool b from ru)
      cases ht
      exact PySem.P.repr_of_bool ⟨.str _, H, I.tok _, ⟨_, rfl⟩, q⟩
    | non =>
      cases (show u = Value.none from ru)
      cases ht
      exact PySem.P.repr_of_none ⟨.str _, H, I.tok _, ⟨_, rfl⟩, q⟩
    | str x =>
      obtain ⟨tk, rfl⟩ := ru
      unfold atomText at ht
      dsimp only at ht
      split at ht
      · rename_i c
        cases ht
        exact PySem.P.repr_of_str ⟨.str _, H, I.tok _, ⟨_, rfl⟩, q⟩ c
      · cases ht
    | _ => cases ht
end
section
variable {K : PySem.W.Frag} {H : Hp} {Q : VK}
def drText : Option (Nat × Nat) → Str
  | none => "None"
  | some (p, k) => (setD [p, k]).shown
theorem rd_reprDr {v : V} {r : Option (Nat × Nat)} (h : DrAt K H v r) (hb : ∀ p k, r = some (p, k) → p < 1000000 ∧ k < 1000000) (q : Q (.str (drText r)) H) : rReprX K [v] H Q := by
  cases r with
  | none =>
    cases (show v = .non from h)
    exact .inr ⟨.non, "None", rfl, rfl, q⟩
  | some pk =>
    obtain ⟨p, k⟩ := pk
    obtain ⟨t, rfl, ht⟩ := h
    obtain ⟨h1, h2⟩ := hb p k rfl
    refine .inl (rd_reprN (m := 3) (n := 1) (dp_set (ps := [p, k]) (SqT.of ht)) (nice_set (ps := [p, k]) fun x hx => ?_) (by decide) (by decide) q)
    simp only [List.mem_cons, List.not_mem_nil, or_false] at hx
    rcases hx with rfl | rfl <;> assumption
theorem rd_neText {s : Str} (q : Q (.bl false) H) : rNe (.str s) (.str s) H Q := by
  refine ⟨rfl, ?_⟩
  rw [decide_eq_true rfl]
  exact q
end
end My
namespace My
open PySem PySem.Spec PyProof.Rows L2
/-! ### dicts whose keys are tuples that the program made -/
def kN (k : List Nat) : List Key := (nz k).map Sum.inl
theorem kN_kV (k : List Nat) : (kN k).map kV = (nz k).map V.int := by
  unfold kN
  rw [List.map_map]
  rfl
theorem kN_inj {a b : List Nat} (h : kN a = kN b) : a = b := by
  unfold kN at h
  induction a generalizing b with
  | nil =>
    cases b with
    | nil => rfl
    | cons y b => cases h
  | cons x a ih =>
    cases b with
    | nil => cases h
    | cons y b =>
      have h' : (Sum.inl (x : Int) : Key) :: (nz a).map Sum.inl = Sum.inl (y : Int) :: (nz b).map Sum.inl := h
      injection h' with h1 h2
      injection h1 with h1
      rw [ih h2, show x = y by omega]
def RawD (P : Program) (w : World) (a : Addr) (xs : List (List Key × Addr × Value)) (h : Heap) : Prop := ∃ o es ep, h.get? a = some o ∧ o.ExactDict ∧ o.data = .dict es ep ∧ es.toList = xs.map (entryOfKey (tupleKind (mixKind P w))) ∧ (xs.map (·.1)).Nodup
def dictO (P : Program) (w : World) (a : Addr) (xs : List (List Key × Addr × Value)) : HO := .ext (RawD P w a xs)
abbrev FK := List (Addr × List Nat × V)
abbrev PairF (H : Hp) : FK → List (List Key × Addr × Value) → Prop := Paired fun p q => q.1 = kN p.2.1 ∧ q.2.1 = p.1 ∧ FrT H p.1 ((nz p.2.1).map V.int) ∧ RelV p.2.2 q.2.2
/-- at a stands a dict: each key where it stands, what it is, and what the dict has there -/
def DFr (P : Program) (w : World) (H : Hp) (a : Addr) (kvs : FK) : Prop := ∃ xs, H a = some (dictO P w a xs) ∧ kvs.length ≤ sizeLine ∧ (a == sysModules) = false ∧ PairF H kvs xs
def lookF (kvs : FK) (k : List Nat) : Option V := (kvs.find? fun p => decide (p.2.1 = k)).map (·.2.2)
def putD (kvs : FK) (b : Addr) (k : List Nat) (v : V) : FK := if (lookF kvs k).isSome then kvs.map (fun p => if p.2.1 = k then (p.1, p.2.1, v) else p) else kvs ++ [(b, k, v)]
theorem lookF_pos {p : Addr × List Nat × V} {kvs : FK} {k : List Nat} (e : p.2.1 = k) : lookF (p :: kvs) k = some p.2.2 := by simp [lookF, List.find?_cons, e]
theorem lookF_neg {p : Addr × List Nat × V} {kvs : FK} {k : List Nat} (e : ¬ p.2.1 = k) : lookF (p :: kvs) k = lookF kvs k := by simp [lookF, List.find?_cons, e]
section
variable {P : Program} {w : World} {H H' : Hp} {h : Heap} {a b : Addr} {kvs : FK} {xs : List (List Key × Addr × Value)}
theorem key_ofF {k : List Nat} (ok : HOk P w H h) (e : FrT H b ((nz k).map V.int)) : (tupleKind (mixKind P w)).is h (kN k) b := by
  obtain ⟨ob, e1, _, _⟩ := e
  obtain ⟨_, _, its, r, o, h1, h2, n, h3⟩ := (show ObjOk P w H h b (.frz ob (.tup ((nz k).map V.int))) from ok b _ e1)
  exact ⟨o, its.toArray, n, h1, h2, h3, by simpa using items_are (by rw [kN_kV]; exact r)⟩
theorem PairF.val (r : PairF H kvs xs) (k : List Nat) : RelO (lookF kvs k) ((atKey xs (kN k)).map (·.2)) := by
  induction r with
  | nil => exact True.intro
  | @cons p q ps qs h t ih =>
    obtain ⟨h1, _, _, h2⟩ := h
    by_cases e : p.2.1 = k
    · have e' : q.1 = kN k := by rw [h1, e]
      have b : atKey (q :: qs) (kN k) = some q.2 := by simp [atKey, List.find?_cons, e']
      rw [lookF_pos e, b]; exact h2
    · have e' : ¬ q.1 = kN k := fun z => e (kN_inj (by rw [← h1]; exact z))
      have b : atKey (q :: qs) (kN k) = atKey qs (kN k) := by simp [atKey, List.find?_cons, e']
      rw [lookF_neg e, b]; exact ih
theorem PairF.repl (r : PairF H kvs xs) (k : List Nat) {y : V} {u : Value} (ry : RelV y u) : PairF H (kvs.map fun p => if p.2.1 = k then (p.1, p.2.1, y) else p) (xs.map (putAt (kN k) u)) := by
  induction r with
  | nil => exact .nil
  | @cons p q ps qs h t ih =>
    rw [List.map_cons, List.map_cons]
    refine .cons ?_ ih
    obtain ⟨h1, h2, h3, h4⟩ := h
    unfold putAt
    by_cases e : p.2.1 = k
    · rw [if_pos e, if_pos (by rw [h1, e])]; exact ⟨h1, h2, h3, ry⟩
    · rw [if_neg e, if_neg (fun z => e (kN_inj (by rw [← h1]; exact z)))]; exact ⟨h1, h2, h3, h4⟩
theorem PairF.put (r : PairF H kvs xs) (k : List Nat) {y : V} {u : Value} (hb : FrT H b ((nz k).map V.int)) (ry : RelV y u) : PairF H (putD kvs b k y) (storedH xs (kN k) b u) := by
  have e : (lookF kvs k).isSome = (atKey xs (kN k)).isSome := by rw [(r.val k).isSome_eq, Option.isSome_map]
  unfold putD storedH
  rw [e]
  by_cases q : (atKey xs (kN k)).isSome = true
  · rw [if_pos q, if_pos q]; exact r.repl k ry
  · rw [if_neg q, if_neg q]; exact Paired.snoc r ⟨rfl, rfl, hb, ry⟩
theorem PairF.keeps (r : PairF H kvs xs) (ht : ∀ c ys, FrT H c ys → FrT H' c ys) : PairF H' kvs xs := Paired.mapP r fun _ _ z => ⟨z.1, z.2.1, ht _ _ z.2.2.1, z.2.2.2⟩
theorem putD_len (kvs : FK) (b : Addr) (k : List Nat) (v : V) : (putD kvs b k v).length ≤ kvs.length + 1 := by
  unfold putD
  split
  · rw [List.length_map]; omega
  · rw [List.length_append]; exact Nat.le_refl _
theorem dfr_of (ok : HOk P w H h) (D : DFr P w H a kvs) : ∃ xs, H a = some (dictO P w a xs) ∧ kvs.length ≤ sizeLine ∧ (a == sysModules) = false ∧ PairF H kvs xs ∧ h.DictOfH (tupleKind (mixKind P w)) a xs := by
  obtain ⟨xs, e, z, y, r⟩ := D
  obtain ⟨⟨o, es, ep, h1, h2, h3, h4, h5⟩, _, _⟩ := (show ObjOk P w H h a (dictO P w a xs) from ok a _ e)
  refine ⟨xs, e, z, y, r, o, es, ep, h1, h2, h3, h4, fun x hx => ?_, h5⟩
  have all : ∀ {l : FK} {m : List (List Key × Addr × Value)}, PairF H l m → ∀ x ∈ m, (tupleKind (mixKind P w)).is h x.1 x.2.1 := by
    intro l m q
    induction q with
    | nil => intro x hx; exact nomatch hx
    | @cons p q ps qs hq t ih =>
      intro x hx
      rcases List.mem_cons.mp hx with e | hx
      · subst e
        rw [hq.1, hq.2.1]
        exact key_ofF ok hq.2.2.1
      · exact ih x hx
  exact all r x hx
theorem dictO_ok {h : Heap} (hd : h.DictOfH (tupleKind (mixKind P w)) a xs) : ObjOk P w H h a (dictO P w a xs) := by
  obtain ⟨q, es, ep, hq, h2, h3, h4, _, h5⟩ := hd
  refine ⟨⟨q, es, ep, hq, h2, h3, h4, h5⟩, ⟨q, hq⟩, ?_⟩
  rintro h1 h2' ⟨o, es', ep', k1, k2⟩ hk
  exact ⟨o, es', ep', hk _ k1, k2⟩
theorem DFr.same (D : DFr P w H a kvs) (e : ∀ b o, H b = some o → H' b = some o) : DFr P w H' a kvs := by
  obtain ⟨xs, e1, z, y, r⟩ := D
  exact ⟨xs, e _ _ e1, z, y, r.keeps fun c ys ⟨o, q1, q2⟩ => ⟨o, e _ _ q1, q2⟩⟩
end
section
variable {X : Cx} {pins : List (Addr × Obj)} {σ : L2.St} {H : Hp} {s : Shared} {a b : Addr} {v : V} {u r : Value} {A : Around} {E : Value → Shared → Prop} {kvs : FK} {k : List Nat}
theorem f_getItem {Q : Value → Shared → Prop} (hu : A.units + 1 < cLine) (I : Inv X pins σ H s) (D : DFr X.prog X.w H a kvs) (hb : FrT H b ((nz k).map V.int)) (l : lookF kvs k = some v) (h : ∀ w' s', Inv X pins σ H s' → RelV v w' → Q w' s') :
    wpAny (model X.prog X.w) A (getItem (.ref a) (.ref b)) Q E s := by
  obtain ⟨xs, e, z, hd, rel, dd⟩ := dfr_of I.hok D
  obtain ⟨w', hw, rw'⟩ := RelO.some_of (v := v) (o := (atKey xs (kN k)).map (·.2)) (by rw [← l]; exact rel.val k)
  obtain ⟨p, hp, hp2⟩ := Option.map_eq_some_iff.mp hw
  refine wpAny_getItem_heap (tupleKind_room_in1 hu) (key_ofF I.hok hb) dd hp ?_
  rw [hp2]
  exact h w' _ (I.tok _) rw'
theorem f_notIn {Q : Value → Shared → Prop} (hu : A.units + 1 < cLine) (I : Inv X pins σ H s) (D : DFr X.prog X.w H a kvs) (hb : FrT H b ((nz k).map V.int)) (h : ∀ s', Inv X pins σ H s' → Q (.bool (!(lookF kvs k).isSome)) s') :
    wpAny (model X.prog X.w) A (compareOp .NotIn (.ref b) (.ref a)) Q E s := by
  obtain ⟨xs, e, z, hd, rel, dd⟩ := dfr_of I.hok D
  refine wpAny_notIn_heap (tupleKind_room_in1 hu) (key_ofF I.hok hb) hd dd ?_
  have q := (rel.val k).isSome_eq
  rw [Option.isSome_map] at q
  rw [← q]
  exact h _ (I.tok _)
theorem f_in {Q : Value → Shared → Prop} (hu : A.units + 1 < cLine) (I : Inv X pins σ H s) (D : DFr X.prog X.w H a kvs) (hb : FrT H b ((nz k).map V.int)) (h : ∀ s', Inv X pins σ H s' → Q (.bool (lookF kvs k).isSome) s') :
    wpAny (model X.prog X.w) A (compareOp .In (.ref b) (.ref a)) Q E s := by
  obtain ⟨xs, e, z, hd, rel, dd⟩ := dfr_of I.hok D
  refine wpAny_in_heap (tupleKind_room_in1 hu) (key_ofF I.hok hb) hd dd ?_
  have q := (rel.val k).isSome_eq
  rw [Option.isSome_map] at q
  rw [← q]
  exact h _ (I.tok _)
/-- all but a as it was -/
def Off (a : Addr) (H H' : Hp) : Prop := ∀ c, c ≠ a → H' c = H c
theorem f_setItem {Q : Unit → Shared → Prop} (hu : A.units + 1 < cLine) (I : Inv X pins σ H s) (D : DFr X.prog X.w H a kvs) (hb : FrT H b ((nz k).map V.int)) (hz : kvs.length < 100000) (rv : RelV v r)
    (h : ∀ H' s', Off a H H' → DFr X.prog X.w H' a (putD kvs b k v) → Inv X pins σ H' s' → Q () s') : wpAny (model X.prog X.w) A (setItem (.ref a) (.ref b) r) Q E s := by
  obtain ⟨xs, e, z, hd, rel, dd⟩ := dfr_of I.hok D
  have hl := Paired.length rel
  have hl2 := putD_len kvs b k v
  have big : (100001 : Nat) ≤ sizeLine := by decide
  refine wpAny_setItem_heap (hsz := by rw [← hl]; exact z) (tupleKind_room_in1 hu) (key_ofF I.hok hb) dd fun h' dd' hs => ?_
  have he : ∃ q, h'.get? a = some q := let ⟨q, _, _, hq, _⟩ := dd'; ⟨q, hq⟩
  refine h (upd H a (dictO X.prog X.w a (storedH xs (kN k) b r))) _ (fun c hc => upd_ne hc) ⟨_, upd_same, by omega, hd, (rel.put k hb rv).keeps fun c ys ⟨o, q1, q2⟩ => ⟨o, ?_, q2⟩⟩ (d_write I (by rw [e]; exact True.intro) hs he (dictO_ok dd'))
  rw [upd_ne (ne_of q1 e (fun z => nomatch z))]
  exact q1
end
/-! ### readings and rules -/
def tFGet (P : Program) (w : World) (td ty : TE) : TE := fun σ H Q => td σ H fun x H1 => ty σ H1 fun y H2 => ∃ a b kvs k v, x = .ref a ∧ y = .ref b ∧ DFr P w H2 a kvs ∧ FrT H2 b ((nz k).map V.int) ∧ lookF kvs k = some v ∧ Q v H2
def tFNotIn (P : Program) (w : World) (ty td : TE) : TE := fun σ H Q => ty σ H fun y H1 => td σ H1 fun x H2 => ∃ a b kvs k, x = .ref a ∧ y = .ref b ∧ DFr P w H2 a kvs ∧ FrT H2 b ((nz k).map V.int) ∧ Q (.bl (!(lookF kvs k).isSome)) H2
def tFIn (P : Program) (w : World) (ty td : TE) : TE := fun σ H Q => ty σ H fun y H1 => td σ H1 fun x H2 => ∃ a b kvs k, x = .ref a ∧ y = .ref b ∧ DFr P w H2 a kvs ∧ FrT H2 b ((nz k).map V.int) ∧ Q (.bl (lookF kvs k).isSome) H2
def sFPut (P : Program) (w : World) (td ty tv : TE) : TS := fun D σ H => tv σ H fun v H1 => td σ H1 fun x H2 => ty σ H2 fun y H3 => ∃ a b kvs k, x = .ref a ∧ y = .ref b ∧ DFr P w H3 a kvs ∧ FrT H3 b ((nz k).map V.int) ∧ kvs.length < 100000 ∧ ∀ H4, Off a H3 H4 → DFr P w H4 a (putD kvs b k v) → D.nx σ H4
def rLenF (P : Program) (w : World) : List V → Hp → VK → Prop := fun xs H Q => ∃ (p : Addr) (kvs : FK), xs = [.ref p] ∧ DFr P w H p kvs ∧ Q (.int ((kvs.length : Nat) : Int)) H
def tFNew (P : Program) (w : World) : TE := fun _ H Q => ∀ p H', H p = none → Same9 H H' → DFr P w H' p [] → Q (.ref p) H'
  where Same9 (H H' : Hp) : Prop := ∀ b o, H b = some o → H' b = some o
section
variable {X : Cx} {o i e value : Expr} {pos pos' : Pos} {td ty tv : TE}
theorem units1 {a c : Nat} (h : a + 64 < c) : a + 1 < c := by omega
theorem dfr_type {pins : List (Addr × Obj)} {σ : L2.St} {H : Hp} {s : Shared} {a : Addr} {kvs : FK} (I : Inv X pins σ H s) (D : DFr X.prog X.w H a kvs) : s.TypeIs (.ref a) "dict" := by
  obtain ⟨_, _, _, _, _, dd⟩ := dfr_of I.hok D
  exact dd.typeIs
theorem pe_fget (hu : X.A.units + 1 < cLine) (ho : PE X o td) (hi : PE X i ty) (hs : NoSl i) : PE X (.Subscript o i pos) (tFGet X.prog X.w td ty) := by
  refine ⟨fun pins s σ H Q I h => ?_⟩
  refine subD_of PySem.F.slot_dict_getitem.lookup hs (thn (ho.run pins s σ H _ I h) fun u s1 ⟨x, H1, I1, rx, q1⟩ => thn (hi.run pins s1 σ H1 _ I1 q1) fun iv s2 ⟨y, H2, I2, ry, a, b, kvs, k, v, ex, ey, D, hb, l, q2⟩ => ?_)
  subst ex ey
  obtain rfl : u = Value.ref a := rx
  obtain rfl : iv = Value.ref b := ry
  exact ⟨dfr_type I2 D, f_getItem hu I2 D hb l fun w' s3 I3 rw' => ⟨v, H2, I3, rw', q2⟩⟩
theorem pc_fnotin (hu : X.A.units + 1 < cLine) (hi : PE X i ty) (ho : PE X o td) : PC X .NotIn i o (tFNotIn X.prog X.w ty td) := by
  refine ⟨fun pins s σ H Q I h => ?_⟩
  refine thn (hi.run pins s σ H _ I h) fun iv s1 ⟨y, H1, I1, ry, q1⟩ => thn (ho.run pins s1 σ H1 _ I1 q1) fun u s2 ⟨x, H2, I2, rx, a, b, kvs, k, ex, ey, D, hb, q2⟩ => ?_
  subst ex ey
  obtain rfl : u = Value.ref a := rx
  obtain rfl : iv = Value.ref b := ry
  exact f_notIn hu I2 D hb fun s3 I3 => ⟨.bl (!(lookF kvs k).isSome), H2, I3, rfl, q2⟩
theorem pc_fin (hu : X.A.units + 1 < cLine) (hi : PE X i ty) (ho : PE X o td) : PC X .In i o (tFIn X.prog X.w ty td) := by
  refine ⟨fun pins s σ H Q I h => ?_⟩
  refine thn (hi.run pins s σ H _ I h) fun iv s1 ⟨y, H1, I1, ry, q1⟩ => thn (ho.run pins s1 σ H1 _ I1 q1) fun u s2 ⟨x, H2, I2, rx, a, b, kvs, k, ex, ey, D, hb, q2⟩ => ?_
  subst ex ey
  obtain rfl : u = Value.ref a := rx
  obtain rfl : iv = Value.ref b := ry
  exact f_in hu I2 D hb fun s3 I3 => ⟨.bl (lookF kvs k).isSome, H2, I3, rfl, q2⟩
theorem ps_fput (hu : X.A.units + 1 < cLine) (ho : PE X o td) (hi : PE X i ty) (hv : PE X value tv) (hs : swapsWith value (some (.Subscript o i pos')) pos.line X.env = pure false) :
    PS X (.Assign [.Subscript o i pos'] value pos) (sFPut X.prog X.w td ty tv) := by
  refine ⟨fun pins s σ H D I h => ?_⟩
  refine wpAny_Assign_Subscript (thn (hv.run pins s σ H _ I h) fun r s1 ⟨v, H1, I1, rv, q1⟩ => thn (ho.run pins s1 σ H1 _ I1 q1) fun u s2 ⟨x, H2, I2, rx, q2⟩ => thn (hi.run pins s2 σ H2 _ I2 q2) fun iv s3 ⟨y, H3, I3, ry, a, b, kvs, k, ex, ey, DD, hb, hz, q3⟩ => ?_) hs
  subst ex ey
  obtain rfl : u = Value.ref a := rx
  obtain rfl : iv = Value.ref b := ry
  exact f_setItem hu I3 DD hb hz rv fun H4 s4 o4 D4 I4 => ⟨σ, H4, I4, q3 H4 o4 D4⟩
theorem cr_lenF : CallR X (.builtin "len") (rLenF X.prog X.w) := by
  intro pins s σ H xs us Q I r h
  obtain ⟨p, kvs, rfl, D, q⟩ := h
  obtain ⟨u, rfl, rx⟩ := vals1 r
  obtain rfl : u = .ref p := rx
  obtain ⟨ys, e, z, hd, rel, dd⟩ := dfr_of I.hok D
  have hl : kvs.length = ys.length := Paired.length rel
  refine call_len_dictH hd dd (by rw [← hl]; rw [sizeLine_eq] at z; omega) ?_
  rw [← hl]
  exact ⟨.int ((kvs.length : Nat) : Int), H, I.tok _, ⟨_, rfl⟩, q⟩
theorem dictO_new {P : Program} {w : World} {H : Hp} (h : Heap) : ObjOk P w H (h.push { cls := .type "dict", data := .dict #[] }) h.objs.size (dictO P w h.objs.size []) :=
  ⟨⟨_, #[], 0, Heap.get?_push_size _ rfl, ⟨rfl, rfl, rfl⟩, rfl, rfl, List.nodup_nil⟩, ⟨_, Heap.get?_push_size _ rfl⟩, by
    rintro h1 h2' ⟨o, es', ep', k1, k2⟩ hk
    exact ⟨o, es', ep', hk _ k1, k2⟩⟩
theorem pe_fnew : PE X (.Dict [] [] pos) (tFNew X.prog X.w) := ⟨fun pins s σ H Q I h => by
  have hn := I.hok.fresh (Nat.le_refl s.heap.objs.size)
  refine wpAny_Dict_empty ⟨.ref s.heap.objs.size, _, I.laid (a := s.heap.objs.size) (o := dictO X.prog X.w s.heap.objs.size []) (t' := s.toks) (fun _ _ q => Heap.get?_push_of_some _ q) (Nat.le_refl _) (dictO_new s.heap), rfl, h _ _ hn (fun b u q => by rw [upd_ne (ne_of_none q hn)]; exact q) ⟨[], upd_same, Nat.zero_le _, beq_eq_false_iff_ne.mpr (Ne.symm (Nat.ne_of_lt I.big)), .nil⟩⟩⟩
theorem dict1H {prog : Program} {w : World} {K : Type} [DecidableEq K] {knd : HeapKind prog w K} {A : Around} {E : Value → Shared → Prop} {s : Shared} {env : Env} {keys : List (Option Expr)} {values : List Expr} {pos : Pos} {pairs : List (Sem Value × Sem Value)} {Q : Value → Shared → Prop} (hu : knd.room A)
    (hshape : (evalEachOpt keys env).zip ((evalEach values env).map fun v => do let x ← v; standAt pos; pure x) = pairs.map fun p => (some p.1, p.2)) (h0 : pairs ≠ []) (hlen : pairs.length ≤ 15)
    (h : wpAny (model prog w) A (evalPairs pairs) (fun vs s₁ => ∃ ps, CarriesH knd s₁.heap vs ps ∧ s₁.heap.DictOfH knd s.heap.objs.size [] ∧
      ∀ h' tk, h'.DictOfH knd s.heap.objs.size (storedAllH [] ps) → Heap.SameBut s.heap.objs.size s₁.heap h' → Q (.ref s.heap.objs.size) { s₁ with heap := h', toks := tk }) E
      { s with heap := s.heap.push { cls := .type "dict", data := .dict #[] } }) :
    wpAny (model prog w) A (eval (.Dict keys values pos) env) Q E s := by
  rw [arm_eval_Dict, hshape, dictDisplay_pairs pairs h0 (by omega)]
  exact wpAny_bind (wpAny_standAt (wpAny_bind (wpAny_subDictH (knd := knd) (Q := fun d s' => wpAny (model prog w) A (pure (Value.ref d)) Q E s') hu hlen
    (wpAny_mono h (fun vs s₁ h₁ => by obtain ⟨ps, hc, hm, hq⟩ := h₁; exact ⟨ps, hc, hm, fun h' tk a b => wpAny_pure (hq h' tk a b)⟩) fun _ _ e => e))))
/-- {k: v} -/
def tFDisp (P : Program) (w : World) (tk tv : TE) : TE := fun σ H Q => ∀ p H0, H p = none → (∀ b o, H b = some o → H0 b = some o) → DFr P w H0 p [] → tk σ H0 fun x H1 => tv σ H1 fun y H2 => ∃ b k, x = .ref b ∧ FrT H2 b ((nz k).map V.int) ∧ DFr P w H2 p [] ∧ ∀ H3, Off p H2 H3 → DFr P w H3 p [(b, k, y)] → Q (.ref p) H3
theorem pe_fdisp {kx vx : Expr} {tk : TE} (hu : X.A.units + 1 < cLine) (hk : PE X kx tk) (hv : PE X vx tv) : PE X (.Dict [some kx] [vx] pos) (tFDisp X.prog X.w tk tv) := by
  refine ⟨fun pins s σ H Q I q => ?_⟩
  have hn := I.hok.fresh (Nat.le_refl s.heap.objs.size)
  have I1 := I.laid (a := s.heap.objs.size) (o := dictO X.prog X.w s.heap.objs.size []) (h' := s.heap.push { cls := .type "dict", data := .dict #[] }) (t' := s.toks) (fun _ _ q => Heap.get?_push_of_some _ q) (Nat.le_refl _) (dictO_new s.heap)
  have hy : (s.heap.objs.size == sysModules) = false := beq_eq_false_iff_ne.mpr (Ne.symm (Nat.ne_of_lt I.big))
  have D1 : DFr X.prog X.w (upd H s.heap.objs.size (dictO X.prog X.w s.heap.objs.size [])) s.heap.objs.size [] := ⟨[], upd_same, Nat.zero_le _, hy, .nil⟩
  have h := q s.heap.objs.size _ hn (fun b u q => by rw [upd_ne (ne_of_none q hn)]; exact q) D1
  refine dict1H (knd := tupleKind (mixKind X.prog X.w)) (pairs := pairTrees [some kx] [vx] X.env pos) (show X.A.units < cLine by omega) (zip_pairTrees _ _ _ _ rfl rfl) (fun z => nomatch z) (Nat.le_of_ble_eq_true rfl) ?_
  refine pairTrees_cons_walk (thn (hk.run pins _ σ _ _ I1 h) fun u s1 ⟨x, H1, I2, rx, q1⟩ => thn (hv.run pins s1 σ H1 _ I2 q1) fun r s2 ⟨y, H2, I3, ry, b, k, ex, hb, D3, q2⟩ => pairTrees_nil_walk ?_)
  subst ex
  obtain rfl : u = Value.ref b := rx
  obtain ⟨xs, e, z, hd, rel, dd⟩ := dfr_of I3.hok D3
  cases rel
  refine ⟨[(kN k, b, r)], ⟨rfl, rfl, key_ofF I3.hok hb, True.intro⟩, dd, fun h' tk' dk hs => ?_⟩
  have dk' : h'.DictOfH (tupleKind (mixKind X.prog X.w)) s.heap.objs.size [(kN k, b, r)] := dk
  have he : ∃ q, h'.get? s.heap.objs.size = some q := let ⟨q, _, _, hq, _⟩ := dk'; ⟨q, hq⟩
  refine ⟨.ref s.heap.objs.size, upd H2 s.heap.objs.size (dictO X.prog X.w s.heap.objs.size [(kN k, b, r)]), d_write I3 (by rw [e]; exact True.intro) hs he (dictO_ok dk'), rfl, q2 _ (fun c hc => upd_ne hc) ⟨_, upd_same, Nat.le_of_ble_eq_true rfl, hd, .cons ⟨rfl, rfl, ?_, ry⟩ .nil⟩⟩
  obtain ⟨o, q1, q2⟩ := hb
  exact ⟨o, by rw [upd_ne (ne_of q1 e (fun z => nomatch z))]; exact q1, q2⟩
/-- list(d): its keys, where they stand -/
def rListF (P : Program) (w : World) : List V → Hp → VK → Prop := fun xs H Q => ∃ (d : Addr) (kvs : FK), xs = [.ref d] ∧ DFr P w H d kvs ∧ ∀ p, H p = none → Q (.ref p) (upd H p (.lst (kvs.map fun q => V.ref q.1)))
theorem cr_listF (hc : X.calm = true) : CallR X (.type "list") (rListF X.prog X.w) := by
  intro pins s σ H xs us Q I r h
  obtain ⟨d, kvs, rfl, D, q⟩ := h
  obtain ⟨u, rfl, rx⟩ := r.one
  obtain rfl : u = .ref d := rx
  obtain ⟨ks, e0, z, hs, pr, dd⟩ := dfr_of I.hok D
  obtain ⟨o, es, ep, ho, hx, hdt, he, _, hn⟩ := dd
  have l1 : es.size = ks.length := size_of_entries he
  have l2 : kvs.length = ks.length := Paired.length pr
  refine PySem.W.kdl_call (kdl_raw hs hx hdt) (I.ok.hd hc) ho (by omega) fun h' tk acc' c' kp e it => ?_
  have ea : acc'.toList = ks.map fun x => Value.ref x.2.1 := by
    have hl : acc'.toList.length = ks.length := by rw [Array.length_toList, it.1]; exact l1
    apply List.ext_getElem?
    intro j
    rw [List.getElem?_map]
    cases hj : acc'.toList[j]? with
    | none =>
      have h1 := List.getElem?_eq_none_iff.mp hj
      rw [List.getElem?_eq_none (by omega)]
      all_goals rfl
    | some v =>
      obtain ⟨en, hen, hv⟩ := it.2 j v (by rw [← Array.getElem?_toList]; exact hj)
      have qe := entry_at he j
      rw [hen] at qe
      cases hb : ks[j]? with
      | none =>
        rw [hb] at qe
        exact nomatch (show some en = none from qe)
      | some b =>
        rw [hb] at qe
        have e2 : en = entryOfKey (tupleKind (mixKind X.prog X.w)) b := Option.some.inj qe
        rw [hv, e2]
        all_goals rfl
  have ek : ∀ {l : FK} {m : List (List Key × Addr × Value)}, PairF H l m → (m.map fun x => x.2.1) = l.map fun q => q.1 := by
    intro l m r
    induction r with
    | nil => rfl
    | cons h t ih => rw [List.map_cons, List.map_cons, ih, h.2.1]
  have eb : acc'.toList = (kvs.map fun q => q.1).map Value.ref := by rw [ea, ← ek pr, List.map_map]; all_goals rfl
  have rv : Vals ((kvs.map fun q => V.ref q.1)) acc'.toList := by
    have := L2.vals_refs (kvs.map fun q => q.1)
    rw [List.map_map] at this
    rw [eb]
    exact this
  have hz : (kvs.map fun q => V.ref q.1).length ≤ sizeLine := by rw [List.length_map]; exact z
  refine ⟨.ref s.heap.objs.size, _, I.laid (t' := tk) (o := .lst (kvs.map fun q => V.ref q.1)) kp (Nat.le_refl _) ?_, rfl, q _ (I.hok.fresh (Nat.le_refl _))⟩
  exact ⟨hz, acc'.toList, c', rv, by rw [Array.toArray_toList]; exact e⟩
/-! ### what the readings ask -/
section
variable {P : Program} {w : World} {σ : L2.St} {H : Hp} {Q : VK} {a b : Addr} {kvs : FK} {k : List Nat} {v : V} {i j : Nat} {tv : TE}
theorem rd_fgetV (h1 : σ[i]? = some (some (.ref a))) (h2 : σ[j]? = some (some (.ref b))) (D : DFr P w H a kvs) (hb : FrT H b ((nz k).map V.int)) (l : lookF kvs k = some v) (q : Q v H) : tFGet P w (tVar i) (tVar j) σ H Q := by
  unfold tFGet tVar
  exact ⟨_, h1, _, h2, a, b, kvs, k, v, rfl, rfl, D, hb, l, q⟩
theorem rd_fnotinV (h2 : σ[j]? = some (some (.ref b))) (h1 : σ[i]? = some (some (.ref a))) (D : DFr P w H a kvs) (hb : FrT H b ((nz k).map V.int)) (q : Q (.bl (!(lookF kvs k).isSome)) H) : tFNotIn P w (tVar j) (tVar i) σ H Q := by
  unfold tFNotIn tVar
  exact ⟨_, h2, _, h1, a, b, kvs, k, rfl, rfl, D, hb, q⟩
theorem rd_finV (h2 : σ[j]? = some (some (.ref b))) (h1 : σ[i]? = some (some (.ref a))) (D : DFr P w H a kvs) (hb : FrT H b ((nz k).map V.int)) (q : Q (.bl (lookF kvs k).isSome) H) : tFIn P w (tVar j) (tVar i) σ H Q := by
  unfold tFIn tVar
  exact ⟨_, h2, _, h1, a, b, kvs, k, rfl, rfl, D, hb, q⟩
def kFPut (P : Program) (w : World) (i j : Nat) (σ : L2.St) (D : Ends) : VK := fun v H1 => tVar i σ H1 fun x H2 => tVar j σ H2 fun y H3 => ∃ a b kvs k, x = .ref a ∧ y = .ref b ∧ DFr P w H3 a kvs ∧ FrT H3 b ((nz k).map V.int) ∧ kvs.length < 100000 ∧ ∀ H4, Off a H3 H4 → DFr P w H4 a (putD kvs b k v) → D.nx σ H4
theorem rd_fput {D : Ends} (h : tv σ H (kFPut P w i j σ D)) : sFPut P w (tVar i) (tVar j) tv D σ H := h
theorem rd_kFPut {D : Ends} (h1 : σ[i]? = some (some (.ref a))) (h2 : σ[j]? = some (some (.ref b))) (DD : DFr P w H a kvs) (hb : FrT H b ((nz k).map V.int)) (hz : kvs.length < 100000) (q : ∀ H4, Off a H H4 → DFr P w H4 a (putD kvs b k v) → D.nx σ H4) : kFPut P w i j σ D v H := by
  unfold kFPut tVar
  exact ⟨_, h1, _, h2, a, b, kvs, k, rfl, rfl, DD, hb, hz, q⟩
def kFD (P : Program) (w : World) (p b : Addr) (Q : VK) : VK := fun y H2 => ∃ k, FrT H2 b ((nz k).map V.int) ∧ DFr P w H2 p [] ∧ ∀ H3, Off p H2 H3 → DFr P w H3 p [(b, k, y)] → Q (.ref p) H3
theorem rd_fdispV (h2 : σ[j]? = some (some (.ref b))) (h : ∀ p H0, H p = none → (∀ b o, H b = some o → H0 b = some o) → DFr P w H0 p [] → tv σ H0 (kFD P w p b Q)) : tFDisp P w (tVar j) tv σ H Q := by
  unfold tFDisp tVar
  intro p H0 hp e D
  refine ⟨_, h2, ?_⟩
  have hq := h p H0 hp e D
  have e : (fun (y : V) (H2 : Hp) => ∃ b' k, V.ref b = .ref b' ∧ FrT H2 b' ((nz k).map V.int) ∧ DFr P w H2 p [] ∧ ∀ H3, Off p H2 H3 → DFr P w H3 p [(b', k, y)] → Q (.ref p) H3) = kFD P w p b Q := by
    funext y H2
    apply propext
    constructor
    · rintro ⟨b', k, e, z⟩
      cases e
      exact ⟨k, z⟩
    · rintro ⟨k, z⟩
      exact ⟨b, k, rfl, z⟩
  show tv σ H0 (fun (y : V) (H2 : Hp) => ∃ b' k, V.ref b = .ref b' ∧ FrT H2 b' ((nz k).map V.int) ∧ DFr P w H2 p [] ∧ ∀ H3, Off p H2 H3 → DFr P w H3 p [(b', k, y)] → Q (.ref p) H3)
  rw [e]
  exact hq
theorem rd_kFD {p : Addr} {y : V} (hb : FrT H b ((nz k).map V.int)) (D : DFr P w H p []) (q : ∀ H3, Off p H H3 → DFr P w H3 p [(b, k, y)] → Q (.ref p) H3) : kFD P w p b Q y H := ⟨k, hb, D, q⟩
theorem rd_lenF (D : DFr P w H a kvs) (q : Q (.int ((kvs.length : Nat) : Int)) H) : rLenF P w [.ref a] H Q := ⟨a, kvs, rfl, D, q⟩
theorem rd_listF (D : DFr P w H a kvs) (q : ∀ p, H p = none → Q (.ref p) (upd H p (.lst (kvs.map fun q => V.ref q.1)))) : rListF P w [.ref a] H Q := ⟨a, kvs, rfl, D, q⟩
theorem DFr.off {H' : Hp} (D : DFr P w H a kvs) (e : Off b H H') (h : a ≠ b) (hb : ∀ c xs o, H c = some (.frz o (.tup xs)) → c ≠ b) : DFr P w H' a kvs := by
  obtain ⟨xs, e1, z, y, r⟩ := D
  exact ⟨xs, by rw [e a h]; exact e1, z, y, r.keeps fun c ys ⟨o, q1, q2⟩ => ⟨o, by rw [e c (hb _ _ _ q1)]; exact q1, q2⟩⟩
theorem DFr.at (D : DFr P w H a kvs) : ∃ xs, H a = some (dictO P w a xs) := let ⟨xs, e, _⟩ := D; ⟨xs, e⟩
end
end
end My
namespace My
open PySem PySem.Spec PyProof.Rows L2 L2H
/-! ### try with several clauses, of which the first one, without a name, takes what comes -/
def wTopN (K : PySem.W.Frag) (c : Value) (ts : Addr → Value → Option Addr → TS) (D : Ends) : WX := fun cls d σ H => PySem.W.exmOne K cls c = some true ∧ ∀ a, H a = none → ts a cls d D σ H
section
variable {X : Cx} {body : List Stmt} {hds : List ExceptHandler} {pos pos' np : Pos} {tb : WX → TS} {x : Str} {c : Value} {b₀ : Stmt} {suite : List Stmt} {ts : Addr → Value → Option Addr → TS}
theorem ps_try_topN (hs : X.stack = X.env :: X.outer) (hf : X.env.frame = some X.env.locals) (hc : Names X x c)
    (hb : ∀ (W : WX) (pn : List (Addr × Obj)) (xe : Value → Shared → Prop), L2N.Takes (X.tr pn xe) W → PassesOwn (model X.prog X.w) X.A X.env xe → PSs (X.tr pn xe) body (tb W))
    (hsu : ∀ (a : Addr) (oe : Obj) (cls : Value) (d : Option Addr) (pn : List (Addr × Obj)), L2N.Zn cls d oe → (∃ vs, oe.data = .fields vs) → PSs (X.suite a ((a, oe) :: pn)) (b₀ :: suite) (ts a cls d)) :
    PS X (.Try body (.ExceptHandler (some (.Name x np)) none (b₀ :: suite) pos' :: hds) [] [] pos) (fun D σ H => tb (wTopN X.K c ts D) D σ H) := by
  refine ⟨fun pins s σ H D I h => ?_⟩
  have ok := I.ok
  have hfr : X.A.frames = some (X.env :: X.outer) := by rw [ok.frames, hs]
  refine wpAny_Try_except ?_
  refine wpAny_mono ((hb (wTopN X.K c ts D) (X.pn ++ pins) (fun e s₁ => wpAny (model X.prog X.w) X.A (noteFrame e X.env) (fun _ s₂ => wpAny (model X.prog X.w) X.A (setFlight e none) (fun _ s₃ =>
    wpAny (model X.prog X.w) X.A (handleBy e X.env (.ExceptHandler (some (.Name x np)) none (b₀ :: suite) pos' :: hds)) (SP X pins D) X.xe s₃) X.xe s₂) X.xe s₁) (fun u s' xx => ?_) PassesOwn.looking).run [] s σ H D (I.toTry _) h) (fun f s1 hsp => ?_) (fun e s1 he => he)
  · obtain ⟨a, B, sI, pins', σ', H', cls, d, rfl, J', nb, up, sky, na, os, ag, one, go⟩ := xx
    have J : Inv X pins σ' H' sI := J'.ofTry ok
    show wpAny (model X.prog X.w) X.A (noteFrame (.ref a) X.env) _ _ _
    refine L2N.Sky.land L2N.Zn.steady hfr hf (by rw [← hs]; exact sky) fun h3 fl3 up3 => ?_
    have J3 : Inv X pins σ' H' { s' with heap := h3 } := J.landed nb fl3.1 (up.trans up3) os ag
    obtain ⟨oe3, vs3, he3, hz3, hd3⟩ := fl3.there
    have notFr : ∀ {h : Heap} {o : Obj} {vs : Array Value}, h.FunFrames B (X.env :: X.outer) → h.get? a = some o → o.data = .fields vs → a ∉ frs (X.env :: X.outer) := fun {h o vs} ff e dd hm => by
      obtain ⟨_, o', e', hnf⟩ := ff.mem hm
      rw [e] at e'; cases e'
      exact hnf _ dd
    have nfr := notFr fl3.2.2.1 he3 hd3
    have nL : a ≠ X.env.locals := fun z => nfr (List.mem_filterMap.mpr ⟨X.env, List.mem_cons_self, by rw [hf, z]⟩)
    have nF : a ∉ X.fs := fun hm => by
      obtain ⟨e, he, q⟩ := List.mem_filterMap.mp hm
      exact nfr (List.mem_filterMap.mpr ⟨e, List.mem_cons_of_mem _ he, q⟩)
    have S3 := J3.suite he3 hd3 na nL nF
    refine wpAny_handleBy_cons (codeAny_handlers_test ?_) (by intro q; cases q)
    have LT : PySem.W.Looks (model X.prog X.w) h3 (typeOf (.ref a)) cls := fun A Q E s k q => wpAny_typeOf_ref (k _ _ he3) (by rw [hz3.1]; exact q)
    have LM := PySem.W.exm_one (M := model X.prog X.w) (J3.kIn) LT one
    have test : ∀ {Q : Value → Shared → Prop} {E : Value → Shared → Prop}, Q c { s' with heap := h3 } → wpAny (model X.prog X.w) (X.A.mark (some (.ref a))) (eval (.Name x np) X.env) Q E { s' with heap := h3 } := fun {Q E} q => by
      obtain ⟨hg, hdbg, hm | ⟨hm, hv, hnn⟩⟩ := hc
      · exact ld_glob (X := X.suite a ((a, oe3) :: (X.pn ++ pins))) S3 hg hm q hdbg
      · exact ld_blt (X := X.suite a ((a, oe3) :: (X.pn ++ pins))) S3 hg hm hv q hnn hdbg
    refine test (LM.here ?_)
    refine codeAny_handlers_suite ?_
    refine HandSPX.lands_againZ fl3 fun h4 fl4 up4 => ?_
    have J4 : Inv X pins σ' H' { s' with heap := h4 } := J.landed nb fl4.1 ((up.trans up3).trans up4) os ag
    obtain ⟨oe4, vs4, he4, hz4, hd4⟩ := fl4.there
    have S4 := J4.suite he4 hd4 na nL nF
    refine wpAny_mono ((hsu a oe4 cls d (X.pn ++ pins) hz4 ⟨_, hd4⟩).run [] _ _ H' _ S4 (go a na)) (fun f s6 hsp => ?_) (fun _ _ z => False.elim z)
    cases f with
    | next =>
      obtain ⟨σ6, H6, S6, q6⟩ := hsp
      exact ⟨_, _, S6.unsuite ok, q6⟩
    | brk =>
      obtain ⟨σ6, H6, S6, q6⟩ := hsp
      exact ⟨_, _, S6.unsuite ok, q6⟩
    | cont =>
      obtain ⟨σ6, H6, S6, q6⟩ := hsp
      exact ⟨_, _, S6.unsuite ok, q6⟩
    | ret u =>
      obtain ⟨v6, σ6, H6, S6, r6, q6⟩ := hsp
      exact ⟨_, _, _, S6.unsuite ok, r6, q6⟩
  · cases f with
    | next =>
      obtain ⟨σ', H', J', q⟩ := hsp
      exact wpAny_execs_nil ⟨σ', H', J'.ofTry ok, q⟩
    | brk =>
      obtain ⟨σ', H', J', q⟩ := hsp
      exact ⟨σ', H', J'.ofTry ok, q⟩
    | cont =>
      obtain ⟨σ', H', J', q⟩ := hsp
      exact ⟨σ', H', J'.ofTry ok, q⟩
    | ret u =>
      obtain ⟨v, σ', H', J', r, q⟩ := hsp
      exact ⟨v, σ', H', J'.ofTry ok, r, q⟩
end
end My
namespace My
open PySem PySem.Spec PyProof.Rows L2
/-! ### what words lead to, as it is found, with the first word that leads there -/
abbrev TW := List (List Nat × List Nat)
def putW (f : TW) (t w : List Nat) : TW := if t ∈ f.map Prod.fst then f else f ++ [(t, w)]
def growW (L : List Nat → List Nat → List Nat) (t w : List Nat) : TW → Nat → List (List Nat) → TW
  | f, _, [] => f
  | f, j, m :: ms => growW L t w (putW f (L t m) (w ++ [j])) (j + 1) ms
def bfsStep (L : List Nat → List Nat → List Nat) (maps : List (List Nat)) (f : TW) : Option (List Nat × List Nat) → TW
  | none => f
  | some p => growW L p.1 p.2 f 0 maps
def bfs (L : List Nat → List Nat → List Nat) (maps : List (List Nat)) (t0 : List Nat) : Nat → TW
  | 0 => [(t0, [])]
  | k + 1 => bfsStep L maps (bfs L maps t0 k) ((bfs L maps t0 k)[k]?)
section
variable {L : List Nat → List Nat → List Nat} {maps : List (List Nat)} {t0 t w : List Nat}
theorem putW_pre (f : TW) (t w : List Nat) : f <+: putW f t w := by
  unfold putW
  split
  · exact List.prefix_rfl
  · exact List.prefix_append ..
theorem growW_pre : ∀ (ms : List (List Nat)) (f : TW) (j : Nat), f <+: growW L t w f j ms
  | [], f, j => List.prefix_rfl
  | m :: ms, f, j => (putW_pre f _ _).trans (growW_pre ms _ (j + 1))
theorem growW_app : ∀ (ms ns : List (List Nat)) (f : TW) (j : Nat), growW L t w f j (ms ++ ns) = growW L t w (growW L t w f j ms) (j + ms.length) ns
  | [], ns, f, j => rfl
  | m :: ms, ns, f, j => by
    rw [List.cons_append]
    show growW L t w (putW f (L t m) (w ++ [j])) (j + 1) (ms ++ ns) = growW L t w (growW L t w (putW f (L t m) (w ++ [j])) (j + 1) ms) (j + (ms.length + 1)) ns
    rw [growW_app ms ns, Nat.add_assoc, Nat.add_comm 1 ms.length]
theorem growW_take {f : TW} {i : Nat} {m : List Nat} (h : maps[i]? = some m) : growW L t w f 0 (maps.take (i + 1)) = putW (growW L t w f 0 (maps.take i)) (L t m) (w ++ [i]) := by
  have hi : i < maps.length := (List.getElem?_eq_some_iff.mp h).1
  rw [List.take_succ, h, growW_app, List.length_take, Nat.min_eq_left (Nat.le_of_lt hi), Nat.zero_add]
  rfl
theorem growW_le {f : TW} {i : Nat} : (growW L t w f 0 (maps.take i)).length ≤ (growW L t w f 0 maps).length := by
  conv => rhs; rw [← List.take_append_drop i maps, growW_app]
  exact (growW_pre _ _ _).length_le
theorem putW_nodup {f : TW} (h : (f.map Prod.fst).Nodup) (t w : List Nat) : ((putW f t w).map Prod.fst).Nodup := by
  unfold putW
  split
  · exact h
  · rename_i hn
    rw [List.map_append]
    refine List.nodup_append.mpr ⟨h, List.nodup_cons.mpr ⟨List.not_mem_nil, List.nodup_nil⟩, fun a ha b hb => ?_⟩
    rw [show b = t from List.mem_singleton.mp hb]
    exact fun z => hn (z ▸ ha)
theorem growW_nodup : ∀ (ms : List (List Nat)) {f : TW} (j : Nat), (f.map Prod.fst).Nodup → ((growW L t w f j ms).map Prod.fst).Nodup
  | [], f, j, h => h
  | m :: ms, f, j, h => growW_nodup ms (j + 1) (putW_nodup h _ _)
theorem bfs_succ {k : Nat} {p : List Nat × List Nat} (h : (bfs L maps t0 k)[k]? = some p) : bfs L maps t0 (k + 1) = growW L p.1 p.2 (bfs L maps t0 k) 0 maps := by
  show bfsStep L maps (bfs L maps t0 k) ((bfs L maps t0 k)[k]?) = _
  rw [h]
  rfl
theorem bfs_end {k : Nat} (h : (bfs L maps t0 k).length ≤ k) : bfs L maps t0 (k + 1) = bfs L maps t0 k := by
  show bfsStep L maps (bfs L maps t0 k) ((bfs L maps t0 k)[k]?) = _
  rw [List.getElem?_eq_none h]
  rfl
theorem bfs_nodup : ∀ k, ((bfs L maps t0 k).map Prod.fst).Nodup
  | 0 => List.nodup_cons.mpr ⟨List.not_mem_nil, List.nodup_nil⟩
  | k + 1 => by
    show ((bfsStep L maps (bfs L maps t0 k) ((bfs L maps t0 k)[k]?)).map Prod.fst).Nodup
    cases (bfs L maps t0 k)[k]? with
    | none => exact bfs_nodup k
    | some p => exact growW_nodup maps 0 (bfs_nodup k)
theorem bfs_pre1 (k : Nat) : bfs L maps t0 k <+: bfs L maps t0 (k + 1) := by
  show _ <+: bfsStep L maps (bfs L maps t0 k) ((bfs L maps t0 k)[k]?)
  cases (bfs L maps t0 k)[k]? with
  | none => exact List.prefix_rfl
  | some p => exact growW_pre maps _ 0
theorem bfs_pre {k l : Nat} (h : k ≤ l) : bfs L maps t0 k <+: bfs L maps t0 l := by
  induction h with
  | refl => exact List.prefix_rfl
  | step _ ih => exact ih.trans (bfs_pre1 _)
theorem bfs_stay {k l : Nat} (h : (bfs L maps t0 k).length ≤ k) (hl : k ≤ l) : bfs L maps t0 l = bfs L maps t0 k := by
  induction hl with
  | refl => rfl
  | @step m hm ih => rw [bfs_end (by rw [ih]; exact Nat.le_trans h hm), ih]
/-- what is told: all that is found, or none where more than most is found -/
def FoundW (L : List Nat → List Nat → List Nat) (maps : List (List Nat)) (t0 : List Nat) (most : Nat) : Option TW → Prop
  | some f => ∃ k, (bfs L maps t0 k).length ≤ k ∧ (bfs L maps t0 k).length ≤ most ∧ f = bfs L maps t0 k
  | none => ∃ k, most < (bfs L maps t0 k).length
theorem foundW_one {most : Nat} : ∀ {r r' : Option TW}, FoundW L maps t0 most r → FoundW L maps t0 most r' → r = r'
  | none, none, _, _ => rfl
  | some f, some g, ⟨k, h1, _, h3⟩, ⟨l, g1, _, g3⟩ => by
    rw [h3, g3]
    rcases Nat.le_total k l with h | h
    · rw [bfs_stay h1 h]
    · rw [bfs_stay g1 h]
  | some f, none, ⟨k, h1, h2, _⟩, ⟨l, g1⟩ => by
    rcases Nat.le_total k l with h | h
    · rw [bfs_stay h1 h] at g1; omega
    · have := (bfs_pre (L := L) (maps := maps) (t0 := t0) h).length_le; omega
  | none, some f, ⟨l, g1⟩, ⟨k, h1, h2, _⟩ => by
    rcases Nat.le_total k l with h | h
    · rw [bfs_stay h1 h] at g1; omega
    · have := (bfs_pre (L := L) (maps := maps) (t0 := t0) h).length_le; omega
/-- each thing is what its word leads to, and each is of the kind that is kept -/
theorem growW_all {D : List Nat → List Nat → Prop} : ∀ (ms : List (List Nat)) {f : TW} (j : Nat), (∀ p ∈ f, D p.1 p.2) → (∀ i m, ms[i]? = some m → D (L t m) (w ++ [j + i])) → ∀ p ∈ growW L t w f j ms, D p.1 p.2
  | [], f, j, h, _ => h
  | m :: ms, f, j, h, hm => by
    refine growW_all ms (j + 1) ?_ fun i m' h' => by rw [Nat.add_assoc, Nat.add_comm 1 i]; exact hm (i + 1) m' h'
    intro p hp
    unfold putW at hp
    split at hp
    · exact h p hp
    · rcases List.mem_append.mp hp with hp | hp
      · exact h p hp
      · rw [List.mem_singleton.mp hp]
        exact hm 0 m rfl
theorem bfs_all {D : List Nat → List Nat → Prop} (h0 : D t0 []) (hs : ∀ t w i m, D t w → maps[i]? = some m → D (L t m) (w ++ [i])) : ∀ k, ∀ p ∈ bfs L maps t0 k, D p.1 p.2
  | 0 => fun p hp => by rw [show p = (t0, []) from List.mem_singleton.mp hp]; exact h0
  | k + 1 => by
    show ∀ p ∈ bfsStep L maps (bfs L maps t0 k) ((bfs L maps t0 k)[k]?), D p.1 p.2
    cases e : (bfs L maps t0 k)[k]? with
    | none => exact bfs_all h0 hs k
    | some q => exact growW_all maps 0 (bfs_all h0 hs k) fun i m hm => by rw [Nat.zero_add]; exact hs _ _ _ _ (bfs_all h0 hs k q (List.mem_of_getElem? e)) hm
theorem bfs_long : ∀ k, ∀ p ∈ bfs L maps t0 k, p.2.length ≤ k
  | 0 => fun p hp => by rw [show p = (t0, []) from List.mem_singleton.mp hp]; exact Nat.le_refl _
  | k + 1 => by
    show ∀ p ∈ bfsStep L maps (bfs L maps t0 k) ((bfs L maps t0 k)[k]?), p.2.length ≤ k + 1
    cases e : (bfs L maps t0 k)[k]? with
    | none => exact fun p hp => Nat.le_succ_of_le (bfs_long k p hp)
    | some q =>
      refine growW_all (D := fun _ w => w.length ≤ k + 1) maps 0 (fun p hp => Nat.le_succ_of_le (bfs_long k p hp)) fun i m hm => ?_
      rw [List.length_append, List.length_singleton]
      exact Nat.succ_le_succ (bfs_long k q (List.mem_of_getElem? e))
end
end My
namespace My
open PySem PySem.Spec PyProof.Rows L2
/-! ### a dict of things found, each with its word -/
theorem while_k {c : TT} {tb : TS} {D : Ends} {σ : L2.St} {H : Hp} (J : Nat → L2.St → Hp → Prop) (b k0 : Nat) (h0 : J k0 σ H)
    (hs : ∀ k σ H, J k σ H → c σ H fun bb H1 => if bb = true then k < b ∧ tb { D with nx := J (k + 1), ct := J (k + 1), bk := D.nx } σ H1 else D.nx σ H1) (mono : ∀ σ H (Q1 Q2 : Bool → Hp → Prop), (∀ x H1, Q1 x H1 → Q2 x H1) → c σ H Q1 → c σ H Q2) : tWhile c tb D σ H := by
  refine ⟨fun m σ H => ∃ k, m = b - k ∧ J k σ H, ⟨_, k0, rfl, h0⟩, ?_⟩
  rintro m σ H ⟨k, rfl, j⟩
  refine mono σ H _ _ ?_ (hs k σ H j)
  rintro x H1 z
  by_cases hx : x = true
  · rw [if_pos hx] at z ⊢
    exact ⟨J (k + 1), fun σ' H' j' => ⟨b - (k + 1), by omega, k + 1, rfl, j'⟩, z.2⟩
  · rw [if_neg hx] at z ⊢
    exact z
abbrev rf (q : Addr × List Nat × V) : V := .ref q.1
def FitW (H : Hp) : TW → FK → Prop := Paired fun e q => q.2.1 = e.1 ∧ ∃ c, q.2.2 = .ref c ∧ H c = some (.lst ((nz e.2).map V.int))
section
variable {P : Program} {w : World} {H H' : Hp} {a : Addr} {f : TW} {kvs : FK}
theorem DFr.key (D : DFr P w H a kvs) {k : Nat} {q : Addr × List Nat × V} (h : kvs[k]? = some q) : FrT H q.1 ((nz q.2.1).map V.int) := by
  obtain ⟨xs, _, _, _, r⟩ := D
  have all : ∀ {l : FK} {m : List (List Key × Addr × Value)}, PairF H l m → ∀ x ∈ l, FrT H x.1 ((nz x.2.1).map V.int) := by
    intro l m r
    induction r with
    | nil => intro x hx; exact nomatch hx
    | @cons p q ps qs hq t ih =>
      intro x hx
      rcases List.mem_cons.mp hx with e | hx
      · rw [e]; exact hq.2.2.1
      · exact ih x hx
  exact all r q (List.mem_of_getElem? h)
theorem FitW.len (F : FitW H f kvs) : f.length = kvs.length := Paired.length F
theorem FitW.get (F : FitW H f kvs) : ∀ {k : Nat} {e : List Nat × List Nat}, f[k]? = some e → ∃ q c, kvs[k]? = some q ∧ q.2.1 = e.1 ∧ q.2.2 = .ref c ∧ H c = some (.lst ((nz e.2).map V.int)) := by
  unfold FitW at F
  induction F with
  | nil => intro k e h; cases h
  | cons hd tl ih =>
    intro k e h
    cases k with
    | zero =>
      cases Option.some.inj h
      obtain ⟨h1, c, h2, h3⟩ := hd
      exact ⟨_, c, rfl, h1, h2, h3⟩
    | succ k => exact ih h
theorem FitW.look (F : FitW H f kvs) (nd : (f.map Prod.fst).Nodup) : ∀ {k : Nat} {e : List Nat × List Nat}, f[k]? = some e → ∃ c, lookF kvs e.1 = some (.ref c) ∧ H c = some (.lst ((nz e.2).map V.int)) := by
  unfold FitW at F
  induction F with
  | nil => intro k e h; cases h
  | cons hd tl ih =>
    intro k e h
    rw [List.map_cons] at nd
    obtain ⟨n1, n2⟩ := List.nodup_cons.mp nd
    cases k with
    | zero =>
      cases Option.some.inj h
      obtain ⟨h1, c, h2, h3⟩ := hd
      exact ⟨c, by rw [lookF_pos h1, h2], h3⟩
    | succ k =>
      obtain ⟨c, h4, h5⟩ := ih n2 h
      refine ⟨c, ?_, h5⟩
      rw [lookF_neg (fun z => n1 (by rw [← hd.1, z]; exact List.mem_map_of_mem (List.mem_of_getElem? h)))]
      exact h4
theorem FitW.isSome (F : FitW H f kvs) (t : List Nat) : (lookF kvs t).isSome = decide (t ∈ f.map Prod.fst) := by
  unfold FitW at F
  induction F with
  | nil => rfl
  | @cons e q es qs hd tl ih =>
    by_cases z : q.2.1 = t
    · rw [lookF_pos z, List.map_cons, decide_eq_true (List.mem_cons.mpr (.inl (by rw [← hd.1, z])))]
      rfl
    · rw [lookF_neg z, ih, List.map_cons]
      have : t ≠ e.1 := fun y => z (by rw [hd.1, y])
      simp [List.mem_cons, this]
theorem FitW.keep (F : FitW H f kvs) (h : ∀ c xs, H c = some (.lst xs) → H' c = some (.lst xs)) : FitW H' f kvs := Paired.mapP F fun _ _ ⟨h1, c, h2, h3⟩ => ⟨h1, c, h2, h _ _ h3⟩
theorem FitW.snoc (F : FitW H f kvs) {t ws : List Nat} {b c : Addr} (h : H c = some (.lst ((nz ws).map V.int))) : FitW H (f ++ [(t, ws)]) (kvs ++ [(b, t, .ref c)]) := Paired.snoc F ⟨rfl, c, rfl, h⟩
theorem putD_none {b : Addr} {k : List Nat} {v : V} (h : (lookF kvs k).isSome = false) : putD kvs b k v = kvs ++ [(b, k, v)] := by
  unfold putD
  rw [h]
  rfl
/-- a function that leads a thing by a map of so many places -/
def Lead (K : PySem.W.Frag) (sp : Sp) (L : List Nat → List Nat → List Nat) (n : Nat) (Dom : List Nat → Prop) : Prop :=
  ∀ (a b : Addr) (xs ys : List Nat) (H : Hp) (Q : VK) (E : XK), SqT K H a ((nz xs).map V.int) → SqT K H b ((nz ys).map V.int) → Dom xs → MapOk n ys →
    (∀ p H', H p = none → (∀ c o, H c = some o → H' c = some o) → FrT H' p ((nz (L xs ys)).map V.int) → Q (.ref p) H') → sp [.ref a, .ref b] H Q E
theorem DFr.cell (D : DFr P w H a kvs) {c : Addr} {xs : List V} (h : H c = some (.lst xs)) : c ≠ a := by
  obtain ⟨ys, e⟩ := D.at
  intro z
  rw [z, e] at h
  exact nomatch h
end
end My
namespace My
open PySem PySem.Spec PyProof.Rows L2
theorem same_off {H0 H1 H2 : Hp} {p : Addr} (e : ∀ c o, H0 c = some o → H1 c = some o) (hp : H0 p = none) (f : Off p H1 H2) : ∀ c o, H0 c = some o → H2 c = some o := fun c o q => by
  rw [f c (fun z => by rw [z, hp] at q; cases q)]
  exact e c o q
theorem same_upd {H0 H1 : Hp} {p : Addr} {x : HO} (e : ∀ c o, H0 c = some o → H1 c = some o) (hp : H0 p = none) : ∀ c o, H0 c = some o → upd H1 p x c = some o := fun c o q => by
  rw [upd_ne (ne_of_none q hp)]
  exact e c o q
theorem FrT.onto {H H' : Hp} {p : Addr} {xs : List V} (h : FrT H p xs) (e : ∀ o, H p = some o → H' p = some o) : FrT H' p xs := let ⟨o, q1, q2⟩ := h; ⟨o, e _ q1, q2⟩
theorem FrT.ne_lst {H : Hp} {p l : Addr} {xs ys : List V} (h : FrT H p xs) (e : H l = some (.lst ys)) : p ≠ l := fun z => by
  obtain ⟨o, q, _⟩ := h
  rw [z, e] at q
  cases q
theorem FrT.ne_dct {P : Program} {w : World} {H : Hp} {p a : Addr} {xs : List V} {kvs : FK} (h : FrT H p xs) (D : DFr P w H a kvs) : p ≠ a := fun z => by
  obtain ⟨o, q, _⟩ := h
  obtain ⟨ys, e⟩ := D.at
  rw [z, e] at q
  cases q
/-- the dict stays where only a list changes -/
theorem DFr.ulst {P : Program} {w : World} {H : Hp} {a l : Addr} {kvs : FK} {xs : List V} {o : HO} (D : DFr P w H a kvs) (e : H l = some (.lst xs)) : DFr P w (upd H l o) a kvs :=
  D.off (b := l) (fun c hc => upd_ne hc) (fun z => by
    obtain ⟨ys, q⟩ := D.at
    rw [z, e] at q
    cases q) fun c xs' o' q z => by rw [z, e] at q; cases q
theorem FitW.ulst {H : Hp} {l : Addr} {f : TW} {kvs : FK} {xs : List V} {o : HO} (F : FitW H f kvs) (D : ∀ q ∈ kvs, q.2.2 ≠ .ref l) : FitW (upd H l o) f kvs := by
  unfold FitW at F ⊢
  induction F with
  | nil => exact .nil
  | @cons e q es qs hd tl ih =>
    obtain ⟨h1, c, h2, h3⟩ := hd
    refine .cons ⟨h1, c, h2, ?_⟩ (ih fun q hq => D q (List.mem_cons_of_mem _ hq))
    rw [upd_ne (fun z => D q (List.mem_cons_self ..) (by rw [h2, z]))]
    exact h3
theorem FitW.off {H H' : Hp} {a : Addr} {f : TW} {kvs : FK} (F : FitW H f kvs) {P : Program} {w : World} {g : FK} (D : DFr P w H a g) (e : Off a H H') : FitW H' f kvs := F.keep fun c xs h => by rw [e c (D.cell h)]; exact h
end My
namespace My
open PySem PySem.Spec PyProof.Rows L2
def kWk (b k : Nat) (J : Nat → L2.St → Hp → Prop) (tb : TS) (D : Ends) (σ : L2.St) : Bool → Hp → Prop := fun bb H1 =>
  if bb = true then ∃ N : L2.St → Hp → Prop, (∀ σ' H', N σ' H' → ∃ m', m' < b - k ∧ ∃ k', m' = b - k' ∧ J k' σ' H') ∧ tb { D with nx := N, ct := N, bk := D.nx } σ H1 else D.nx σ H1
theorem while_w {c : TT} {tb : TS} {D : Ends} {σ : L2.St} {H : Hp} (J : Nat → L2.St → Hp → Prop) (b k0 : Nat) (h0 : J k0 σ H) (hs : ∀ k σ H, J k σ H → c σ H (kWk b k J tb D σ)) : tWhile c tb D σ H :=
  ⟨fun m σ H => ∃ k, m = b - k ∧ J k σ H, ⟨_, k0, rfl, h0⟩, fun m σ H ⟨k, e, j⟩ => by subst e; exact hs k σ H j⟩
theorem rd_kWk {b k : Nat} {J : Nat → L2.St → Hp → Prop} {tb : TS} {D : Ends} {σ : L2.St} {H : Hp} {bb : Bool} (ht : bb = true → k < b ∧ tb { D with nx := J (k + 1), ct := J (k + 1), bk := D.nx } σ H) (hf : bb = false → D.nx σ H) : kWk b k J tb D σ bb H := by
  unfold kWk
  cases bb with
  | true =>
    obtain ⟨h1, h2⟩ := ht rfl
    rw [if_pos rfl]
    exact ⟨J (k + 1), fun σ' H' j => ⟨b - (k + 1), by omega, k + 1, rfl, j⟩, h2⟩
  | false =>
    rw [if_neg Bool.false_ne_true]
    exact hf rfl
/-- a list of the program's tuples of numbers -/
def SetsF (H : Hp) (l : Addr) (ts : List SRow) : Prop := H l = some (.lst (ts.map sv)) ∧ ∀ t ∈ ts, FrT H t.1 ((nz t.2).map V.int)
theorem SetsF.same {H H' : Hp} {l : Addr} {ts : List SRow} (h : SetsF H l ts) (e : ∀ c o, H c = some o → H' c = some o) : SetsF H' l ts := ⟨e _ _ h.1, fun t ht => (h.2 t ht).onto fun o z => e _ _ z⟩
theorem dp_setsFAll {K : PySem.W.Frag} {H : Hp} : ∀ {ts : List SRow}, (∀ t ∈ ts, FrT H t.1 ((nz t.2).map V.int)) → DpAll K H (ts.map sv) ((ts.map Prod.snd).map setD)
  | [], _ => .nil
  | t :: r, h => .cons (dp_set (h t (List.mem_cons_self ..)).seq) (dp_setsFAll fun x hx => h x (List.mem_cons_of_mem _ hx))
theorem dp_setsF {K : PySem.W.Frag} {H : Hp} {l : Addr} {ts : List SRow} (h : SetsF H l ts) : Dp K H (.ref l) (setsD (ts.map Prod.snd)) := .lst (SqL.of h.1) (dp_setsFAll h.2)
/-- a dict whose keys stand in that order -/
def KeysF (kvs : FK) (f : TW) : Prop := kvs.map (fun q => q.2.1) = f.map Prod.fst
theorem lookF_mem (kvs : FK) (t : List Nat) : (lookF kvs t).isSome = decide (t ∈ kvs.map fun q => q.2.1) := by
  induction kvs with
  | nil => rfl
  | cons q r ih =>
    by_cases z : q.2.1 = t
    · rw [lookF_pos z, List.map_cons, decide_eq_true (List.mem_cons.mpr (.inl z.symm))]
      rfl
    · rw [lookF_neg z, ih, List.map_cons]
      have : t ≠ q.2.1 := fun y => z y.symm
      simp [List.mem_cons, this]
theorem FitW.keys {H : Hp} {f : TW} {kvs : FK} (F : FitW H f kvs) : KeysF kvs f := by
  unfold FitW at F
  unfold KeysF
  induction F with
  | nil => rfl
  | cons h t ih => rw [List.map_cons, List.map_cons, ih, h.1]
theorem DFr.sets {P : Program} {w : World} {H : Hp} {a : Addr} {kvs : FK} (D : DFr P w H a kvs) : ∀ t ∈ kvs.map (fun q => ((q.1, q.2.1) : SRow)), FrT H t.1 ((nz t.2).map V.int) := fun t ht => by
  obtain ⟨q, hq, rfl⟩ := List.mem_map.mp ht
  obtain ⟨k, hk⟩ := List.getElem?_of_mem hq
  exact D.key hk
end My
namespace My
open PySem PySem.Spec PyProof.Rows L2
section
variable {P : Program} {w : World} {σ : L2.St} {H : Hp} {Q : VK} {tk tv : TE}
def kFDk (P : Program) (w : World) (p : Addr) (tv : TE) (σ : L2.St) (Q : VK) : VK := fun x H1 => tv σ H1 fun y H2 => ∃ b k, x = .ref b ∧ FrT H2 b ((nz k).map V.int) ∧ DFr P w H2 p [] ∧ ∀ H3, Off p H2 H3 → DFr P w H3 p [(b, k, y)] → Q (.ref p) H3
theorem rd_fdisp (h : ∀ p H0, H p = none → (∀ b o, H b = some o → H0 b = some o) → DFr P w H0 p [] → tk σ H0 (kFDk P w p tv σ Q)) : tFDisp P w tk tv σ H Q := h
theorem rd_kFDk {p b : Addr} (h : tv σ H (kFD P w p b Q)) : kFDk P w p tv σ Q (.ref b) H := by
  unfold kFDk
  have e : (fun (y : V) (H2 : Hp) => ∃ b' k, V.ref b = .ref b' ∧ FrT H2 b' ((nz k).map V.int) ∧ DFr P w H2 p [] ∧ ∀ H3, Off p H2 H3 → DFr P w H3 p [(b', k, y)] → Q (.ref p) H3) = kFD P w p b Q := by
    funext y H2
    apply propext
    constructor
    · rintro ⟨b', k, e, z⟩
      cases e
      exact ⟨k, z⟩
    · rintro ⟨k, z⟩
      exact ⟨b, k, rfl, z⟩
  rw [e]
  exact h
end
theorem KeysF.len {kvs : FK} {f : TW} (h : KeysF kvs f) : kvs.length = f.length := by
  have := congrArg List.length h
  rw [List.length_map, List.length_map] at this
  exact this
theorem KeysF.isSome {kvs : FK} {f : TW} (h : KeysF kvs f) (t : List Nat) : (lookF kvs t).isSome = decide (t ∈ f.map Prod.fst) := by
  rw [lookF_mem, show kvs.map (fun q => q.2.1) = f.map Prod.fst from h]
end My
namespace My
open PySem PySem.Spec PyProof.Rows L2
/-- sum(t) of a tuple of ints -/
def rSumT (K : PySem.W.Frag) : List V → Hp → VK → Prop := fun vs H Q => ∃ (a : Addr) (ns : List Int), vs = [V.ref a] ∧ SqT K H a (ns.map V.int) ∧ Q (.int ns.sum) H
theorem cr_sumT {X : Cx} (hc : X.calm = true) : CallR X (.builtin "sum") (rSumT X.K) := by
  intro pins s σ H vs us Q I r h
  obtain ⟨a, ns, rfl, hs, q⟩ := h
  obtain ⟨its, rv, ht, _⟩ := I.tuple hs
  rw [Vals.ref1 r]
  have hi := rv.ints
  obtain ⟨xs, e⟩ := hi.allInts.items
  have hn : numsOf (intItems xs).toList = ns := by rw [← e]; exact hi.numsOf
  rw [nums_intItems] at hn
  rw [e] at ht
  refine PySem.W.ktm_sumG (I.ok.hd hc) ht fun h' tk t' hk => ?_
  rw [preSum_eq, List.take_of_length_le (by simp), hn]
  exact ⟨.int _, H, I.kept hk, ⟨_, rfl⟩, q⟩
theorem rd_sumT {K : PySem.W.Frag} {H : Hp} {Q : VK} {p : Addr} {ns : List Int} (h : SqT K H p (ns.map V.int)) (k : Q (.int ns.sum) H) : rSumT K [.ref p] H Q := ⟨p, ns, rfl, h, k⟩
end My
namespace My
open PySem PySem.Spec PyProof.Rows L2
local macro_rules | `(tactic| walk_at "rd") => `(tactic| with_reducible (first
  | refine My.rd_seq ?_ | refine My.rd_var rfl ?_ | refine My.rd_op ?_ | refine My.rd_c ?_ | refine My.rd_asg ?_ | refine My.rd_name ?_ | refine My.rd_I0 ?_ | refine My.rd_test ?_ | refine My.rd_kB ?_
  | refine My.rd_ret ?_ | refine My.rd_cons ?_ | refine My.rd_nil ?_ | refine My.rd_call ?_ | refine My.rd_callS ?_ | refine My.rd_make ?_ | refine My.rd_CB ?_ | refine My.rd_par ?_ | refine My.rd_lst ?_ | refine My.rd_tup ?_ | refine My.rd_un ?_ | refine My.rd_U ?_
  | refine My.rd_eqI ?_ | refine My.rd_neI ?_ | refine My.rd_and ?_ | refine My.rd_or ?_ | refine My.rd_not ?_ | refine My.rd_B ?_ | refine My.rd_andV ?_ | refine My.rd_orV ?_ | refine My.rd_notV ?_ | refine My.rd_if ?_ | refine My.rd_drop ?_ | refine My.rd_next ?_ | refine My.rd_retN ?_ | refine My.rd_sub ?_ | refine My.rd_int ?_ | refine My.rd_intB ?_ | refine My.rd_abs ?_ | refine My.rd_fld ?_ | refine My.rd_sfld ?_ | refine My.rd_gcd ?_ | refine My.rd_gcons ?_ | refine My.rd_gnil ?_ | refine My.rd_sl ?_ | refine My.rd_noPart ?_ | refine My.rd_part ?_ | refine My.rd_kPart ?_ | refine My.rd_for ?_ | refine My.rd_lc ?_ | refine My.rd_rev ?_ | refine My.rd_forR ?_ | refine My.rd_forR2 ?_ | refine My.rd_forZ ?_ | refine My.rd_meth ?_ | refine My.rd_chain ?_ | refine My.rd_kChain ?_ | refine My.rd_lcR1 ?_ | refine My.rd_lcR2 ?_))
local macro_rules | `(tactic| walk_at "sd") => `(tactic| (first | decide | omega | assumption))
local macro_rules | `(tactic| walk_at "rt") => `(tactic| (first
  | walk_at "rd"
  | ((with_reducible refine My.rd_modP ?hc ?_); (case hc => walk_at "sd"))
  | ((with_reducible refine My.rd_divP ?hc ?hd ?_); (case hc => walk_at "sd"); (case hd => first | exact My.div_s (by omega) (by omega)))
  | ((with_reducible refine' My.rd_powC ?h0 ?h1 ?h2 ?e ?_); (case e => (simp only [Int.reduceToNat, Int.reducePow]; try rfl)); (case h0 => walk_at "sd"); (case h1 => walk_at "sd"); (case h2 => walk_at "sd"))
  | ((with_reducible refine My.rd_pow ?h0 ?h1 ?h2 ?_); (case h0 => walk_at "sd"); (case h1 => walk_at "sd"); (case h2 => walk_at "sd"))
  | ((with_reducible refine My.rd_mul ?hc ?_); (case hc => first | exact My.mul_r (by omega) (by omega) | exact My.mul_l (by omega) (by omega)))
  | ((with_reducible refine' My.rd_ixL ?hl ?ha ?_); (case hl => assumption); (case ha => rfl))
  | ((with_reducible refine' My.rd_ixT ?hl ?ha ?_); (case hl => assumption); (case ha => rfl))
  | ((with_reducible refine' My.rd_app ?e ?hl ?_); (case e => rfl); (case hl => assumption))
  | ((with_reducible refine' My.rd_glst ?hl ?hn ?_); (case hl => assumption); (case hn => rfl))
  | ((with_reducible refine' My.rd_len ?hl ?_); (case hl => assumption))
  | ((with_reducible refine' My.rd_lenT ?hl ?_); (case hl => assumption))
  | ((with_reducible refine' My.rd_gtup ?hl ?hn ?_); (case hl => assumption); (case hn => rfl))))
local macro_rules | `(tactic| walk_at "rs") => `(tactic| (first | walk_at "rt" | (with_reducible refine My.rd_ifS ?_)))

local macro_rules | `(tactic| walk_at "rg") => `(tactic| (first
  | walk_at "rt"
  | ((with_reducible refine' My.rd_top ?ht ?hs ?_); (case ht => assumption); (case hs => assumption))
  | ((with_reducible refine' My.rd_bot ?ht ?hs ?_); (case ht => assumption); (case hs => assumption))
  | ((with_reducible refine My.rd_mul ?hc ?_); (case hc => first | assumption | exact My.mul_b (by assumption) (by assumption) (by decide)))))
local macro_rules | `(tactic| walk_at "rf") => `(tactic| (first | walk_at "rg" | (with_reducible refine My.rd_ifS ?_)))

def top (i : Nat) : Stmt := PySem.Challenge.pw_elderdraw_k25_all_maps.main.body.getD i (.Pass ⟨0, 0, 0, 0⟩)
abbrev s_NoTurns___init__ : Stmt := inClass (top 2) 0
abbrev s_staying : Stmt := top 5
abbrev s_one_then_other : Stmt := top 6
abbrev s_is_whole : Stmt := top 8
abbrev s_is_whole_within : Stmt := top 9
abbrev s_maps_of : Stmt := top 12
abbrev s__first_words : Stmt := top 13
abbrev s_Turns___init__ : Stmt := inClass (top 17) 0
abbrev s_Turns___eq__ : Stmt := inClass (top 17) 1
abbrev s_Turns___len__ : Stmt := inClass (top 17) 2
abbrev s__are_maps : Stmt := top 18
abbrev s__is_map : Stmt := top 19
abbrev s__law_cell_at : Stmt := top 21
abbrev s__law_well : Stmt := top 22
abbrev s__law_draw : Stmt := top 23
abbrev s__law_one : Stmt := top 24
abbrev s__law_map : Stmt := top 25
abbrev s__law_turns : Stmt := top 26
abbrev s__law_found : Stmt := top 27
abbrev s__law_said : Stmt := top 28
abbrev s__law_round : Stmt := top 29
abbrev s__law_rings : Stmt := top 30
abbrev s_law : Stmt := top 31
structure Tx (K : PySem.W.Frag) (mg : Str → Option Value) : Prop where
  n_int : mg "int" = none
  n_len : mg "len" = none
  n_abs : mg "abs" = none
  n_repr : mg "repr" = none
  n_isinstance : mg "isinstance" = none
  n_bool : mg "bool" = none
  n_str : mg "str" = none
  n_list : mg "list" = none
  n_tuple : mg "tuple" = none
  n_range : mg "range" = none
  n_zip : mg "zip" = none
  n_enumerate : mg "enumerate" = none
  n_sum : mg "sum" = none
  n_any : mg "any" = none
  n_all : mg "all" = none
  n_min : mg "min" = none
  n_max : mg "max" = none
  n_sorted : mg "sorted" = none
/-- a well at p, from which at most N draws were made -/
def WellAt (H : Hp) (p : Addr) (N : Nat) : Prop := ∃ a b c : Int, H p = some (.lst [.int a, .int b, .int c]) ∧ 0 ≤ b ∧ b < 2147483647 ∧ 0 ≤ c ∧ c ≤ (N : Int)
/-- all but p as it was -/
def But (p : Addr) (H H' : Hp) : Prop := ∀ b o, b ≠ p → H b = some o → H' b = some o
theorem But.refl {p : Addr} {H : Hp} : But p H H := fun _ _ _ h => h
theorem But.trans {p : Addr} {H H1 H2 : Hp} (a : But p H H1) (b : But p H1 H2) : But p H H2 := fun c o n h => b c o n (a c o n h)
theorem But.upd {p : Addr} {H : Hp} {o : HO} : But p H (upd H p o) := fun b u n h => by rw [upd_ne n]; exact h
theorem Same.new {H : Hp} {p : Addr} {o : HO} (h : H p = none) : Same H (upd H p o) := fun b u e => by rw [upd_ne (ne_of_none e h)]; exact e
theorem WellAt.same {H H' : Hp} {p : Addr} {N : Nat} (w : WellAt H p N) (e : Same H H') : WellAt H' p N := by
  obtain ⟨a, b, c, h, r⟩ := w
  exact ⟨a, b, c, e _ _ h, r⟩
section
variable {P : Program} {w : World} {K : PySem.W.Frag} {mg : Str → Option Value} {base : Heap}
def spWell : Sp := fun vs H Q _ => ∃ c : Int, vs = [.int c] ∧ ∀ p H', H p = none → Same H H' → WellAt H' p 0 → Q (.ref p) H'
abbrev N__law_well : List Str := ["_law_cell"]
theorem sc__law_well : FnScope ["_law_cell"] ["_law_cell"] (defScope s__law_well) := ⟨rfl, rfl, rfl, by decide +kernel, rfl, by decide +kernel, by decide +kernel⟩
theorem ok_well {f : Addr} {fd : FuncData} (F : Fun K "_law_well" "_law_well" s__law_well f fd) (T : Tx K mg) : FnOk P w K mg base CX0 1 f fd ["_law_cell"] spWell := by
  refine F.ok sc__law_well (fun vs H Q E h => ?_) (fun cdv A outer s H vs Q E hr h => ?_)
  · obtain ⟨c, rfl, _⟩ := h
    rfl
  · obtain ⟨c, rfl, k⟩ := h
    refine ⟨_, (pss_one (ps_ret (pe_lst (pa_cons (pe_op op_mulA (pv 0) (pe_callTy cr_int (by rfl) T.n_int (by decide +kernel) (pa_cons (pe_cmpR op_ge (pv 0) (pe_op op_powA pe_int pe_int) (nomark _)) pa_nil))) (pa_cons (pe_op op_modA (pv 0) pe_int) (pa_cons pe_int pa_nil)))))), ?_⟩
    repeat walk_at "rs"
    refine rd_kLst rfl fun p hp => ?_
    exact k p _ hp (Same.new hp) ⟨_, _, _, upd_same, by omega, by omega, by omega, by omega⟩
abbrev primes : List V := [V.int 2147483647, V.int 2147483629, V.int 2147483587, V.int 2147483579, V.int 2147483563, V.int 2147483549, V.int 2147483543]
theorem prime_at {i : Int} (h : 0 ≤ i) (h' : i < 7) : ∃ q : Int, atI primes i = some (.int q) ∧ 0 < q ∧ q ≤ 2147483647 := by
  have e : i = 0 ∨ i = 1 ∨ i = 2 ∨ i = 3 ∨ i = 4 ∨ i = 5 ∨ i = 6 := by omega
  rcases e with rfl | rfl | rfl | rfl | rfl | rfl | rfl <;> exact ⟨_, rfl, by decide, by decide⟩
def spDraw : Sp := fun vs H Q _ => ∃ (p : Addr) (m : Int) (N : Nat), vs = [.ref p, .int m] ∧ WellAt H p N ∧ N < 1000000000 ∧ 0 < m ∧ m ≤ 10 ^ 28 ∧
  ∀ r H', 0 ≤ r → r < m → But p H H' → WellAt H' p (N + 1) → Q (.int r) H'
abbrev N__law_draw : List Str := ["_law_well_here", "_law_many", "_law_digit", "_law_prime", "_law_number"]
theorem sc__law_draw : FnScope ["_law_well_here", "_law_many", "_law_digit", "_law_prime", "_law_number"] ["_law_well_here", "_law_many"] (defScope s__law_draw) := ⟨rfl, rfl, rfl, by decide +kernel, rfl, by decide +kernel, by decide +kernel⟩
theorem ok_draw {f : Addr} {fd : FuncData} (F : Fun K "_law_draw" "_law_draw" s__law_draw f fd) (T : Tx K mg) : FnOk P w K mg base CX0 1 f fd ["_law_well_here", "_law_many"] spDraw := by
  refine F.ok sc__law_draw (fun vs H Q E h => ?_) (fun cdv A outer s H vs Q E hr h => ?_)
  · obtain ⟨p, m, N, rfl, _⟩ := h
    rfl
  · obtain ⟨p, m, N, rfl, ⟨a, b, c, hw, hb0, hb1, hc0, hc1⟩, hN, hm0, hm1, k⟩ := h
    have hm9 : CDivA a m := div_b (b := 100) (by omega) (by omega) (by decide) (by decide)
    refine ⟨_, (pss_cons (ps_if (pt_cmpR op_gt (pe_ix ix_list (pv 0) pe_int (fun _ _ => rfl)) pe_int (nomark _)) (pss_cons (ps_set (i := 2) sc__law_draw.nd rfl (Or.inl rfl) (pe_op op_modA (pe_ix ix_list (pv 0) pe_int (fun _ _ => rfl)) (pv 1)))
 (pss_cons (ps_asg (pe_op op_fdivA (pe_ix ix_list (pv 0) pe_int (fun _ _ => rfl)) (pv 1)) (pg_sub (pv 0) pe_int set_list))
 (pss_one (ps_ret (pv 2))))) pss_nil)
 (pss_cons (ps_asg (pe_op op_add (pe_ix ix_list (pv 0) pe_int (fun _ _ => rfl)) pe_int) (pg_sub (pv 0) pe_int set_list))
 (pss_cons (ps_set (i := 3) sc__law_draw.nd rfl (Or.inl rfl) (pe_ix ix_list (pe_lst (pa_cons pe_int (pa_cons pe_int (pa_cons pe_int (pa_cons pe_int (pa_cons pe_int (pa_cons pe_int (pa_cons pe_int pa_nil)))))))) (pe_op op_modA (pe_ix ix_list (pv 0) pe_int (fun _ _ => rfl)) pe_int) (fun _ _ => rfl)))
 (pss_cons (ps_set (i := 4) sc__law_draw.nd rfl (Or.inl rfl) (pe_op op_modA (pe_op op_powA (pe_op op_add (pe_op op_add (pe_ix ix_list (pv 0) pe_int (fun _ _ => rfl)) (pe_op op_mulA pe_int (pe_ix ix_list (pv 0) pe_int (fun _ _ => rfl)))) pe_int) pe_int) (pv 3)))
 (pss_cons (ps_set (i := 4) sc__law_draw.nd rfl (Or.inl rfl) (pe_op op_modA (pe_op op_mulA (pe_op op_add (pv 4) (pe_ix ix_list (pv 0) pe_int (fun _ _ => rfl))) (pe_op op_add (pe_op op_fdivA (pv 4) pe_int) pe_int)) (pv 3)))
 (pss_one (ps_ret (pe_op op_modA (pe_op op_fdivA (pv 4) pe_int) (pv 1))))))))), ?_⟩
    have hq : SqL K H p [.int a, .int b, .int c] := SqL.of hw
    repeat walk_at "rs"
    refine ite_d (fun ha => ?_) (fun ha => ?_)
    · repeat walk_at "rs"
      refine rd_divP hm0 hm9 ?_
      repeat walk_at "rs"
      refine rd_setL hw (j := 0) rfl ?_
      repeat walk_at "rs"
      exact k _ _ (Int.emod_nonneg _ (by omega)) (Int.emod_lt_of_pos _ hm0) But.upd ⟨_, _, _, upd_same, hb0, hb1, hc0, by omega⟩
    · repeat walk_at "rs"
      refine rd_setL hw (j := 2) rfl ?_
      have hq : SqL K (upd H p (.lst [.int a, .int b, .int (c + 1)])) p [.int a, .int b, .int (c + 1)] := SqL.of upd_same
      repeat walk_at "rs"
      refine rd_kLst rfl fun l hl => ?_
      have npl : p ≠ l := ne_of_none upd_same hl
      have hq : SqL K (upd (upd H p (.lst [.int a, .int b, .int (c + 1)])) l (.lst primes)) p [.int a, .int b, .int (c + 1)] := SqL.of (by rw [upd_ne npl]; exact upd_same)
      repeat walk_at "rs"
      obtain ⟨q, eq, q0, q1⟩ := prime_at (i := (c + 1) % 7) (by omega) (by omega)
      refine rd_ixL (SqL.of upd_same) eq ?_
      repeat walk_at "rs"
      have x0 := Int.emod_nonneg ((b + 7919 * (c + 1) + 1) ^ 5) (show q ≠ 0 by omega)
      have x1 := Int.emod_lt_of_pos ((b + 7919 * (c + 1) + 1) ^ 5) q0
      generalize (b + 7919 * (c + 1) + 1) ^ 5 % q = z at x0 x1
      refine rd_mul ?_ ?_
      · exact mul_r (by omega) (by omega)
      repeat walk_at "rs"
      have y0 := Int.emod_nonneg ((z + (c + 1)) * (z / 1009 + 69621)) (show q ≠ 0 by omega)
      exact k _ _ (Int.emod_nonneg _ (by omega)) (Int.emod_lt_of_pos _ hm0) (fun b o n h => by rw [upd_ne (ne_of_none (show upd H p _ b = some o by rw [upd_ne n]; exact h) hl), upd_ne n]; exact h)
        ⟨a, b, c + 1, by rw [upd_ne npl]; exact upd_same, hb0, hb1, by omega, by omega⟩
theorem sbut {p : Addr} {H H' : Hp} (e : Same H H') : But p H H' := fun b o _ h => e b o h
theorem But.seq {p l : Addr} {H H' : Hp} {xs : List V} (e : But p H H') (n : l ≠ p) (h : SqL K H l xs) : SqL K H' l xs := by
  rcases h with (h | ⟨o, h⟩) | h
  · exact .inl (.inl (e _ _ n h))
  · exact .inl (.inr ⟨o, e _ _ n h⟩)
  · exact .inr h
theorem WellAt.ne_new {H : Hp} {p l : Addr} {N : Nat} (w : WellAt H p N) (h : H l = none) : l ≠ p := by
  obtain ⟨a, b, c, e, _⟩ := w
  exact (ne_of_none e h).symm
theorem at_int {xs : List V} {r : Int} (h0 : 0 ≤ r) (h1 : r < (xs.length : Int)) : ∃ v, atI xs r = some v ∧ v ∈ xs := by
  obtain ⟨n, rfl⟩ : ∃ n : Nat, r = (n : Int) := ⟨r.toNat, by omega⟩
  have h : n < xs.length := by omega
  exact ⟨xs[n], atI_nat (List.getElem?_eq_getElem h), List.getElem_mem h⟩
def spOne (K : PySem.W.Frag) : Sp := fun vs H Q _ => ∃ (p l : Addr) (xs : List V) (N : Nat), vs = [.ref p, .ref l] ∧ WellAt H p N ∧ N < 1000000000 ∧ SqL K H l xs ∧ l ≠ p ∧ 0 < xs.length ∧ xs.length ≤ 100000 ∧
  ∀ v H', v ∈ xs → But p H H' → WellAt H' p (N + 1) → Q v H'
abbrev N__law_one : List Str := ["_law_well_here", "_law_some"]
theorem sc__law_one : FnScope ["_law_well_here", "_law_some"] ["_law_well_here", "_law_some"] (defScope s__law_one) := ⟨rfl, rfl, rfl, by decide +kernel, rfl, by decide +kernel, by decide +kernel⟩
theorem ok_one {f : Addr} {fd : FuncData} (F : Fun K "_law_one" "_law_one" s__law_one f fd) (T : Tx K mg) (d__law_draw : Df P w K mg base CX0 1 "_law_draw" ["_law_well_here", "_law_many"] spDraw) : FnOk P w K mg base CX0 2 f fd ["_law_well_here", "_law_some"] (spOne K) := by
  refine F.ok sc__law_one (fun vs H Q E h => ?_) (fun cdv A outer s H vs Q E hr h => ?_)
  · obtain ⟨p, l, xs, N, rfl, _⟩ := h
    rfl
  · obtain ⟨p, l, xs, N, rfl, hw, hN, hl, hne, h0, h1, k⟩ := h
    refine ⟨_, (pss_one (ps_ret (pe_ix ix_list (pv 1) (pe_df d__law_draw (hr.mono (by decide)) pass0 (pa_cons (pv 0) (pa_cons (pe_callB cr_len (by rfl) T.n_len PySem.boot_len (pa_cons (pv 1) pa_nil)) pa_nil))) (fun _ _ => rfl)))), ?_⟩
    repeat walk_at "rs"
    refine ⟨p, _, N, rfl, hw, hN, by omega, by omega, fun r H' r0 r1 e w' => ?_⟩
    obtain ⟨v, hv, hm⟩ := at_int r0 r1
    exact rd_ixL (e.seq hne hl) hv (k v H' hm e w')
theorem But.fresh {p T : Addr} {H H' : Hp} {N : Nat} (e : But p H H') (w : WellAt H' p N) (h : H' T = none) : H T = none := by
  cases q : H T with
  | none => rfl
  | some o =>
    rcases Classical.em (T = p) with rfl | n
    · obtain ⟨_, _, _, e, _⟩ := w
      rw [e] at h
      cases h
    · rw [e T o n q] at h
      cases h
/-- the law's list of cells is one of ints -/
theorem cells_int {ns : List Int} {lo hi : Option Int} {x : V} {i : Nat} {m1 m2 : Int} (h : (cutV (ns.map V.int) lo hi ++ [V.int m1, V.int m2])[i]? = some x) : ∃ z, x = V.int z := by
  have m := List.mem_of_getElem? h
  rcases List.mem_append.mp m with m | m
  · have m' := List.mem_of_mem_drop (List.mem_of_mem_take m)
    obtain ⟨z, _, rfl⟩ := List.mem_map.mp m'
    exact ⟨z, rfl⟩
  · simp only [List.mem_cons, List.not_mem_nil, or_false] at m
    rcases m with rfl | rfl <;> exact ⟨_, rfl⟩
def spLaw (K : PySem.W.Frag) : Sp := fun vs H Q _ => ∃ (a : Addr) (ns : List Int), vs = [.ref a] ∧ SqL K H a (ns.map V.int) ∧ ns.length ≤ 63 ∧ ∀ H', Q (.bl true) H'
theorem WellAt.ne_at {H : Hp} {p l : Addr} {N : Nat} {xs : List V} (w : WellAt H p N) (h : H l = some (.lst xs)) (n : xs.length ≠ 3) : l ≠ p := by
  obtain ⟨a, b, c, e, _⟩ := w
  refine ne_of h e fun y => ?_
  injection y with y
  rw [y] at n
  exact n rfl
theorem WellAt.off {H : Hp} {p S : Addr} {N : Nat} {o : HO} (w : WellAt H p N) (n : S ≠ p) : WellAt (upd H S o) p N := by
  obtain ⟨a, b, c, e, r⟩ := w
  exact ⟨a, b, c, by rw [upd_ne n.symm]; exact e, r⟩
theorem WellAt.mono {H : Hp} {p : Addr} {N M : Nat} (w : WellAt H p N) (h : N ≤ M) : WellAt H p M := by
  obtain ⟨a, b, c, e, h1, h2, h3, h4⟩ := w
  exact ⟨a, b, c, e, h1, h2, h3, by omega⟩
theorem But.updS {H H1 : Hp} {p S : Addr} {o : HO} (e : But p H H1) (h : H S = none) : But p H (L2.upd H1 S o) := fun c u n q => by rw [upd_ne (ne_of_none q h)]; exact e c u n q
theorem But.updF {H H1 : Hp} {p S : Addr} {o : HO} (e : But p H H1) (h : H1 S = none) : But p H (L2.upd H1 S o) := fun c u n q => by rw [upd_ne (ne_of_none (e c u n q) h)]; exact e c u n q
def spMap : Sp := fun vs H Q _ => ∃ (p : Addr) (n : Nat) (k : Int) (N : Nat), vs = [.ref p, .int (n : Int), .int k] ∧ WellAt H p N ∧ N < 100000000 ∧ 1 ≤ n ∧ n ≤ 100 ∧
  ∀ T ms H', H T = none → But p H H' → WellAt H' p (N + 100) → H' T = some (.tup ((nz ms).map V.int)) → MapOk n ms → Q (.ref T) H'
def kBmE (K : PySem.W.Frag) (r : V → List V → Hp → VK → Prop) (σ : L2.St) (t : TA) (Q : VK) : VK := fun x H1 => tyV K "list" x H1 ∧ t σ H1 fun xs H2 => r x xs H2 Q
theorem rd_bmE {r : V → List V → Hp → VK → Prop} {to : TE} {t : TA} {σ : L2.St} {H : Hp} {Q : VK} (h : to σ H (kBmE K r σ t Q)) : tBM K "list" r to t σ H Q := h
theorem rd_kBmE {r : V → List V → Hp → VK → Prop} {t : TA} {σ : L2.St} {H : Hp} {Q : VK} {l : Addr} {xs : List V} (hl : H l = some (.lst xs)) (h : t σ H fun ys H2 => r (.ref l) ys H2 Q) : kBmE K r σ t Q (.ref l) H := ⟨.inl ⟨rfl, _, SqL.of hl⟩, h⟩
theorem nz_snoc (ms : List Nat) (m : Nat) : (nz ms).map V.int ++ [V.int (m : Int)] = (nz (ms ++ [m])).map V.int := by
  unfold nz
  simp
theorem nz_at {ms : List Nat} {i m : Nat} (h : ms[i]? = some m) : ((nz ms).map V.int)[i]? = some (.int (m : Int)) := by
  unfold nz
  rw [List.getElem?_map, List.getElem?_map, h]
  rfl
theorem nz_erase (ms : List Nat) (j : Nat) : ((nz ms).map V.int).eraseIdx j = (nz (ms.eraseIdx j)).map V.int := by
  unfold nz
  rw [List.map_map, List.map_map]
  induction ms generalizing j with
  | nil => rfl
  | cons a r ih =>
    cases j with
    | zero => rfl
    | succ j => simp only [List.map_cons, List.eraseIdx_cons_succ, ih]
theorem mem_snoc {n : Nat} {ms : List Nat} {m : Nat} (h : ∀ x ∈ ms, x < n) (hm : m < n) : ∀ x ∈ ms ++ [m], x < n := fun x hx => by
  rcases List.mem_append.mp hx with hx | hx
  · exact h x hx
  · rw [List.mem_singleton.mp hx]; exact hm
abbrev N__law_map : List Str := ["_law_well_here", "_law_many", "_law_kind", "_law_left", "_law_place", "_law_step", "_law_at", "_law_to", "_law_found_here"]
theorem sc__law_map : FnScope ["_law_well_here", "_law_many", "_law_kind", "_law_left", "_law_place", "_law_step", "_law_at", "_law_to", "_law_found_here"] ["_law_well_here", "_law_many", "_law_kind"] (defScope s__law_map) := ⟨rfl, rfl, rfl, by decide +kernel, rfl, by decide +kernel, by decide +kernel⟩
theorem ok_map {f : Addr} {fd : FuncData} (F : Fun K "_law_map" "_law_map" s__law_map f fd) (T : Tx K mg) (d__law_draw : Df P w K mg base CX0 1 "_law_draw" ["_law_well_here", "_law_many"] spDraw) : FnOk P w K mg base CX0 2 f fd ["_law_well_here", "_law_many", "_law_kind"] spMap := by
  refine F.ok sc__law_map (fun vs H Q E h => ?_) (fun cdv A outer s H vs Q E hr h => ?_)
  · obtain ⟨p, n, k, N, rfl, _⟩ := h
    rfl
  · obtain ⟨p, n, kk, N, rfl, hw, hN, n1, n2, k⟩ := h
    refine ⟨_, (pss_cons (ps_if (pt_cmpR op_eq (pv 2) pe_int (nomark _)) (pss_cons (ps_set (i := 3) sc__law_map.nd rfl (Or.inr rfl) (pe_listRg rfl (by rfl) T.n_list (prg_1 (by rfl) T.n_range (pv 1))))
 (pss_one (ps_ret (pe_callTy cr_tupOf (by rfl) T.n_tuple (by decide +kernel) (pa_cons (pe_lc (own := [("_law_place", 4)]) (g := gName 4) (tt := tYes) (te := (tBM K "list" rPopAt (tVar 3) (tCons (tCall (spDraw) [] E0 (tCons (tVar 0) (tCons (tCB (rLen K) (tCons (tVar 3) tNil)) tNil))) tNil))) (by rfl) sc__law_map.nd (pi_range1 (by rfl) T.n_range (pa_cons (pv 1) pa_nil)) (blkOk_by (own := [("_law_place", 4)]) (N := N__law_map) (sc := defScope s__law_map) (by decide +kernel)) (fun _ _ _ _ _ => (pg_name (i := 4) sc__law_map.nd rfl (Or.inl rfl))) (fun _ _ _ _ _ => pts_nil) (fun _ _ _ _ _ => (pe_bm PySem.F.plainAttrs_list PySem.F.slot_list_pop PySem.F.type_list_pop mt_popAt (pv 3) (pa_cons (pe_df d__law_draw (hr.mono (by decide)) pass0 (pa_cons (pv 0) (pa_cons (pe_callB cr_len (by rfl) T.n_len PySem.boot_len (pa_cons (pv 3) pa_nil)) pa_nil))) pa_nil)))) pa_nil))))) pss_nil)
 (pss_cons (ps_if (pt_cmpR op_eq (pv 2) pe_int (nomark _)) (pss_cons (ps_set (i := 5) sc__law_map.nd rfl (Or.inr rfl) (pe_op op_sub (pe_df d__law_draw (hr.mono (by decide)) pass0 (pa_cons (pv 0) (pa_cons pe_int pa_nil))) pe_int))
 (pss_one (ps_ret (pe_callTy cr_tupOf (by rfl) T.n_tuple (by decide +kernel) (pa_cons (pe_lc (own := [("_law_place", 4)]) (g := gName 4) (tt := tYes) (te := (tCB rMin2 (tCons (tCB rMax2 (tCons (tOp (rI0 fun i j => V.int (i + j)) (tVar 4) (tVar 5)) (tCons (tC (V.int (0))) tNil))) (tCons (tOp (rI0 fun i j => V.int (i - j)) (tVar 1) (tC (V.int (1)))) tNil)))) (by rfl) sc__law_map.nd (pi_range1 (by rfl) T.n_range (pa_cons (pv 1) pa_nil)) (blkOk_by (own := [("_law_place", 4)]) (N := N__law_map) (sc := defScope s__law_map) (by decide +kernel)) (fun _ _ _ _ _ => (pg_name (i := 4) sc__law_map.nd rfl (Or.inl rfl))) (fun _ _ _ _ _ => pts_nil) (fun _ _ _ _ _ => (pe_callB (cr_min2 rfl) (by rfl) T.n_min (by decide +kernel) (pa_cons (pe_callB (cr_max2 rfl) (by rfl) T.n_max (by decide +kernel) (pa_cons (pe_op op_add (pv 4) (pv 5)) (pa_cons pe_int pa_nil))) (pa_cons (pe_op op_sub (pv 1) pe_int) pa_nil))))) pa_nil))))) pss_nil)
 (pss_cons (ps_if (pt_cmpR op_eq (pv 2) pe_int (nomark _)) (pss_cons (ps_set (i := 6) sc__law_map.nd rfl (Or.inr rfl) (pe_df d__law_draw (hr.mono (by decide)) pass0 (pa_cons (pv 0) (pa_cons (pv 1) pa_nil))))
 (pss_cons (ps_set (i := 7) sc__law_map.nd rfl (Or.inr rfl) (pe_df d__law_draw (hr.mono (by decide)) pass0 (pa_cons (pv 0) (pa_cons (pv 1) pa_nil))))
 (pss_one (ps_ret (pe_callTy cr_tupOf (by rfl) T.n_tuple (by decide +kernel) (pa_cons (pe_lc (own := [("_law_place", 4)]) (g := gName 4) (tt := tYes) (te := (tIf (tTest (tOp rEq (tVar 4) (tVar 6))) (tVar 7) (tVar 4))) (by rfl) sc__law_map.nd (pi_range1 (by rfl) T.n_range (pa_cons (pv 1) pa_nil)) (blkOk_by (own := [("_law_place", 4)]) (N := N__law_map) (sc := defScope s__law_map) (by decide +kernel)) (fun _ _ _ _ _ => (pg_name (i := 4) sc__law_map.nd rfl (Or.inl rfl))) (fun _ _ _ _ _ => pts_nil) (fun _ _ _ _ _ => (pe_ifExp (pt_cmpR op_eq (pv 4) (pv 6) (nomark _)) (pv 7) (pv 4)))) pa_nil)))))) pss_nil)
 (pss_cons (ps_set (i := 8) sc__law_map.nd rfl (Or.inl rfl) (pe_callTy cr_tupOf (by rfl) T.n_tuple (by decide +kernel) (pa_cons (pe_lc (own := [("_law_place", 4)]) (g := gName 4) (tt := tYes) (te := (tCall (spDraw) [] E0 (tCons (tVar 0) (tCons (tVar 1) tNil)))) (by rfl) sc__law_map.nd (pi_range1 (by rfl) T.n_range (pa_cons (pv 1) pa_nil)) (blkOk_by (own := [("_law_place", 4)]) (N := N__law_map) (sc := defScope s__law_map) (by decide +kernel)) (fun _ _ _ _ _ => (pg_name (i := 4) sc__law_map.nd rfl (Or.inl rfl))) (fun _ _ _ _ _ => pts_nil) (fun _ _ _ _ _ => (pe_df d__law_draw (hr.mono (by decide)) pass0 (pa_cons (pv 0) (pa_cons (pv 1) pa_nil))))) pa_nil)))
 (pss_cons (ps_if (pt_cmpR op_eq (pv 2) pe_int (nomark _)) (pss_one (ps_ret (pe_callTy cr_tupOf (by rfl) T.n_tuple (by decide +kernel) (pa_cons (pe_lc (own := [("_law_place", 4), ("_law_to", 7)]) (g := (gTup K 2 (gCons (gName 4) (gCons (gName 7) gNil)))) (tt := tYes) (te := (tIf (tTest (tOp rEq (tOp rModA (tOp (rI0 fun i j => V.int (i - j)) (tVar 7) (tVar 4)) (tC (V.int (2)))) (tC (V.int (0))))) (tVar 7) (tVar 4))) (by rfl) sc__law_map.nd (pi_enumT (by rfl) T.n_enumerate (pa_cons (pv 8) pa_nil)) (blkOk_by (own := [("_law_place", 4), ("_law_to", 7)]) (N := N__law_map) (sc := defScope s__law_map) (by decide +kernel)) (fun _ _ _ _ _ => (pg_tup (by rfl) (pgs_cons (pg_name (i := 4) sc__law_map.nd rfl (Or.inl rfl)) (pgs_cons (pg_name (i := 7) sc__law_map.nd rfl (Or.inl rfl)) pgs_nil)))) (fun _ _ _ _ _ => pts_nil) (fun _ _ _ _ _ => (pe_ifExp (pt_cmpR op_eq (pe_op op_modA (pe_op op_sub (pv 7) (pv 4)) pe_int) pe_int (nomark _)) (pv 7) (pv 4)))) pa_nil)))) pss_nil)
 (pss_one (ps_ret (pv 8)))))))), ?_⟩
    have hp : ∀ {H' : Hp} {M : Nat}, WellAt H' p M → ∃ o, H' p = some o := fun w => let ⟨a, b, c, e, _⟩ := w; ⟨_, e⟩
    repeat walk_at "rt"
    refine rd_ifS ?_
    repeat walk_at "rt"
    refine ite_d (fun hk => ?_) (fun hk => ?_)
    · repeat walk_at "rt"
      refine rd_lstRg1 ?_
      repeat walk_at "rt"
      refine rd_kRgL (n := n) (by omega) fun l0 hl0 => ?_
      have nl0 : l0 ≠ p := hw.ne_new hl0
      have w0 := hw.same (Same.new (o := .lst ((nz (List.range n)).map V.int)) hl0)
      repeat walk_at "rt"
      refine ⟨(n : Int), rfl, by omega, by omega, rd_kLcN (fun i acc D H' => ∃ ms ls, acc = (nz ms).map V.int ∧ ms.length = i ∧ ls.length + i = n ∧ But p H H' ∧ WellAt H' p (N + i) ∧ D ≠ p ∧ D ≠ l0 ∧ H' l0 = some (.lst ((nz ls).map V.int)) ∧ (∀ x ∈ ms, x < n) ∧ ∀ x ∈ ls, x < n)
        (fun D hD => ⟨[], List.range n, rfl, rfl, by simp, (sbut (Same.new hl0)).updF hD, w0.same (Same.new hD), w0.ne_new hD, (ne_of_none upd_same hD).symm, by rw [upd_ne (ne_of_none upd_same hD)]; exact upd_same, fun x hx => (nomatch hx), fun x hx => List.mem_range.mp hx⟩) ?_ (g_mono _ _) ?_⟩
      · rintro i acc D H4 hD hi hacc hlen ⟨ms, ls, rfl, hms, hls, b4, w4, nD, nl, hl, h1, h2⟩
        have hq := SqL.of (K := K) hl
        have hi2 : i < n := by omega
        repeat walk_at "rt"
        refine ⟨rfl, ?_⟩
        refine rd_bmE ?_
        repeat walk_at "rt"
        refine rd_kBmE hl ?_
        repeat walk_at "rt"
        rw [nz_len]
        refine ⟨p, (ls.length : Int), _, rfl, w4, by omega, by omega, by omega, fun r H5 r0 r1 e5 w5 => ?_⟩
        obtain ⟨j, rfl⟩ : ∃ j : Nat, r = (j : Int) := ⟨r.toNat, by omega⟩
        have hj : j < ls.length := by omega
        have hx : ls[j]? = some ls[j] := List.getElem?_eq_getElem hj
        have hl5 := e5 _ _ nl0 hl
        have hacc5 := e5 _ _ nD hacc
        repeat walk_at "rt"
        refine rd_popAt (xs := (nz ls).map V.int) hl5 (nz_at hx) (by rw [nz_len]; omega) ?_
        rw [nz_erase]
        refine rd_lcEnd (acc := (nz ms).map V.int) (by rw [upd_ne nl]; exact hacc5) hlen (by omega) ⟨ms ++ [ls[j]], ls.eraseIdx j, nz_snoc _ _, by simp [hms], by rw [List.length_eraseIdx, if_pos hj]; omega, ?_, ?_, nD, nl, by rw [upd_ne nl.symm]; exact upd_same, mem_snoc h1 (h2 _ (List.getElem_mem hj)), fun x hx => h2 x (List.mem_of_mem_eraseIdx hx)⟩
        · intro c u nc hc
          have h5 := e5 _ _ nc (b4 _ _ nc hc)
          rw [upd_ne (ne_of_none hc ((sbut (Same.new hl0)).fresh w0 hD)), upd_ne (ne_of_none hc hl0)]
          exact h5
        · exact (w5.off nl0).off nD
      · rintro acc D H4 hD hlen hacc ⟨ms, ls, rfl, hms, hls, b4, w4, nD, nl, hl, h1, h2⟩
        repeat walk_at "rt"
        refine rd_tupOf (SqL.of hacc) fun T hT => ?_
        have sT := Same.new (o := .tup ((nz ms).map V.int)) hT
        exact k T ms _ (b4.fresh w4 hT) (b4.updF hT) ((w4.same sT).mono (by omega)) upd_same ⟨by omega, h1⟩
    · repeat walk_at "rt"
      refine rd_ifS ?_
      repeat walk_at "rt"
      refine ite_d (fun hk2 => ?_) (fun hk2 => ?_)
      · repeat walk_at "rt"
        refine ⟨p, 3, N, rfl, hw, by omega, by decide, by decide, fun r H1 r0 r1 e1 w1 => ?_⟩
        repeat walk_at "rt"
        refine ⟨(n : Int), rfl, by omega, by omega, rd_kLcN (fun i acc D H' => ∃ ms, acc = (nz ms).map V.int ∧ ms.length = i ∧ But p H H' ∧ WellAt H' p (N + 1) ∧ D ≠ p ∧ ∀ x ∈ ms, x < n)
          (fun D hD => ⟨[], rfl, rfl, e1.updF hD, w1.same (Same.new hD), w1.ne_new hD, fun x hx => (nomatch hx)⟩) ?_ (g_mono _ _) ?_⟩
        · rintro i acc D H4 hD hi hacc hlen ⟨ms, rfl, hms, b4, w4, nD, h1⟩
          have hi2 : i < n := by omega
          repeat walk_at "rt"
          refine ⟨rfl, ?_⟩
          repeat walk_at "rt"
          refine rd_max2 ?_
          repeat walk_at "rt"
          refine rd_min2 ?_
          obtain ⟨m, em, hm⟩ : ∃ m : Nat, min (max (0 + (i : Int) + (r - 1)) 0) ((n : Int) - 1) = (m : Int) ∧ m < n := ⟨(min (max (0 + (i : Int) + (r - 1)) 0) ((n : Int) - 1)).toNat, by omega, by omega⟩
          rw [em]
          exact rd_lcEnd hacc hlen (by omega) ⟨ms ++ [m], nz_snoc _ _, by simp [hms], b4.updS (e1.fresh w1 hD), w4.off nD, nD, mem_snoc h1 hm⟩
        · rintro acc D H4 hD hlen hacc ⟨ms, rfl, hms, b4, w4, nD, h1⟩
          repeat walk_at "rt"
          refine rd_tupOf (SqL.of hacc) fun T hT => ?_
          have sT := Same.new (o := .tup ((nz ms).map V.int)) hT
          exact k T ms _ (b4.fresh w4 hT) (b4.updF hT) ((w4.same sT).mono (by omega)) upd_same ⟨by omega, h1⟩
      · repeat walk_at "rt"
        refine rd_ifS ?_
        repeat walk_at "rt"
        refine ite_d (fun hk3 => ?_) (fun hk3 => ?_)
        · repeat walk_at "rt"
          refine ⟨p, (n : Int), N, rfl, hw, by omega, by omega, by omega, fun r H1 r0 r1 e1 w1 => ?_⟩
          repeat walk_at "rt"
          refine ⟨p, (n : Int), _, rfl, w1, by omega, by omega, by omega, fun q H2 q0 q1 e2 w2 => ?_⟩
          repeat walk_at "rt"
          refine ⟨(n : Int), rfl, by omega, by omega, rd_kLcN (fun i acc D H' => ∃ ms, acc = (nz ms).map V.int ∧ ms.length = i ∧ But p H H' ∧ WellAt H' p (N + 1 + 1) ∧ D ≠ p ∧ ∀ x ∈ ms, x < n)
            (fun D hD => ⟨[], rfl, rfl, (e1.trans e2).updF hD, w2.same (Same.new hD), w2.ne_new hD, fun x hx => (nomatch hx)⟩) ?_ (g_mono _ _) ?_⟩
          · rintro i acc D H4 hD hi hacc hlen ⟨ms, rfl, hms, b4, w4, nD, h1⟩
            have hi2 : i < n := by omega
            have fin : ∀ m : Nat, m < n → kLcEnd (fun i acc D H' => ∃ ms, acc = (nz ms).map V.int ∧ ms.length = i ∧ But p H H' ∧ WellAt H' p (N + 1 + 1) ∧ D ≠ p ∧ ∀ x ∈ ms, x < n) D i (.int (m : Int)) H4 := fun m hm =>
              rd_lcEnd hacc hlen (by omega) ⟨ms ++ [m], nz_snoc _ _, by simp [hms], b4.updS ((e1.trans e2).fresh w2 hD), w4.off nD, nD, mem_snoc h1 hm⟩
            repeat walk_at "rt"
            refine ⟨rfl, ?_⟩
            repeat walk_at "rt"
            refine ite_d (fun hq => ?_) (fun hq => ?_)
            · repeat walk_at "rt"
              obtain ⟨m, rfl⟩ : ∃ m : Nat, q = (m : Int) := ⟨q.toNat, by omega⟩
              exact fin m (by omega)
            · repeat walk_at "rt"
              rw [show (0 : Int) + (i : Int) = (i : Int) from by omega]
              exact fin i hi2
          · rintro acc D H4 hD hlen hacc ⟨ms, rfl, hms, b4, w4, nD, h1⟩
            repeat walk_at "rt"
            refine rd_tupOf (SqL.of hacc) fun T hT => ?_
            have sT := Same.new (o := .tup ((nz ms).map V.int)) hT
            exact k T ms _ (b4.fresh w4 hT) (b4.updF hT) ((w4.same sT).mono (by omega)) upd_same ⟨by omega, h1⟩
        · repeat walk_at "rt"
          refine ⟨(n : Int), rfl, by omega, by omega, rd_kLcN (fun i acc D H' => ∃ ms, acc = (nz ms).map V.int ∧ ms.length = i ∧ But p H H' ∧ WellAt H' p (N + i) ∧ D ≠ p ∧ ∀ x ∈ ms, x < n)
            (fun D hD => ⟨[], rfl, rfl, (But.refl).updF hD, hw.same (Same.new hD), hw.ne_new hD, fun x hx => (nomatch hx)⟩) ?_ (g_mono _ _) ?_⟩
          · rintro i acc D H4 hD hi hacc hlen ⟨ms, rfl, hms, b4, w4, nD, h1⟩
            have hi2 : i < n := by omega
            repeat walk_at "rt"
            refine ⟨rfl, ?_⟩
            repeat walk_at "rt"
            refine ⟨p, (n : Int), _, rfl, w4, by omega, by omega, by omega, fun r H5 r0 r1 e5 w5 => ?_⟩
            obtain ⟨m, rfl⟩ : ∃ m : Nat, r = (m : Int) := ⟨r.toNat, by omega⟩
            exact rd_lcEnd (e5 _ _ nD hacc) hlen (by omega) ⟨ms ++ [m], nz_snoc _ _, by simp [hms], (b4.trans e5).updS hD, w5.off nD, nD, mem_snoc h1 (by omega)⟩
          · rintro acc D H4 hD hlen hacc ⟨ms, rfl, hms, b4, w4, nD, h1⟩
            repeat walk_at "rt"
            refine rd_tupOf (SqL.of hacc) fun T hT => ?_
            have sT := Same.new (o := .tup ((nz ms).map V.int)) hT
            have b5 := b4.updF (o := .tup ((nz ms).map V.int)) hT
            have w5 := w4.same sT
            have hT5 := upd_same (H := H4) (a := T) (o := .tup ((nz ms).map V.int))
            have hT0 := b4.fresh w4 hT
            have nT : T ≠ p := w4.ne_new hT
            generalize upd H4 T (.tup ((nz ms).map V.int)) = H5 at *
            repeat walk_at "rt"
            refine rd_ifS ?_
            repeat walk_at "rt"
            refine ite_d (fun hk4 => ?_) (fun hk4 => ?_)
            · repeat walk_at "rt"
              refine rd_lcET ?_
              repeat walk_at "rt"
              refine rd_kLcET (fun i acc D H' => ∃ ks, acc = (nz ks).map V.int ∧ ks.length = i ∧ But p H5 H' ∧ WellAt H' p (N + n) ∧ D ≠ p ∧ ∀ x ∈ ks, x < n) (SqT.of hT5)
                (fun D hD => ⟨[], rfl, rfl, (But.refl).updF hD, (w5.same (Same.new hD)).mono (by omega), w5.ne_new hD, fun x hx => (nomatch hx)⟩) (fun i acc D H' ⟨ks, _, _, b, _⟩ => SqT.of (b _ _ nT hT5)) ?_ ?_
              · rintro i x T2 acc D2 H6 hD2 hi hx hacc6 hlen6 ⟨ks, rfl, hks, b6, w6, nD2, h6⟩ hT2
                have hi2 : i < n := by rw [nz_len] at hi; omega
                have hx2 := nz_at (List.getElem?_eq_getElem (show i < ms.length by omega))
                cases hx.symm.trans hx2
                have s2 := Same.new (o := .tup [.int (i : Int), .int ((ms[i] : Nat) : Int)]) hT2
                have fin : ∀ m : Nat, m < n → kLcTE (fun i acc D H' => ∃ ks, acc = (nz ks).map V.int ∧ ks.length = i ∧ But p H5 H' ∧ WellAt H' p (N + n) ∧ D ≠ p ∧ ∀ x ∈ ks, x < n) D2 i (.int (m : Int)) (upd H6 T2 (.tup [.int (i : Int), .int ((ms[i] : Nat) : Int)])) := fun m hm =>
                  rd_lcTE (s2 _ _ hacc6) (by rw [nz_len]; omega) (by omega) ⟨ks ++ [m], nz_snoc _ _, by simp [hks], (b6.updF hT2).updS hD2, (w6.same s2).off nD2, nD2, mem_snoc h6 hm⟩
                have hS := SqT.of (K := K) (upd_same (H := H6) (a := T2) (o := .tup [.int (i : Int), .int ((ms[i] : Nat) : Int)]))
                repeat walk_at "rt"
                refine ⟨rfl, ?_⟩
                refine rd_yes ?_
                repeat walk_at "rt"
                refine ite_d (fun hq => ?_) (fun hq => ?_)
                · repeat walk_at "rt"
                  exact fin _ (h1 _ (List.getElem_mem _))
                · repeat walk_at "rt"
                  exact fin i hi2
              · rintro acc D2 H6 hD2 hlen6 hacc6 ⟨ks, rfl, hks, b6, w6, nD2, h6⟩
                rw [nz_len] at hks
                repeat walk_at "rt"
                refine rd_tupOf (SqL.of hacc6) fun T3 hT3 => ?_
                have s3 := Same.new (o := .tup ((nz ks).map V.int)) hT3
                have b7 := b5.trans b6
                exact k T3 ks _ (b7.fresh w6 hT3) (b7.updF hT3) ((w6.same s3).mono (by omega)) upd_same ⟨by omega, h6⟩
            · repeat walk_at "rt"
              exact k T ms _ hT0 b5 (w5.mono (by omega)) hT5 ⟨by omega, h1⟩
/-- places and maps, as they are drawn -/
def spTurnsD : Sp := fun vs H Q _ => ∃ (p : Addr) (a b : Int) (N : Nat), vs = [.ref p, .int a, .int b] ∧ WellAt H p N ∧ N < 1000000 ∧ 1 ≤ a ∧ a ≤ 32 ∧ 1 ≤ b ∧ b ≤ 200 ∧
  ∀ T l n ts H', But p H H' → WellAt H' p (N + 30000) → H' T = some (.tup [.int (n : Nat), .ref l]) → SetsAt H' l ts → TOk n (ts.map Prod.snd) → (n : Int) ≤ a → (ts.length : Int) ≤ b → l ≠ p → (∀ t ∈ ts, t.1 ≠ p) → H l = none → (∀ t ∈ ts, H t.1 = none) → Q (.ref T) H'
theorem at3 {a b c r : Int} (h0 : 0 ≤ r) (h1 : r < 3) : ∃ k, atI [V.int a, V.int b, V.int c] r = some (.int k) := by
  have e : r = 0 ∨ r = 1 ∨ r = 2 := by omega
  rcases e with rfl | rfl | rfl <;> exact ⟨_, rfl⟩
abbrev N__law_turns : List Str := ["_law_well_here", "_law_places", "_law_signs", "_law_many", "_law_way", "_law_maps", "_law_k"]
theorem sc__law_turns : FnScope ["_law_well_here", "_law_places", "_law_signs", "_law_many", "_law_way", "_law_maps", "_law_k"] ["_law_well_here", "_law_places", "_law_signs"] (defScope s__law_turns) := ⟨rfl, rfl, rfl, by decide +kernel, rfl, by decide +kernel, by decide +kernel⟩
theorem ok_turnsd {f : Addr} {fd : FuncData} (F : Fun K "_law_turns" "_law_turns" s__law_turns f fd) (T : Tx K mg) (d__law_draw : Df P w K mg base CX0 1 "_law_draw" ["_law_well_here", "_law_many"] spDraw) (d__law_map : Df P w K mg base CX0 2 "_law_map" ["_law_well_here", "_law_many", "_law_kind"] spMap) : FnOk P w K mg base CX0 3 f fd ["_law_well_here", "_law_places", "_law_signs"] spTurnsD := by
  refine F.ok sc__law_turns (fun vs H Q E h => ?_) (fun cdv A outer s H vs Q E hr h => ?_)
  · obtain ⟨p, a, b, N, rfl, _⟩ := h
    rfl
  · obtain ⟨p, a, b, N, rfl, hw, hN, a1, a2, b1, b2, k⟩ := h
    refine ⟨_, (pss_cons (ps_set (i := 3) sc__law_turns.nd rfl (Or.inl rfl) (pe_op op_add pe_int (pe_df d__law_draw (hr.mono (by decide)) pass0 (pa_cons (pv 0) (pa_cons (pv 1) pa_nil)))))
 (pss_cons (ps_set (i := 4) sc__law_turns.nd rfl (Or.inl rfl) (pe_df d__law_draw (hr.mono (by decide)) pass0 (pa_cons (pv 0) (pa_cons pe_int pa_nil))))
 (pss_cons (ps_set (i := 5) sc__law_turns.nd rfl (Or.inl rfl) (pe_lst pa_nil))
 (pss_cons (ps_for PassesOwn.never rfl (pi_range1 (by rfl) T.n_range (pa_cons (pe_op op_add pe_int (pe_df d__law_draw (hr.mono (by decide)) pass0 (pa_cons (pv 0) (pa_cons (pv 2) pa_nil)))) pa_nil)) (pg_name (i := 6) sc__law_turns.nd rfl (Or.inl rfl))
 (pss_one (ps_expr (pe_bm PySem.F.plainAttrs_list PySem.F.slot_list_append PySem.F.type_list_append mt_append (pv 5) (pa_cons (pe_df d__law_map (hr.mono (by decide)) pass0 (pa_cons (pv 0) (pa_cons (pv 3) (pa_cons (pe_ix ix_list (pe_lst (pa_cons (pv 4) (pa_cons (pv 4) (pa_cons (pe_df d__law_draw (hr.mono (by decide)) pass0 (pa_cons (pv 0) (pa_cons pe_int pa_nil))) pa_nil)))) (pe_df d__law_draw (hr.mono (by decide)) pass0 (pa_cons (pv 0) (pa_cons pe_int pa_nil))) (fun _ _ => rfl)) pa_nil)))) pa_nil)))))
 (pss_one (ps_ret (pe_tup (pa_cons (pv 3) (pa_cons (pv 5) pa_nil))))))))), ?_⟩
    repeat walk_at "rt"
    refine ⟨p, a, N, rfl, hw, by omega, by omega, by omega, fun r H1 r0 r1 e1 w1 => ?_⟩
    obtain ⟨n, en⟩ : ∃ n : Nat, 1 + r = (n : Int) := ⟨(1 + r).toNat, by omega⟩
    repeat walk_at "rt"
    rw [en]
    refine ⟨p, 5, _, rfl, w1, by omega, by decide, by decide, fun way H2 q0 q1 e2 w2 => ?_⟩
    repeat walk_at "rt"
    refine rd_kLst rfl fun l hl => ?_
    have nl : l ≠ p := w2.ne_new hl
    have w3 := w2.same (Same.new (o := .lst []) hl)
    repeat walk_at "rt"
    refine ⟨p, b, _, rfl, w3, by omega, by omega, by omega, fun m H3 m0 m1 e3 w4 => ?_⟩
    have b3 : But p H2 H3 := (sbut (Same.new hl)).trans e3
    repeat walk_at "rt"
    refine rd_kRng1 (by omega) (by omega) (fun i σ H4 => ∃ v6 ts M, σ = [some (.ref p), some (.int a), some (.int b), some (.int (n : Int)), some (.int way), some (.ref l), v6] ∧ But p H2 H4 ∧ WellAt H4 p M ∧ M ≤ N + 3 + 102 * i ∧ H4 l = some (.lst (ts.map sv)) ∧ ts.length = i ∧ ∀ t ∈ ts, H4 t.1 = some (.tup ((nz t.2).map V.int)) ∧ MapOk n t.2 ∧ t.1 ≠ p ∧ t.1 ≠ l ∧ H2 t.1 = none)
      ⟨_, [], _, rfl, b3, w4, by omega, e3 _ _ nl upd_same, rfl, fun t ht => nomatch ht⟩ ?_ ?_
    · rintro i σ H4 hi ⟨v6, ts, M, rfl, b4, w4, hM, hl4, hlen, hE⟩
      have hi2 : i < 200 := by omega
      repeat walk_at "rt"
      refine ⟨p, 5, M, rfl, w4, by omega, by decide, by decide, fun q5 H5 q50 q51 e5 w5 => ?_⟩
      repeat walk_at "rt"
      refine rd_kLst rfl fun lz hlz => ?_
      have w6 := w5.same (Same.new (o := .lst [.int way, .int way, .int q5]) hlz)
      have nz' : lz ≠ p := w5.ne_new hlz
      repeat walk_at "rt"
      refine ⟨p, 3, _, rfl, w6, by omega, by decide, by decide, fun q3 H6 q30 q31 e6 w7 => ?_⟩
      obtain ⟨kk, ek⟩ := at3 (a := way) (b := way) (c := q5) q30 q31
      refine rd_ixL (SqL.of (e6 _ _ nz' upd_same)) ek ?_
      repeat walk_at "rt"
      have b6 : But p H4 H6 := (e5.trans (sbut (Same.new hlz))).trans e6
      refine ⟨p, n, kk, _, rfl, w7, by omega, by omega, by omega, fun T ms H7 hT b7 w8 h7 ok7 => ?_⟩
      have hl7 := b7 _ _ nl (b6 _ _ nl hl4)
      have hT4 : H4 T = none := b6.fresh w7 hT
      have nTl : T ≠ l := (ne_of_none hl4 hT4).symm
      have nTp : T ≠ p := w7.ne_new hT
      refine rd_kApp hl7 (by rw [List.length_map]; omega) ?_
      repeat walk_at "rt"
      refine ⟨_, ts ++ [(T, ms)], _, rfl, ?_, w8.off nl, by omega, by rw [upd_same, List.map_append]; rfl, by simp [hlen], fun t ht => ?_⟩
      · intro c u nc hc
        have ncl : c ≠ l := ne_of_none hc hl
        rw [upd_ne ncl]
        exact b7 _ _ nc (b6 _ _ nc (b4 _ _ nc hc))
      · rcases List.mem_append.mp ht with ht | ht
        · obtain ⟨z1, z2, z3, z4, z5⟩ := hE t ht
          exact ⟨by rw [upd_ne z4]; exact b7 _ _ z3 (b6 _ _ z3 z1), z2, z3, z4, z5⟩
        · have z := List.mem_singleton.mp ht
          subst z
          exact ⟨by rw [upd_ne nTl]; exact h7, ok7, nTp, nTl, b4.fresh w4 hT4⟩
    · rintro σ H4 ⟨v6, ts, M, rfl, b4, w4, hM, hl4, hlen, hE⟩
      have e12 := e1.trans e2
      repeat walk_at "rt"
      refine rd_kTup rfl fun T0 hT0 => ?_
      have s5 := Same.new (o := .tup [.int (n : Int), .ref l]) hT0
      refine k T0 l n ts _ ((e12.trans b4).trans (sbut s5)) ((w4.same s5).mono (by omega)) upd_same ⟨s5 _ _ hl4, fun t ht => s5 _ _ (hE t ht).1⟩ ⟨by omega, by omega, by rw [List.length_map]; omega, by rw [List.length_map]; omega, fun ms hms => ?_⟩ (by omega) (by omega) nl (fun t ht => (hE t ht).2.2.1) (e12.fresh w2 hl) fun t ht => e12.fresh w2 (hE t ht).2.2.2.2
      obtain ⟨t, ht, rfl⟩ := List.mem_map.mp hms
      exact (hE t ht).2.1
/-- any thing: whether it is an int and no bool -/
def spWhole (K : PySem.W.Frag) : Sp := fun vs H Q _ => ∃ (v : V) (t : Value) (b1 b2 : Bool), vs = [v] ∧ TyX K H v t ∧ PySem.W.kitOne K t (.type "int") = some b1 ∧ PySem.W.kitOne K t (.type "bool") = some b2 ∧ Q (.bl (b1 && !b2)) H
abbrev N_is_whole : List Str := ["thing"]
theorem sc_is_whole : FnScope ["thing"] ["thing"] (defScope s_is_whole) := ⟨rfl, rfl, rfl, by decide +kernel, rfl, by decide +kernel, by decide +kernel⟩
theorem ok_whole {f : Addr} {fd : FuncData} (F : Fun K "is_whole" "is_whole" s_is_whole f fd) (T : Tx K mg) : FnOk P w K mg base CX0 1 f fd ["thing"] (spWhole K) := by
  refine F.ok sc_is_whole (fun vs H Q E h => ?_) (fun cdv A outer s H vs Q E hr h => ?_)
  · obtain ⟨v, t, b1, b2, rfl, _⟩ := h
    rfl
  · obtain ⟨v, t, b1, b2, rfl, ty, e1, e2, k⟩ := h
    refine ⟨_, (pss_one (ps_ret (pe_and (pe_callB call_isi (by rfl) T.n_isinstance (by decide +kernel) (pa_cons (pv 0) (pa_cons (pe_bltn (v := .ty "int") (by rfl) T.n_int (by decide +kernel) rfl) pa_nil))) (pe_one (pe_not (pe_callB call_isi (by rfl) T.n_isinstance (by decide +kernel) (pa_cons (pv 0) (pa_cons (pe_bltn (v := .ty "bool") (by rfl) T.n_bool (by decide +kernel) rfl) pa_nil)))))))), ?_⟩
    repeat walk_at "rs"
    refine rd_isi (ClsV.ty _) ty e1 ?_
    repeat walk_at "rs"
    cases b1 with
    | false => exact iteF k
    | true =>
      refine iteT ?_
      repeat walk_at "rs"
      refine rd_isi (ClsV.ty _) ty e2 ?_
      repeat walk_at "rs"
      exact k
theorem whole_int {H : Hp} {Q : VK} {E : XK} {n : Int} (k : Q (.bl true) H) : spWhole K [.int n] H Q E := ⟨_, _, true, false, rfl, .base (.int n), kit_ty (by decide +kernel), kit_ty (by decide +kernel), k⟩
/-- whether a thing is a whole number between bounds -/
def spWithin (K : PySem.W.Frag) : Sp := fun vs H Q _ => ∃ (v : V) (a b : Int), vs = [v, .int a, .int b] ∧ ((∃ n, v = .int n ∧ Q (.bl (decide (a ≤ n) && decide (n ≤ b))) H) ∨
  ∃ (t : Value) (b1 b2 : Bool), TyX K H v t ∧ PySem.W.kitOne K t (.type "int") = some b1 ∧ PySem.W.kitOne K t (.type "bool") = some b2 ∧ (b1 && !b2) = false ∧ Q (.bl false) H)
abbrev N_is_whole_within : List Str := ["thing", "least", "most"]
theorem sc_is_whole_within : FnScope ["thing", "least", "most"] ["thing", "least", "most"] (defScope s_is_whole_within) := ⟨rfl, rfl, rfl, by decide +kernel, rfl, by decide +kernel, by decide +kernel⟩
theorem ok_within {f : Addr} {fd : FuncData} (F : Fun K "is_whole_within" "is_whole_within" s_is_whole_within f fd) (T : Tx K mg) (d_is_whole : Df P w K mg base CX0 1 "is_whole" ["thing"] (spWhole K)) : FnOk P w K mg base CX0 2 f fd ["thing", "least", "most"] (spWithin K) := by
  refine F.ok sc_is_whole_within (fun vs H Q E h => ?_) (fun cdv A outer s H vs Q E hr h => ?_)
  · obtain ⟨v, a, b, rfl, _⟩ := h
    rfl
  · obtain ⟨v, a, b, rfl, k⟩ := h
    refine ⟨_, (pss_one (ps_ret (pe_and (pe_df d_is_whole (hr.mono (by decide)) pass0 (pa_cons (pv 0) pa_nil)) (pe_one (pe_chain op_le op_le (pv 1) (pv 0) (pv 2)))))), ?_⟩
    repeat walk_at "rs"
    rcases k with ⟨n, rfl, k⟩ | ⟨t, b1, b2, ty, e1, e2, e3, k⟩
    · refine whole_int ?_
      repeat walk_at "rs"
      refine iteT ?_
      repeat walk_at "rs"
      refine ite_d (fun c => ?_) (fun c => ?_)
      · repeat walk_at "rs"
        rw [decide_eq_true c, Bool.true_and] at k
        exact k
      · rw [decide_eq_false c, Bool.false_and] at k
        exact k
    · refine ⟨v, t, b1, b2, rfl, ty, e1, e2, ?_⟩
      rw [e3]
      repeat walk_at "rs"
      exact iteF k
theorem within_nat {H : Hp} {Q : VK} {E : XK} {n : Nat} {b : Int} (h : (n : Int) ≤ b) (k : Q (.bl true) H) : spWithin K [.int (n : Int), .int 0, .int b] H Q E :=
  ⟨_, _, _, rfl, .inl ⟨_, rfl, by rw [decide_eq_true (show (0 : Int) ≤ (n : Int) by omega), decide_eq_true h]; exact k⟩⟩
theorem all_true (n : Nat) : (List.replicate n true).all id = true := by
  induction n with
  | zero => rfl
  | succ n ih => rw [List.replicate_succ, List.all_cons, ih]; rfl
theorem rep_snoc (n : Nat) : (List.replicate n true).map V.bl ++ [V.bl true] = (List.replicate (n + 1) true).map V.bl := by
  rw [List.replicate_succ', List.map_append]
  rfl
structure Tz (K : PySem.W.Frag) (mg : Str → Option Value) : Prop extends Tx K mg where
  n_set : mg "set" = none
structure TU (K : PySem.W.Frag) (mg : Str → Option Value) (C_Turns : Addr) (t1 t2 : Tok) : Prop extends Tz K mg where
  cl_Turns : Cls K C_Turns
  nMany : NoAttr K C_Turns "many"
  nMaps : NoAttr K C_Turns "maps"
  g_Turns : mg "Turns" = some (.ref C_Turns)
  v__MOST_PLACES : mg "_MOST_PLACES" = some (.int 32 t1)
  v__MOST_SIGNS : mg "_MOST_SIGNS" = some (.int 200 t2)
def tF (n : Nat) (r : Addr) : List (Str × V) := putF "maps" (.ref r) (putF "many" (.int (n : Int)) [])
theorem tF_many (n : Nat) (r : Addr) : (tF n r).lookup ("many" : Str) = some (.int (n : Int)) := by
  unfold tF
  rw [lookup_putF, if_neg (by decide +kernel), lookup_putF, if_pos rfl]
theorem tF_maps (n : Nat) (r : Addr) : (tF n r).lookup ("maps" : Str) = some (.ref r) := by
  unfold tF
  rw [lookup_putF, if_pos rfl]
theorem tF_none (n : Nat) (r : Addr) {m : Str} (h1 : ("maps" : Str) ≠ m) (h2 : ("many" : Str) ≠ m) : (tF n r).lookup m = none := by
  unfold tF
  rw [lookup_putF, if_neg (fun z => h1 z.symm), lookup_putF, if_neg (fun z => h2 z.symm)]
  rfl
/-- at a stand turns: n places, the list of maps at r -/
def TurnsAt (C : Addr) (H : Hp) (a : Addr) (n : Nat) (r : Addr) (ts : List SRow) : Prop := (∃ dx, H a = some (.ins C dx (tF n r))) ∧ SetsAt H r ts
theorem TurnsAt.same {C a r : Addr} {H H' : Hp} {n : Nat} {ts : List SRow} (h : TurnsAt C H a n r ts) (e : Same H H') : TurnsAt C H' a n r ts := by
  obtain ⟨⟨dx, z⟩, hr⟩ := h
  exact ⟨⟨dx, e _ _ z⟩, hr.same e⟩
theorem srow_at {ts : List SRow} {i : Nat} {x : V} (h : (ts.map sv)[i]? = some x) : ∃ r, ts[i]? = some r ∧ x = .ref r.1 := by
  rw [List.getElem?_map] at h
  cases q : ts[i]? with
  | none => rw [q] at h; cases h
  | some r => rw [q] at h; exact ⟨r, rfl, (Option.some.inj h).symm⟩
theorem nat_at {ms : List Nat} {i : Nat} {x : V} (h : ((nz ms).map V.int)[i]? = some x) : ∃ m, ms[i]? = some m ∧ x = .int (m : Int) := by
  unfold nz at h
  rw [List.map_map, List.getElem?_map] at h
  cases q : ms[i]? with
  | none => rw [q] at h; cases h
  | some r => rw [q] at h; exact ⟨r, rfl, (Option.some.inj h).symm⟩
def spIsMap : Sp := fun vs H Q _ => ∃ (t : Addr) (n : Nat) (ms : List Nat), vs = [.ref t, .int (n : Int)] ∧ H t = some (.tup ((nz ms).map V.int)) ∧ MapOk n ms ∧ n ≤ 32 ∧ ∀ H', Same H H' → Q (.bl true) H'
abbrev N__is_map : List Str := ["thing", "many", "place"]
theorem sc__is_map : FnScope ["thing", "many", "place"] ["thing", "many"] (defScope s__is_map) := ⟨rfl, rfl, rfl, by decide +kernel, rfl, by decide +kernel, by decide +kernel⟩
theorem ok_ismap {f : Addr} {fd : FuncData} (F : Fun K "_is_map" "_is_map" s__is_map f fd) (T : Tx K mg) (d_is_whole_within : Df P w K mg base CX0 2 "is_whole_within" ["thing", "least", "most"] (spWithin K)) : FnOk P w K mg base CX0 3 f fd ["thing", "many"] spIsMap := by
  refine F.ok sc__is_map (fun vs H Q E h => ?_) (fun cdv A outer s H vs Q E hr h => ?_)
  · obtain ⟨t, n, ms, rfl, _⟩ := h
    rfl
  · obtain ⟨t, n, ms, rfl, ht, ⟨h1, h2⟩, hn, k⟩ := h
    refine ⟨_, (pss_cons (ps_if (PW.pt (pw_or (pt_not (pt_val (pe_callB call_isi (by rfl) T.n_isinstance (by decide +kernel) (pa_cons (pv 0) (pa_cons (pe_bltn (v := .ty "tuple") (by rfl) T.n_tuple (by decide +kernel) rfl) pa_nil))))) (pw_or1 (pt_cmpR op_ne (pe_callB cr_len (by rfl) T.n_len PySem.boot_len (pa_cons (pv 0) pa_nil)) (pv 1) (nomark _))))) (pss_one (ps_ret pe_bl)) pss_nil)
 (pss_one (ps_ret (pe_callB (cr_all rfl) (by rfl) T.n_all (by decide +kernel) (pa_cons (pe_lc (own := [("place", 2)]) (g := gName 2) (tt := tYes) (te := (tCall (spWithin K) [] E0 (tCons (tVar 2) (tCons (tC (V.int (0))) (tCons (tOp (rI0 fun i j => V.int (i - j)) (tVar 1) (tC (V.int (1)))) tNil))))) (by rfl) sc__is_map.nd (pi_tup (pv 0)) (blkOk_by (own := [("place", 2)]) (N := N__is_map) (sc := defScope s__is_map) (by decide +kernel)) (fun _ _ _ _ _ => (pg_name (i := 2) sc__is_map.nd rfl (Or.inl rfl))) (fun _ _ _ _ _ => pts_nil) (fun _ _ _ _ _ => (pe_df d_is_whole_within (hr.mono (by decide)) pass0 (pa_cons (pv 2) (pa_cons pe_int (pa_cons (pe_op op_sub (pv 1) pe_int) pa_nil)))))) pa_nil))))), ?_⟩
    repeat walk_at "rs"
    refine rd_isi (b := true) (ClsV.ty _) (.base (.tup ht)) (kit_same (by rfl)) ?_
    repeat walk_at "rs"
    refine iteF ?_
    have st : SqT K H t ((nz ms).map V.int) := SqT.of ht
    repeat walk_at "rs"
    rw [decide_eq_true (show (((nz ms).map V.int).length : Int) = (n : Int) by rw [nz_len, h1])]
    refine iteF ?_
    repeat walk_at "rs"
    refine rd_lcU ?_
    repeat walk_at "rs"
    refine rd_kLcU (fun i acc D H' => Same H H' ∧ acc = (List.replicate i true).map V.bl) st (fun D hD => ⟨Same.new hD, rfl⟩) (fun i acc D H' ⟨e, _⟩ => SqT.of (e _ _ ht)) ?_  ?_
    · rintro i x acc D H' hD hi hx hacc hlen ⟨e, rfl⟩
      obtain ⟨m, hm, rfl⟩ := nat_at hx
      have y0 := h2 m (List.mem_of_getElem? hm)
      repeat walk_at "rs"
      refine ⟨rfl, rd_yes ?_⟩
      repeat walk_at "rs"
      refine within_nat (by omega) ?_
      refine rd_lcTE hacc hlen (by rw [nz_len] at hi; omega) ⟨fun b o q => ?_, rep_snoc i⟩
      rw [upd_ne (ne_of_none q hD)]
      exact e _ _ q
    · rintro acc D H' hD hlen hacc ⟨e, rfl⟩
      repeat walk_at "rs"
      refine rd_all (SqL.of hacc) ?_
      rw [all_true]
      exact k H' e
def spAreMaps : Sp := fun vs H Q _ => ∃ (l : Addr) (n : Nat) (ts : List SRow), vs = [.ref l, .int (n : Int)] ∧ SetsAt H l ts ∧ TOk n (ts.map Prod.snd) ∧ ∀ H', Same H H' → Q (.bl true) H'
abbrev N__are_maps : List Str := ["thing", "many", "leads"]
theorem sc__are_maps : FnScope ["thing", "many", "leads"] ["thing", "many"] (defScope s__are_maps) := ⟨rfl, rfl, rfl, by decide +kernel, rfl, by decide +kernel, by decide +kernel⟩
theorem ok_aremaps {f C_Turns : Addr} {t1 t2 : Tok} {fd : FuncData} (F : Fun K "_are_maps" "_are_maps" s__are_maps f fd) (T : TU K mg C_Turns t1 t2) (d__is_map : Df P w K mg base CX0 3 "_is_map" ["thing", "many"] spIsMap) : FnOk P w K mg base CX0 4 f fd ["thing", "many"] spAreMaps := by
  refine F.ok sc__are_maps (fun vs H Q E h => ?_) (fun cdv A outer s H vs Q E hr h => ?_)
  · obtain ⟨l, n, ts, rfl, _⟩ := h
    rfl
  · obtain ⟨l, n, ts, rfl, hR, ⟨n1, n2, h1, h2, h3⟩, k⟩ := h
    rw [List.length_map] at h1 h2
    refine ⟨_, (pss_cons (ps_if (PW.pt (pw_or (pt_not (pt_val (pe_callB call_isi (by rfl) T.n_isinstance (by decide +kernel) (pa_cons (pv 0) (pa_cons (pe_bltn (v := .ty "list") (by rfl) T.n_list (by decide +kernel) rfl) pa_nil))))) (pw_or1 (pt_not (pt_chain op_le op_le pe_int (pe_callB cr_len (by rfl) T.n_len PySem.boot_len (pa_cons (pv 0) pa_nil)) (pe_glob (v := .int 200) rfl T.v__MOST_SIGNS ⟨_, rfl⟩)))))) (pss_one (ps_ret pe_bl)) pss_nil)
 (pss_one (ps_ret (pe_callB (cr_all rfl) (by rfl) T.n_all (by decide +kernel) (pa_cons (pe_lc (own := [("leads", 2)]) (g := gName 2) (tt := tYes) (te := (tCall (spIsMap) [] E0 (tCons (tVar 2) (tCons (tVar 1) tNil)))) (by rfl) sc__are_maps.nd (pi_list (pv 0)) (blkOk_by (own := [("leads", 2)]) (N := N__are_maps) (sc := defScope s__are_maps) (by decide +kernel)) (fun _ _ _ _ _ => (pg_name (i := 2) sc__are_maps.nd rfl (Or.inl rfl))) (fun _ _ _ _ _ => pts_nil) (fun _ _ _ _ _ => (pe_df d__is_map (hr.mono (by decide)) pass0 (pa_cons (pv 2) (pa_cons (pv 1) pa_nil))))) pa_nil))))), ?_⟩
    have sl : SqL K H l (ts.map sv) := SqL.of hR.1
    repeat walk_at "rs"
    refine rd_isi (b := true) (ClsV.ty _) (.base (.lst hR.1)) (kit_same (by rfl)) ?_
    repeat walk_at "rs"
    refine iteF ?_
    repeat walk_at "rs"
    rw [decide_eq_true (show (1 : Int) ≤ ((ts.map sv).length : Int) by rw [List.length_map]; omega)]
    refine iteT ?_
    repeat walk_at "rs"
    rw [decide_eq_true (show ((ts.map sv).length : Int) ≤ 200 by rw [List.length_map]; omega)]
    repeat walk_at "rs"
    refine iteF ?_
    repeat walk_at "rs"
    refine rd_kLc (fun i acc D H' => Same H H' ∧ acc = (List.replicate i true).map V.bl) sl (fun D hD => ⟨Same.new hD, rfl⟩) (fun i acc D H' ⟨e, _⟩ => SqL.of (e _ _ hR.1)) ?_ (g_mono _ _) ?_
    · rintro i x acc D H' hD hi hx hacc hlen ⟨e, rfl⟩
      obtain ⟨r, hr', rfl⟩ := srow_at hx
      have hm := List.mem_of_getElem? hr'
      repeat walk_at "rs"
      refine ⟨rfl, ?_⟩
      repeat walk_at "rs"
      refine ⟨r.1, n, r.2, rfl, e _ _ (hR.2 _ hm), h3 r.2 (List.mem_map_of_mem hm), n2, fun H2 e2 => ?_⟩
      refine rd_lcEnd (e2 _ _ hacc) hlen (by rw [List.length_map] at hi; omega) ⟨fun b o q => ?_, rep_snoc i⟩
      rw [upd_ne (ne_of_none q hD)]
      exact e2 _ _ (e _ _ q)
    · rintro acc D H' hD hlen hacc ⟨e, rfl⟩
      repeat walk_at "rs"
      refine rd_all (SqL.of hacc) ?_
      rw [all_true]
      exact k H' e
def spTurnsInit (C : Addr) : Sp := fun vs H Q _ => ∃ (x dx l : Addr) (n : Nat) (ts : List SRow), vs = [.ref x, .int (n : Int), .ref l] ∧ H x = some (.ins C dx []) ∧ SetsAt H l ts ∧ TOk n (ts.map Prod.snd) ∧
  ∀ r H', (∀ b o, b ≠ x → H b = some o → H' b = some o) → H' x = some (.ins C dx (tF n r)) → SetsAt H' r ts → H r = none → Q .non H'
abbrev N_Turns___init__ : List Str := ["self", "many", "maps"]
theorem sc_Turns___init__ : FnScope ["self", "many", "maps"] ["self", "many", "maps"] (defScope s_Turns___init__) := ⟨rfl, rfl, rfl, by decide +kernel, rfl, by decide +kernel, by decide +kernel⟩
theorem ok_tinit {f C_Turns : Addr} {t1 t2 : Tok} {fd : FuncData} (F : Fun K "__init__" "Turns.__init__" s_Turns___init__ f fd) (T : TU K mg C_Turns t1 t2) (d_is_whole_within : Df P w K mg base CX0 2 "is_whole_within" ["thing", "least", "most"] (spWithin K))
    (d__are_maps : Df P w K mg base CX0 4 "_are_maps" ["thing", "many"] spAreMaps) : FnOk P w K mg base CX0 5 f fd ["self", "many", "maps"] (spTurnsInit C_Turns) := by
  refine F.ok sc_Turns___init__ (fun vs H Q E h => ?_) (fun cdv A outer s H vs Q E hr h => ?_)
  · obtain ⟨x, dx, l, n, ts, rfl, _⟩ := h
    rfl
  · obtain ⟨x, dx, l, n, ts, rfl, hx, hR, hok, k⟩ := h
    refine ⟨_, (pss_cons (ps_if (pt_not (pt_val (pe_df d_is_whole_within (hr.mono (by decide)) pass0 (pa_cons (pv 1) (pa_cons pe_int (pa_cons (pe_glob (v := .int 32) rfl T.v__MOST_PLACES ⟨_, rfl⟩) pa_nil)))))) (pss_one ps_never) pss_nil)
 (pss_cons (ps_if (pt_not (pt_val (pe_df d__are_maps (hr.mono (by decide)) pass0 (pa_cons (pv 2) (pa_cons (pv 1) pa_nil))))) (pss_one ps_never) pss_nil)
 (pss_cons (ps_fld (pv 0) (pv 1) rfl)
 (pss_one (ps_fld (pv 0) (pe_callTy cr_listOf (by rfl) T.n_list (by decide +kernel) (pa_cons (pv 2) pa_nil)) rfl))))), ?_⟩
    repeat walk_at "rs"
    refine ⟨_, _, _, rfl, .inl ⟨_, rfl, ?_⟩⟩
    rw [decide_eq_true (show (1 : Int) ≤ (n : Int) by have := hok.1; omega), decide_eq_true (show (n : Int) ≤ 32 by have := hok.2.1; omega)]
    repeat walk_at "rs"
    refine iteF ?_
    repeat walk_at "rs"
    refine ⟨l, n, ts, rfl, hR, hok, fun H1 e1 => ?_⟩
    repeat walk_at "rs"
    refine iteF ?_
    repeat walk_at "rs"
    have hx1 := e1 _ _ hx
    have hR1 := hR.same e1
    refine rd_kSet hx1 T.cl_Turns T.nMany rfl ?_
    have off : ∀ b o, b ≠ x → H1 b = some o → upd H1 x (.ins C_Turns dx (putF "many" (.int (n : Int)) [])) b = some o := fun b o n q => by rw [upd_ne n]; exact q
    have hx2 := upd_same (H := H1) (a := x) (o := .ins C_Turns dx (putF "many" (.int (n : Int)) []))
    have hR2 : SetsAt (upd H1 x (.ins C_Turns dx (putF "many" (.int (n : Int)) []))) l ts := ⟨off _ _ (ne_of hR1.1 hx1 (fun y => nomatch y)) hR1.1, fun e he => off _ _ (ne_of (hR1.2 e he) hx1 (fun y => nomatch y)) (hR1.2 e he)⟩
    have back : ∀ b, upd H1 x (.ins C_Turns dx (putF "many" (.int (n : Int)) [])) b = none → H b = none := fun b q => by
      rcases Classical.em (b = x) with z | z
      · rw [z, hx2] at q
        cases q
      · rw [upd_ne z] at q
        exact Same.free e1 q
    generalize upd H1 x (.ins C_Turns dx (putF "many" (.int (n : Int)) [])) = H2 at *
    repeat walk_at "rs"
    refine rd_listOf (SqL.of hR2.1) fun D hD => ?_
    have e3 := Same.new (o := .lst (ts.map sv)) hD
    have hx3 := e3 _ _ hx2
    have hR3 : SetsAt (upd H2 D (.lst (ts.map sv))) D ts := ⟨upd_same, fun t ht => e3 _ _ (hR2.2 t ht)⟩
    repeat walk_at "rs"
    refine rd_kSet hx3 T.cl_Turns T.nMaps rfl ?_
    refine k D _ (fun b o n q => ?_) upd_same ⟨by rw [upd_ne (ne_of hR3.1 hx3 (fun y => nomatch y))]; exact hR3.1, fun e he => by rw [upd_ne (ne_of (hR3.2 e he) hx3 (fun y => nomatch y))]; exact hR3.2 e he⟩ (back _ hD)
    rw [upd_ne n]
    exact e3 _ _ (off _ _ n (e1 _ _ q))
theorem rd_turns {C l : Addr} {n : Nat} {ts : List SRow} {H : Hp} {Q : VK} {E : XK} (hR : SetsAt H l ts) (hok : TOk n (ts.map Prod.snd))
    (k : ∀ a r H', H a = none → Same H H' → TurnsAt C H' a n r ts → H r = none → Q (.ref a) H') : kMake C (spTurnsInit C) [] E Q [.int (n : Int), .ref l] H := by
  intro x dx hx hdx ne
  have e0 : Same H (upd (upd H dx (.own x)) x (.ins C dx [])) := fun b o q => by
    rw [upd_ne (ne_of_none q hx), upd_ne (ne_of_none q hdx)]
    exact q
  refine ⟨x, dx, l, n, ts, rfl, upd_same, hR.same e0, hok, fun r H' e1 hx1 hR1 hr => ⟨rfl, ?_⟩⟩
  exact k x r H' hx (fun b o q => e1 b o (ne_of_none q hx) (e0 b o q)) ⟨⟨dx, hx1⟩, hR1⟩ (Same.free e0 hr)
def spTLen (C : Addr) : Sp := fun vs H Q _ => ∃ (a r : Addr) (n : Nat) (ts : List SRow), vs = [.ref a] ∧ TurnsAt C H a n r ts ∧ Q (.int (ts.length : Int)) H
abbrev N_Turns___len__ : List Str := ["self"]
theorem sc_Turns___len__ : FnScope ["self"] ["self"] (defScope s_Turns___len__) := ⟨rfl, rfl, rfl, by decide +kernel, rfl, by decide +kernel, by decide +kernel⟩
theorem ok_tlen {f C_Turns : Addr} {t1 t2 : Tok} {fd : FuncData} (F : Fun K "__len__" "Turns.__len__" s_Turns___len__ f fd) (T : TU K mg C_Turns t1 t2) : FnOk P w K mg base CX0 1 f fd ["self"] (spTLen C_Turns) := by
  refine F.ok sc_Turns___len__ (fun vs H Q E h => ?_) (fun cdv A outer s H vs Q E hr h => ?_)
  · obtain ⟨a, r, n, ts, rfl, _⟩ := h
    rfl
  · obtain ⟨a, r, n, ts, rfl, ⟨⟨dx, ha⟩, hR⟩, k⟩ := h
    refine ⟨_, (pss_one (ps_ret (pe_callB cr_len (by rfl) T.n_len PySem.boot_len (pa_cons (pe_fld (pv 0) rfl) pa_nil)))), ?_⟩
    repeat walk_at "rs"
    refine rd_kFld ha T.cl_Turns T.nMaps (tF_maps _ _) ?_
    have sl : SqL K H r (ts.map sv) := SqL.of hR.1
    repeat walk_at "rs"
    rw [List.length_map]
    exact k
theorem rd_tlen {C a r : Addr} {n : Nat} {ts : List SRow} {H : Hp} {Q : VK} (h : TurnsAt C H a n r ts) (hz : ts.length ≤ 200) (q : Q (.int (ts.length : Int)) H) : rLenO C (spTLen C) [.ref a] H Q := by
  obtain ⟨⟨dx, ha⟩, hR⟩ := id h
  exact ⟨a, dx, _, rfl, ha, a, r, n, ts, rfl, h, ts.length, rfl, by omega, q⟩
theorem seqT {H H' : Hp} {a : Addr} {xs : List V} (e : Same H H') (h : SqT K H a xs) : SqT K H' a xs := by
  rcases h with (h | ⟨o, h⟩) | h
  · exact .inl (.inl (e _ _ h))
  · exact .inl (.inr ⟨o, e _ _ h⟩)
  · exact .inr h
def spStay : Sp := fun vs H Q _ => ∃ n : Nat, vs = [.int (n : Int)] ∧ n ≤ 1000 ∧ ∀ p H', H p = none → Same H H' → FrT H' p ((nz (List.range n)).map V.int) → Q (.ref p) H'
abbrev N_staying : List Str := ["many"]
theorem sc_staying : FnScope ["many"] ["many"] (defScope s_staying) := ⟨rfl, rfl, rfl, by decide +kernel, rfl, by decide +kernel, by decide +kernel⟩
theorem ok_staying {f : Addr} {fd : FuncData} (F : Fun K "staying" "staying" s_staying f fd) (T : Tx K mg) : FnOk P w K mg base CX0 1 f fd ["many"] spStay := by
  refine F.ok sc_staying (fun vs H Q E h => ?_) (fun cdv A outer s H vs Q E hr h => ?_)
  · obtain ⟨n, rfl, _⟩ := h
    rfl
  · obtain ⟨n, rfl, hn, k⟩ := h
    refine ⟨_, (pss_one (ps_ret (pe_tupRgF rfl (by rfl) T.n_tuple (prg_1 (by rfl) T.n_range (pv 0))))), ?_⟩
    repeat walk_at "rt"
    refine rd_tupRgF1 ?_
    repeat walk_at "rt"
    exact rd_kRgF (by omega) k
def spThen (K : PySem.W.Frag) : Sp := fun vs H Q _ => ∃ (a b : Addr) (xs ys : List Nat), vs = [.ref a, .ref b] ∧ SqT K H a ((nz xs).map V.int) ∧ SqT K H b ((nz ys).map V.int) ∧ (∀ x ∈ xs, x < ys.length) ∧ xs.length ≤ 1000 ∧
  ∀ p H', H p = none → Same H H' → FrT H' p ((nz (thenM xs ys)).map V.int) → Q (.ref p) H'
abbrev N_one_then_other : List Str := ["one", "other", "place"]
theorem sc_one_then_other : FnScope ["one", "other", "place"] ["one", "other"] (defScope s_one_then_other) := ⟨rfl, rfl, rfl, by decide +kernel, rfl, by decide +kernel, by decide +kernel⟩
theorem ok_then {f : Addr} {fd : FuncData} (F : Fun K "one_then_other" "one_then_other" s_one_then_other f fd) (T : Tx K mg) : FnOk P w K mg base CX0 1 f fd ["one", "other"] (spThen K) := by
  refine F.ok sc_one_then_other (fun vs H Q E h => ?_) (fun cdv A outer s H vs Q E hr h => ?_)
  · obtain ⟨a, b, xs, ys, rfl, _⟩ := h
    rfl
  · obtain ⟨a, b, xs, ys, rfl, ha, hb, hx, hz, k⟩ := h
    refine ⟨_, (pss_one (ps_ret (pe_callTy cr_tupOfF (by rfl) T.n_tuple (by decide +kernel) (pa_cons (pe_lc (own := [("place", 2)]) (g := gName 2) (tt := tYes) (te := (tOp (rIxT K) (tVar 1) (tVar 2))) (by rfl) sc_one_then_other.nd (pi_tup (pv 0)) (blkOk_by (own := [("place", 2)]) (N := N_one_then_other) (sc := defScope s_one_then_other) (by decide +kernel)) (fun _ _ _ _ _ => (pg_name (i := 2) sc_one_then_other.nd rfl (Or.inl rfl))) (fun _ _ _ _ _ => pts_nil) (fun _ _ _ _ _ => (pe_ix ix_tup (pv 1) (pv 2) (fun _ _ => rfl)))) pa_nil)))), ?_⟩
    repeat walk_at "rt"
    refine rd_lcU ?_
    repeat walk_at "rt"
    refine rd_kLcU (fun i acc D H' => Same H H' ∧ acc = (nz (thenM (xs.take i) ys)).map V.int) ha (fun D hD => ⟨Same.new hD, rfl⟩) (fun i acc D H' ⟨e, _⟩ => seqT e ha) ?_ ?_
    · rintro i x acc D H' hD hi hxi hacc hlen ⟨e, rfl⟩
      obtain ⟨m, hm, rfl⟩ := nat_at hxi
      rw [nz_len] at hi
      have hmy := hx m (List.mem_of_getElem? hm)
      have hat : ys[m]? = some ys[m] := List.getElem?_eq_getElem hmy
      have hb' := seqT e hb
      repeat walk_at "rt"
      refine ⟨rfl, rd_yes ?_⟩
      repeat walk_at "rt"
      refine rd_ixT hb' (atI_nat (nz_at hat)) ?_
      refine rd_lcTE hacc hlen (by omega) ⟨fun b o q => ?_, ?_⟩
      · rw [upd_ne (ne_of_none q hD)]
        exact e _ _ q
      · rw [nz_snoc, List.take_succ, hm]
        unfold thenM
        rw [List.map_append]
        show (nz (_ ++ [ys[m]])).map V.int = (nz (_ ++ [ys.getD m 0])).map V.int
        rw [List.getD_eq_getElem?_getD, hat]
        rfl
    · rintro acc D H' hD hlen hacc ⟨e, rfl⟩
      rw [nz_len, List.take_length] at hacc
      repeat walk_at "rt"
      exact rd_tupOfF (SqL.of hacc) fun l H2 hl e2 fr => k l H2 (Same.free e hl) (e.trans e2) fr
structure TM (K : PySem.W.Frag) (mg : Str → Option Value) (C_TooMany : Addr) : Prop where
  g_TooMany : mg "TooMany" = some (.ref C_TooMany)
  x_TooMany : PySem.W.excIn K C_TooMany [.type "ValueError", .type "Exception", .type "BaseException", .type "object"] "ValueError.__new__" = true
  k_TooMany : PySem.W.keepIn K (.ref C_TooMany) = true
  b_TooMany : PySem.W.subIn K (.ref C_TooMany) (.type "BaseException") = some true
  t_TooMany : PySem.W.typeIn K (.ref C_TooMany) = some (.type "type")
  em_TooMany : PySem.W.exmOne K (.ref C_TooMany) (.ref C_TooMany) = some true
structure TUM (K : PySem.W.Frag) (mg : Str → Option Value) (C_Turns : Addr) (t1 t2 : Tok) (C_TooMany : Addr) : Prop extends TU K mg C_Turns t1 t2, TM K mg C_TooMany
theorem lead_then (n : Nat) (hn : n ≤ 1000) : Lead K (spThen K) thenM n (MapOk n) := fun a b xs ys H Q E h1 h2 hx hy k =>
  ⟨a, b, xs, ys, rfl, h1, h2, fun x hx' => by rw [hy.1]; exact hx.2 x hx', by rw [hx.1]; exact hn, k⟩
theorem thenM_ok {n : Nat} {xs ys : List Nat} (hx : MapOk n xs) (hy : MapOk n ys) : MapOk n (thenM xs ys) := by
  unfold thenM
  refine ⟨by rw [List.length_map]; exact hx.1, fun m hm => ?_⟩
  obtain ⟨x, hx', rfl⟩ := List.mem_map.mp hm
  have lt : x < ys.length := by rw [hy.1]; exact hx.2 x hx'
  rw [List.getD_eq_getElem?_getD, List.getElem?_eq_getElem lt]
  exact hy.2 _ (List.getElem_mem lt)
theorem range_ok (n : Nat) : MapOk n (List.range n) := ⟨List.length_range, fun m hm => List.mem_range.mp hm⟩
def spFirst (P : Program) (w : World) (K : PySem.W.Frag) (mg : Str → Option Value) (base : Heap) (C C_TooMany : Addr) : Sp := fun vs H Q E => ∃ (a r fo : Addr) (n most : Nat) (ts : List SRow) (sp : Sp) (L : List Nat → List Nat → List Nat) (Dom : List Nat → Prop),
  vs = [.ref a, .ref fo, .int (most : Int)] ∧ TurnsAt C H a n r ts ∧ TOk n (ts.map Prod.snd) ∧ 1 ≤ most ∧ most ≤ 1000 ∧ Held P w K mg base 1 fo sp ∧ Lead K sp L n Dom ∧ Dom (List.range n) ∧ (∀ xs ys, Dom xs → MapOk n ys → Dom (L xs ys)) ∧
  (∀ (f : TW) (kvs : FK) (p : Addr) (H' : Hp), FoundW L (ts.map Prod.snd) (List.range n) most (some f) → H p = none → Same H H' → DFr P w H' p kvs → FitW H' f kvs → Q (.ref p) H') ∧
  (FoundW L (ts.map Prod.snd) (List.range n) most none → ∀ H', Same H H' → E (.ref C_TooMany) none H')
abbrev N__first_words : List Str := ["turns", "lead", "most", "start", "words", "waiting", "thing", "sign", "leads", "new"]
theorem sc__first_words : FnScope ["turns", "lead", "most", "start", "words", "waiting", "thing", "sign", "leads", "new"] ["turns", "lead", "most"] (defScope s__first_words) := ⟨rfl, rfl, rfl, by decide +kernel, rfl, by decide +kernel, by decide +kernel⟩
theorem ok_first {f C_Turns C_TooMany : Addr} {t1 t2 : Tok} {fd : FuncData} (F : Fun K "_first_words" "_first_words" s__first_words f fd) (T : TUM K mg C_Turns t1 t2 C_TooMany) (d_staying : Df P w K mg base CX0 1 "staying" ["many"] spStay) :
    FnOk P w K mg base (L2N.CX P w) 3 f fd ["turns", "lead", "most"] (spFirst P w K mg base C_Turns C_TooMany) := by
  refine okXN F sc__first_words (fun vs H Q E h => ?_) (fun cdv A outer s H vs Q E hr h => ?_)
  · obtain ⟨a, r, fo, n, most, ts, sp, L, Dom, rfl, _⟩ := h
    rfl
  · obtain ⟨a, r, fo, n, most, ts, sp, L, Dom, rfl, hT, hok, m1, m2, hh, hL, hD0, hDs, kQ, kE⟩ := h
    have hS : ∀ f' sp', (fun x => if x = fo then some sp else none) f' = some sp' → Held P w K mg base 1 f' sp' := fun f' sp' e => by
      by_cases z : f' = fo
      · simp only [z, if_pos] at e
        cases e
        rw [z]
        exact hh
      · simp only [if_neg z] at e
        cases e
    refine ⟨_, (pss_cons (ps_set (i := 3) sc__first_words.nd rfl (Or.inl rfl) (pe_df d_staying (hr.mono (by decide)) pass0 (pa_cons (pe_fld (pv 0) rfl) pa_nil)))
 (pss_cons (ps_set (i := 4) sc__first_words.nd rfl (Or.inl rfl) (pe_fdisp (units1 hr.units) (pv 3) (pe_lst pa_nil)))
 (pss_cons (ps_set (i := 5) sc__first_words.nd rfl (Or.inl rfl) (pe_lst (pa_cons (pv 3) pa_nil)))
 (pss_cons (ps_while (passes_of rfl) (pt_truth (pv 5) (by intro _; rfl)) (pss_cons (ps_set (i := 6) sc__first_words.nd rfl (Or.inl rfl) (pe_bm PySem.F.plainAttrs_list PySem.F.slot_list_pop PySem.F.type_list_pop mt_popAt (pv 5) (pa_cons pe_int pa_nil)))
 (pss_one (ps_for (passes_of rfl) rfl (pi_enum (by rfl) T.n_enumerate (pa_cons (pe_fld (pv 0) rfl) pa_nil)) (pg_tup (by rfl) (pgs_cons (pg_name (i := 7) sc__first_words.nd rfl (Or.inl rfl)) (pgs_cons (pg_name (i := 8) sc__first_words.nd rfl (Or.inl rfl)) pgs_nil)))
 (pss_cons (ps_set (i := 9) sc__first_words.nd rfl (Or.inl rfl) (pe_callA (i := 1) hS (hr.mono (by decide)) rfl (by first | exact Or.inl rfl | exact Or.inr (Or.inl rfl) | exact Or.inr (Or.inr rfl)) (pa_cons (pv 6) (pa_cons (pv 8) pa_nil))))
 (pss_one (ps_if (pt_cmp (pc_fnotin (units1 hr.units) (pv 9) (pv 4))) (pss_cons (ps_if (pt_cmpR op_eq (pe_callB cr_lenF (by rfl) T.n_len PySem.boot_len (pa_cons (pv 4) pa_nil)) (pv 2) (nomark _)) (pss_one (L2N.ps_raise rfl (L2N.takes_of rfl rfl rfl rfl) (L2N.pmk_own PySem.F.excBase_ValueError T.x_TooMany T.g_TooMany T.k_TooMany (raises_own T.b_TooMany T.t_TooMany) (by exact rfl)))) pss_nil)
 (pss_cons (ps_fput (units1 hr.units) (pv 4) (pv 9) (pe_op op_cat (pe_fget (units1 hr.units) (pv 4) (pv 6) (fun _ _ => rfl)) (pe_lst (pa_cons (pv 7) pa_nil))) (by rfl))
 (pss_one (ps_expr (pe_bm PySem.F.plainAttrs_list PySem.F.slot_list_append PySem.F.type_list_append mt_append (pv 5) (pa_cons (pv 9) pa_nil)))))) pss_nil)))))))
 (pss_one (ps_ret (pv 4))))))), ?_⟩
    have hlen : (ts.map Prod.snd).length = ts.length := List.length_map ..
    have n2 := hok.2.1
    have hmap : ∀ {i : Nat} {m : List Nat}, (ts.map Prod.snd)[i]? = some m → MapOk n m := fun {i m} h => by
      have := hok.sign (s := i) (List.getElem?_eq_some_iff.mp h).1
      rw [List.getD_eq_getElem?_getD, h] at this
      exact this
    have hdom : ∀ k, ∀ p ∈ bfs L (ts.map Prod.snd) (List.range n) k, Dom p.1 := bfs_all (D := fun t _ => Dom t) hD0 fun t w i m hd hm => hDs _ _ hd (hmap hm)
    repeat walk_at "rt"
    obtain ⟨⟨dy, hta⟩, hR⟩ := id hT
    refine rd_kFld hta T.cl_Turns T.nMany (tF_many _ _) ?_
    repeat walk_at "rt"
    refine ⟨n, rfl, by omega, fun st H1 hst e1 hf1 => ?_⟩
    repeat walk_at "rt"
    refine rd_fdispV rfl fun wd H2 hwd e2 D2 => ?_
    repeat walk_at "rt"
    refine rd_kLst rfl fun c0 hc0 => ?_
    have nc0 : c0 ≠ wd := by
      obtain ⟨xs, q⟩ := D2.at
      exact (ne_of_none q hc0).symm
    have D3 : DFr P w (upd H2 c0 (.lst [])) wd [] := D2.same (Same.new hc0)
    have e3 : Same H1 (upd H2 c0 (.lst [])) := Same.trans e2 (Same.new hc0)
    refine rd_kFD (k := List.range n) (hf1.onto fun o q => e3 _ _ q) D3 fun H4 o4 D4 => ?_
    have e4 : Same H H4 := Same.trans e1 (same_off e3 hwd o4)
    have hc4 : H4 c0 = some (.lst []) := by rw [o4 c0 nc0]; exact upd_same
    have hf4 : FrT H4 st ((nz (List.range n)).map V.int) := hf1.onto fun o q => same_off e3 hwd o4 _ _ q
    have hwH : H wd = none := Same.free e1 hwd
    clear e3 D3 o4
    repeat walk_at "rt"
    refine rd_kLst rfl fun wl hwl => ?_
    have nwl : wl ≠ wd := by
      obtain ⟨xs, q⟩ := D4.at
      exact (ne_of_none q hwl).symm
    have hlH : H wl = none := Same.free e4 hwl
    have D5 : DFr P w (upd H4 wl (.lst [.ref st])) wd [(st, List.range n, .ref c0)] := D4.same (Same.new hwl)
    repeat walk_at "rt"
    refine while_k (fun k σ H' => ∃ v6 v7 v8 v9 kvs, σ = [some (.ref a), some (.ref fo), some (.int (most : Int)), some (.ref st), some (.ref wd), some (.ref wl), v6, v7, v8, v9] ∧ Same H H' ∧ DFr P w H' wd kvs ∧ FitW H' (bfs L (ts.map Prod.snd) (List.range n) k) kvs ∧ (∀ q ∈ kvs, q.2.2 ≠ .ref wl) ∧
        H' wl = some (.lst ((kvs.drop k).map rf)) ∧ k ≤ (bfs L (ts.map Prod.snd) (List.range n) k).length ∧ (bfs L (ts.map Prod.snd) (List.range n) k).length ≤ most) most 0
      ⟨_, _, _, _, [(st, List.range n, .ref c0)], rfl, e4.trans (Same.new hwl), D5, .cons ⟨rfl, c0, rfl, Same.new hwl _ _ hc4⟩ .nil, (fun q hq z => by
        rw [List.mem_singleton.mp hq] at z
        cases z
        rw [hc4] at hwl
        cases hwl), upd_same, Nat.zero_le _, m1⟩ ?_ ?_
    · rintro k σ H6 ⟨v6, v7, v8, v9, kvs, rfl, e6, D6, F6, N6, q6, k6, z6⟩
      refine ⟨_, rfl, _, .inl ⟨_, SqL.of q6, rfl⟩, ?_⟩
      refine ite_b (fun c => ?_) (fun c => ?_)
      · have hk : k < kvs.length := by
          rcases Nat.lt_or_ge k kvs.length with l | l
          · exact l
          · rw [List.drop_eq_nil_of_le l] at c
            cases c
        have hkf : k < (bfs L (ts.map Prod.snd) (List.range n) k).length := by rw [F6.len]; exact hk
        refine ⟨by omega, ?_⟩
        obtain ⟨e, he⟩ : ∃ e, (bfs L (ts.map Prod.snd) (List.range n) k)[k]? = some e := ⟨_, List.getElem?_eq_getElem hkf⟩
        have hb1 := bfs_succ he
        have hde := hdom k e (List.mem_of_getElem? he)
        obtain ⟨q, cq, hq, hq1, hq2, hq3⟩ := F6.get he
        have hqk := D6.key hq
        rw [hq1] at hqk
        rw [List.drop_eq_getElem_cons hk, show kvs[k] = q from Option.some.inj ((List.getElem?_eq_getElem hk).symm.trans hq), List.map_cons] at q6
        have hqw := hqk.ne_lst q6
        repeat walk_at "rs"
        refine ⟨_, rfl, .inl ⟨rfl, _, SqL.of q6⟩, ?_⟩
        repeat walk_at "rs"
        refine rd_popAt (j := 0) (y := rf q) q6 rfl (by
          rw [List.length_cons, List.length_map, List.length_drop]
          have := F6.len
          omega) ?_
        rw [List.eraseIdx_zero, List.tail_cons]
        have D7 : DFr P w (upd H6 wl (.lst ((kvs.drop (k + 1)).map rf))) wd kvs := D6.ulst q6
        have F7 : FitW (upd H6 wl (.lst ((kvs.drop (k + 1)).map rf))) (bfs L (ts.map Prod.snd) (List.range n) k) kvs := F6.ulst (xs := []) N6
        have e7 : Same H (upd H6 wl (.lst ((kvs.drop (k + 1)).map rf))) := same_upd e6 hlH
        have q7 : upd H6 wl (.lst ((kvs.drop (k + 1)).map rf)) wl = some (.lst ((kvs.drop (k + 1)).map rf)) := upd_same
        have f7 : FrT (upd H6 wl (.lst ((kvs.drop (k + 1)).map rf))) q.1 ((nz e.1).map V.int) := hqk.onto fun o z => by rw [upd_ne hqw]; exact z
        generalize upd H6 wl (.lst ((kvs.drop (k + 1)).map rf)) = H7 at *
        repeat walk_at "rs"
        obtain ⟨⟨dy7, hta7⟩, hR7⟩ := id (hT.same e7)
        with_reducible dsimp only
        refine rd_forE ?_
        repeat walk_at "rs"
        refine rd_kFld hta7 T.cl_Turns T.nMaps (tF_maps _ _) ?_
        repeat walk_at "rs"
        refine rd_kEnum (SqL.of hR7.1) (fun j σ H' => ∃ v7 v8 v9 kvs, σ = [some (.ref a), some (.ref fo), some (.int (most : Int)), some (.ref st), some (.ref wd), some (.ref wl), some (.ref q.1), v7, v8, v9] ∧ Same H H' ∧ DFr P w H' wd kvs ∧
            FitW H' (growW L e.1 e.2 (bfs L (ts.map Prod.snd) (List.range n) k) 0 ((ts.map Prod.snd).take j)) kvs ∧ (∀ q ∈ kvs, q.2.2 ≠ .ref wl) ∧ H' wl = some (.lst ((kvs.drop (k + 1)).map rf)) ∧ FrT H' q.1 ((nz e.1).map V.int) ∧
            k + 1 ≤ (growW L e.1 e.2 (bfs L (ts.map Prod.snd) (List.range n) k) 0 ((ts.map Prod.snd).take j)).length ∧ (growW L e.1 e.2 (bfs L (ts.map Prod.snd) (List.range n) k) 0 ((ts.map Prod.snd).take j)).length ≤ most)
          ⟨_, _, _, kvs, rfl, e7, D7, F7, N6, q7, f7, hkf, z6⟩ (fun i σ H' _ ⟨_, _, _, _, _, e, _⟩ => SqL.of ((hT.same e).2.1)) ?_ ?_
        · rintro j x T0 σ H8 hx ⟨v7, v8, v9, kvs8, rfl, e8, D8, F8, N8, q8, f8, k8, z8⟩ hT0
          obtain ⟨row, hrow, rfl⟩ := srow_at hx
          have hm : (ts.map Prod.snd)[j]? = some row.2 := by rw [List.getElem?_map, hrow]; rfl
          have hg := growW_take (L := L) (t := e.1) (w := e.2) (f := bfs L (ts.map Prod.snd) (List.range n) k) hm
          have hle := growW_le (L := L) (maps := ts.map Prod.snd) (t := e.1) (w := e.2) (f := bfs L (ts.map Prod.snd) (List.range n) k) (i := j + 1)
          have hnd : ((growW L e.1 e.2 (bfs L (ts.map Prod.snd) (List.range n) k) 0 ((ts.map Prod.snd).take j)).map Prod.fst).Nodup := growW_nodup _ 0 (bfs_nodup k)
          have hat : (growW L e.1 e.2 (bfs L (ts.map Prod.snd) (List.range n) k) 0 ((ts.map Prod.snd).take j))[k]? = some e := by
            obtain ⟨g, hg⟩ := growW_pre (L := L) (t := e.1) (w := e.2) ((ts.map Prod.snd).take j) (bfs L (ts.map Prod.snd) (List.range n) k) 0
            rw [← hg, List.getElem?_append_left hkf]
            exact he
          rw [hg]
          generalize growW L e.1 e.2 (bfs L (ts.map Prod.snd) (List.range n) k) 0 ((ts.map Prod.snd).take j) = fj at *
          have s9 := Same.new (o := .tup [.int (j : Int), .ref row.1]) hT0
          have st0 := SqT.of (K := K) (upd_same (H := H8) (a := T0) (o := .tup [.int (j : Int), .ref row.1]))
          have D9 := D8.same s9
          have F9 := F8.keep (fun c xs h => s9 c _ h)
          have q9 := s9 _ _ q8
          have f9 := f8.onto fun o z => s9 _ _ z
          have e9 := e8.trans s9
          generalize upd H8 T0 (.tup [.int (j : Int), .ref row.1]) = H9 at *
          repeat walk_at "rs"
          refine ⟨fo, sp, rfl, if_pos rfl, ?_⟩
          repeat walk_at "rs"
          refine hL _ _ e.1 row.2 _ _ _ f9.seq (SqT.of ((hT.same e9).2.2 _ (List.mem_of_getElem? hrow))) hde (hmap hm) fun nw H10 hnw e10 hnf => ?_
          have D10 := D9.same e10
          have F10 := F9.keep (fun c xs h => e10 c _ h)
          have q10 := e10 _ _ q9
          have f10 := f9.onto fun o z => e10 _ _ z
          have eH := Same.trans e9 e10
          clear D9 F9 q9 f9 st0 s9 D8 F8 q8 f8
          repeat walk_at "rs"
          refine rd_fnotinV rfl rfl D10 hnf ?_
          rw [F10.isSome]
          repeat walk_at "rs"
          refine ite_b (fun c => ?_) (fun c => ?_)
          · have hnm : L e.1 row.2 ∉ fj.map Prod.fst := by simpa using c
            have hp : putW fj (L e.1 row.2) (e.2 ++ [j]) = fj ++ [(L e.1 row.2, e.2 ++ [j])] := if_neg hnm
            rw [hg, hp] at hle
            rw [hp]
            repeat walk_at "rs"
            refine rd_lenF D10 ?_
            repeat walk_at "rs"
            refine ite_d (fun c2 => ?_) (fun c2 => ?_)
            · refine kE ⟨k + 1, ?_⟩ _ eH
              rw [hb1]
              rw [List.length_append, List.length_singleton, F10.len] at hle
              have := F10.len
              omega
            · have hz : fj.length < most := by
                have := F10.len
                omega
              obtain ⟨cw, hl1, hl2⟩ := F10.look hnd hat
              repeat walk_at "rs"
              refine rd_fput ?_
              repeat walk_at "rs"
              refine rd_fgetV rfl rfl D10 f10 hl1 ?_
              repeat walk_at "rs"
              refine rd_kLst rfl fun c1 hc1 => ?_
              have s11 := Same.new (o := .lst [.int (j : Int)]) hc1
              have D11 := D10.same s11
              have F11 := F10.keep (fun c xs h => s11 c _ h)
              have q11 := s11 _ _ q10
              have f11 := f10.onto fun o z => s11 _ _ z
              have n11 := hnf.onto fun o z => s11 _ _ z
              have e11 := eH.trans s11
              have w11 := s11 _ _ hl2
              have l11 := upd_same (H := H10) (a := c1) (o := .lst [.int (j : Int)])
              generalize upd H10 c1 (.lst [.int (j : Int)]) = H11 at *
              refine rd_cat w11 l11 (by
                have h1 := bfs_long k e (List.mem_of_getElem? he)
                rw [nz_len, List.length_singleton]
                omega) fun c3 hc3 => ?_
              rw [nz_snoc]
              have s12 := Same.new (o := .lst ((nz (e.2 ++ [j])).map V.int)) hc3
              have D12 := D11.same s12
              have F12 := F11.keep (fun c xs h => s12 c _ h)
              have q12 := s12 _ _ q11
              have f12 := f11.onto fun o z => s12 _ _ z
              have n12 := n11.onto fun o z => s12 _ _ z
              have e12 := e11.trans s12
              have w12 := upd_same (H := H11) (a := c3) (o := .lst ((nz (e.2 ++ [j])).map V.int))
              have nc3 : c3 ≠ wl := (ne_of_none q11 hc3).symm
              generalize upd H11 c3 (.lst ((nz (e.2 ++ [j])).map V.int)) = H12 at *
              refine rd_kFPut rfl rfl D12 n12 (by rw [← F10.len]; omega) fun H13 o13 D13 => ?_
              rw [putD_none (by rw [F12.isSome]; exact decide_eq_false hnm)] at D13
              have q13 : H13 wl = some (.lst ((kvs8.drop (k + 1)).map rf)) := by rw [o13 wl nwl]; exact q12
              have w13 : H13 c3 = some (.lst ((nz (e.2 ++ [j])).map V.int)) := by rw [o13 c3 (D12.cell w12)]; exact w12
              have F13 := FitW.snoc (t := L e.1 row.2) (b := nw) (F12.off D12 o13) w13
              have e13 : Same H H13 := same_off e12 hwH o13
              have f13 : FrT H13 q.1 ((nz e.1).map V.int) := f12.onto fun o z => by rw [o13 _ (f12.ne_dct D12)]; exact z
              have N13 : ∀ q ∈ kvs8 ++ [(nw, L e.1 row.2, V.ref c3)], q.2.2 ≠ .ref wl := fun q hq z => by
                rcases List.mem_append.mp hq with hq | hq
                · exact N8 q hq z
                · rw [List.mem_singleton.mp hq] at z
                  exact nc3 (V.ref.inj z)
              with_reducible dsimp only
              repeat walk_at "rs"
              refine rd_kApp q13 (by
                have := F10.len
                rw [List.length_map, List.length_drop]
                omega) ?_
              have hk8 : k + 1 ≤ kvs8.length := by rw [← F10.len]; exact k8
              exact ⟨_, _, _, _, rfl, same_upd e13 hlH, D13.ulst q13, F13.ulst (xs := []) N13, N13, by rw [List.drop_append_of_le_length hk8, List.map_append]; exact upd_same, f13.onto fun o z => by rw [upd_ne (f13.ne_lst q13)]; exact z,
                by rw [List.length_append]; omega, by rw [List.length_append, List.length_singleton]; omega⟩
          · have hin : L e.1 row.2 ∈ fj.map Prod.fst := by simpa using c
            have hp : putW fj (L e.1 row.2) (e.2 ++ [j]) = fj := if_pos hin
            rw [hp]
            repeat walk_at "rs"
            exact ⟨_, _, _, kvs8, rfl, eH, D10, F10, N8, q10, f10, k8, z8⟩
        · rintro σ H8 ⟨v7, v8, v9, kvs8, rfl, e8, D8, F8, N8, q8, f8, k8, z8⟩
          rw [List.take_of_length_le (by rw [List.length_map, List.length_map]; exact Nat.le_refl _)] at F8 k8 z8
          exact ⟨_, _, _, _, kvs8, rfl, e8, D8, by rw [hb1]; exact F8, N8, q8, by rw [hb1]; exact k8, by rw [hb1]; exact z8⟩
      · have hkl : kvs.length ≤ k := by
          rcases Nat.lt_or_ge k kvs.length with l | l
          · rw [List.drop_eq_getElem_cons l] at c
            cases c
          · exact l
        repeat walk_at "rs"
        exact kQ _ kvs wd H6 ⟨k, by rw [F6.len]; exact hkl, z6, rfl⟩ hwH e6 D6 F6
    · rintro σ H' Q1 Q2 hq ⟨v, h1, b, h2, h3⟩
      exact ⟨v, h1, b, h2, hq _ _ h3⟩
def spMapsOf (C C_TooMany : Addr) : Sp := fun vs H Q E => ∃ (a r : Addr) (n : Nat) (ts : List SRow), vs = [.ref a] ∧ TurnsAt C H a n r ts ∧ TOk n (ts.map Prod.snd) ∧
  (∀ (f : TW) (gs : List SRow) (p : Addr) (H' : Hp), FoundW thenM (ts.map Prod.snd) (List.range n) 300 (some f) → H p = none → Same H H' → SetsF H' p gs → gs.map Prod.snd = f.map Prod.fst → Q (.ref p) H') ∧
  (FoundW thenM (ts.map Prod.snd) (List.range n) 300 none → ∀ H', Same H H' → E (.ref C_TooMany) none H')
abbrev N_maps_of : List Str := ["turns"]
theorem sc_maps_of : FnScope ["turns"] ["turns"] (defScope s_maps_of) := ⟨rfl, rfl, rfl, by decide +kernel, rfl, by decide +kernel, by decide +kernel⟩
theorem ok_mapsofw {f C_Turns C_TooMany : Addr} {t1 t2 t3 : Tok} {fd : FuncData} (F : Fun K "maps_of" "maps_of" s_maps_of f fd) (T : TUM K mg C_Turns t1 t2 C_TooMany) (v_most : mg "_MOST_FOUND" = some (.int 300 t3)) (d_one_then_other : Df P w K mg base CX0 1 "one_then_other" ["one", "other"] (spThen K))
    (d__first_words : Df P w K mg base (L2N.CX P w) 3 "_first_words" ["turns", "lead", "most"] (spFirst P w K mg base C_Turns C_TooMany)) : FnOk P w K mg base (L2N.CX P w) 4 f fd ["turns"] (spMapsOf C_Turns C_TooMany) := by
  obtain ⟨fo, fdo, ho1, ho2, ho3, ho4⟩ := d_one_then_other.ex
  refine okXN F sc_maps_of (fun vs H Q E h => ?_) (fun cdv A outer s H vs Q E hr h => ?_)
  · obtain ⟨a, r, n, ts, rfl, _⟩ := h
    rfl
  · obtain ⟨a, r, n, ts, rfl, hT, hok, kQ, kE⟩ := h
    refine ⟨_, (pss_one (ps_ret (pe_callTy (cr_listF rfl) (by rfl) T.n_list (by decide +kernel) (pa_cons (pe_df d__first_words (hr.mono (by decide)) (L2N.passes_call (L2N.takes_of rfl rfl rfl rfl) (fun _ _ _ _ h => h)) (pa_cons (pv 0) (pa_cons (pe_glob (v := .ref fo) rfl ho1 rfl) (pa_cons (pe_glob (v := .int 300) rfl v_most ⟨_, rfl⟩) pa_nil)))) pa_nil)))), ?_⟩
    repeat walk_at "rs"
    have n2 := hok.2.1
    refine ⟨a, r, fo, n, 300, ts, spThen K, thenM, MapOk n, rfl, hT, hok, by decide, by decide, ⟨_, _, ho3, ho2, ho4⟩, lead_then n (by omega), range_ok n, fun xs ys => thenM_ok, fun g kvs p H' hg hp e D F => ?_, kE⟩
    repeat walk_at "rs"
    refine rd_listF D fun l hl => ?_
    have sl := Same.new (o := .lst (kvs.map fun q => V.ref q.1)) hl
    refine kQ g (kvs.map fun q => (q.1, q.2.1)) l _ hg (Same.free e hl) (e.trans sl) ⟨by rw [upd_same, List.map_map]; rfl, (D.same sl).sets⟩ ?_
    rw [List.map_map]
    exact F.keys
def spFoundL : Sp := fun vs H Q _ => ∃ (l : Addr) (n : Nat) (ts : List SRow), vs = [.int (n : Int), .ref l] ∧ SetsAt H l ts ∧ TOk n (ts.map Prod.snd) ∧
  (∀ (f : TW) (gs : List SRow) (p : Addr) (H' : Hp), FoundW thenM (ts.map Prod.snd) (List.range n) 300 (some f) → H p = none → Same H H' → SetsF H' p gs → gs.map Prod.snd = f.map Prod.fst → Q (.ref p) H') ∧
  (FoundW thenM (ts.map Prod.snd) (List.range n) 300 none → ∀ H', Same H H' → Q .non H')
abbrev N__law_found : List Str := ["_law_many", "_law_maps", "_law_found_here", "_law_known", "_law_at", "_law_step", "_law_one_here", "_law_place"]
theorem sc__law_found : FnScope ["_law_many", "_law_maps", "_law_found_here", "_law_known", "_law_at", "_law_step", "_law_one_here", "_law_place"] ["_law_many", "_law_maps"] (defScope s__law_found) := ⟨rfl, rfl, rfl, by decide +kernel, rfl, by decide +kernel, by decide +kernel⟩
theorem ok_foundl {f : Addr} {fd : FuncData} (F : Fun K "_law_found" "_law_found" s__law_found f fd) (T : Tx K mg) : FnOk P w K mg base CX0 1 f fd ["_law_many", "_law_maps"] spFoundL := by
  refine F.ok sc__law_found (fun vs H Q E h => ?_) (fun cdv A outer s H vs Q E hr h => ?_)
  · obtain ⟨l, n, ts, rfl, _⟩ := h
    rfl
  · obtain ⟨l, n, ts, rfl, hl, hok, kQ, kN⟩ := h
    refine ⟨_, (pss_cons (ps_set (i := 2) sc__law_found.nd rfl (Or.inl rfl) (pe_lst (pa_cons (pe_tupRgF rfl (by rfl) T.n_tuple (prg_1 (by rfl) T.n_range (pv 0))) pa_nil)))
 (pss_cons (ps_set (i := 3) sc__law_found.nd rfl (Or.inl rfl) (pe_fdisp (units1 hr.units) (pe_ix ix_list (pv 2) pe_int (fun _ _ => rfl)) pe_bl))
 (pss_cons (ps_set (i := 4) sc__law_found.nd rfl (Or.inl rfl) pe_int)
 (pss_cons (ps_while PassesOwn.never (pt_cmpR op_lt (pv 4) (pe_callB cr_len (by rfl) T.n_len PySem.boot_len (pa_cons (pv 2) pa_nil)) (nomark _)) (pss_cons (ps_for PassesOwn.never rfl (pi_list (pv 1)) (pg_name (i := 5) sc__law_found.nd rfl (Or.inr rfl))
 (pss_cons (ps_set (i := 6) sc__law_found.nd rfl (Or.inl rfl) (pe_callTy cr_tupOfF (by rfl) T.n_tuple (by decide +kernel) (pa_cons (pe_lc (own := [("_law_place", 7)]) (g := gName 7) (tt := tYes) (te := (tOp (rIxT K) (tVar 5) (tVar 7))) (by rfl) sc__law_found.nd (pi_tup (pe_ix ix_list (pv 2) (pv 4) (fun _ _ => rfl))) (blkOk_by (own := [("_law_place", 7)]) (N := N__law_found) (sc := defScope s__law_found) (by decide +kernel)) (fun _ _ _ _ _ => (pg_name (i := 7) sc__law_found.nd rfl (Or.inl rfl))) (fun _ _ _ _ _ => pts_nil) (fun _ _ _ _ _ => (pe_ix ix_tup (pv 5) (pv 7) (fun _ _ => rfl)))) pa_nil)))
 (pss_one (ps_if (pt_cmp (pc_fnotin (units1 hr.units) (pv 6) (pv 3))) (pss_cons (ps_fput (units1 hr.units) (pv 3) (pv 6) pe_bl (by rfl))
 (pss_one (ps_expr (pe_bm PySem.F.plainAttrs_list PySem.F.slot_list_append PySem.F.type_list_append mt_append (pv 2) (pa_cons (pv 6) pa_nil))))) pss_nil))))
 (pss_cons (ps_if (pt_cmpR op_gt (pe_callB cr_len (by rfl) T.n_len PySem.boot_len (pa_cons (pv 2) pa_nil)) pe_int (nomark _)) (pss_one (ps_ret pe_non)) pss_nil)
 (pss_one (ps_set (i := 4) sc__law_found.nd rfl (Or.inl rfl) (pe_op op_add (pv 4) pe_int))))))
 (pss_one (ps_ret (pv 2))))))), ?_⟩
    have hlen : (ts.map Prod.snd).length = ts.length := List.length_map ..
    have n2 := hok.2.1
    have hmap : ∀ {i : Nat} {m : List Nat}, (ts.map Prod.snd)[i]? = some m → MapOk n m := fun {i m} h => by
      have := hok.sign (s := i) (List.getElem?_eq_some_iff.mp h).1
      rw [List.getD_eq_getElem?_getD, h] at this
      exact this
    have hdom : ∀ k, ∀ p ∈ bfs thenM (ts.map Prod.snd) (List.range n) k, MapOk n p.1 := bfs_all (D := fun t _ => MapOk n t) (range_ok n) fun t w i m hd hm => thenM_ok hd (hmap hm)
    repeat walk_at "rs"
    refine rd_tupRgF1 ?_
    repeat walk_at "rs"
    refine rd_kRgF (by omega) fun t0 H1 ht0 e1 hf1 => ?_
    repeat walk_at "rs"
    refine rd_kLst rfl fun fl hfl => ?_
    have s2 := Same.new (o := .lst [.ref t0]) hfl
    have e2 := Same.trans e1 s2
    have hf2 := hf1.onto fun o z => s2 _ _ z
    have hl2 := upd_same (H := H1) (a := fl) (o := .lst [.ref t0])
    have hflH : H fl = none := Same.free e1 hfl
    generalize upd H1 fl (.lst [.ref t0]) = H2 at *
    repeat walk_at "rs"
    refine rd_fdisp fun kd H3 hkd e3 D3 => ?_
    have hl3 := e3 _ _ hl2
    have hf3 := hf2.onto fun o z => e3 _ _ z
    repeat walk_at "rs"
    refine rd_ixL (SqL.of hl3) rfl ?_
    refine rd_kFDk ?_
    repeat walk_at "rs"
    refine rd_kFD hf3 D3 fun H4 o4 D4 => ?_
    have hkH : H kd = none := Same.free e2 hkd
    have nfk : fl ≠ kd := D3.cell hl3
    have e4 : Same H H4 := Same.trans e2 (same_off e3 hkd o4)
    have hl4 : H4 fl = some (.lst [.ref t0]) := by rw [o4 fl nfk]; exact hl3
    have hf4 : FrT H4 t0 ((nz (List.range n)).map V.int) := hf3.onto fun o z => by rw [o4 _ (hf3.ne_dct D3)]; exact z
    clear e3 D3 o4 hl3 hf3 hl2 hf2 s2 e1 hf1
    repeat walk_at "rs"
    refine while_w (fun k σ H' => ∃ v5 v6 v7 kvs gs, σ = [some (.int (n : Int)), some (.ref l), some (.ref fl), some (.ref kd), some (.int (k : Int)), v5, v6, v7] ∧ Same H H' ∧ DFr P w H' kd kvs ∧ KeysF kvs (bfs thenM (ts.map Prod.snd) (List.range n) k) ∧
        SetsF H' fl gs ∧ gs.map Prod.snd = (bfs thenM (ts.map Prod.snd) (List.range n) k).map Prod.fst ∧ (bfs thenM (ts.map Prod.snd) (List.range n) k).length ≤ 300) 301 0
      ⟨_, _, _, _, [(t0, List.range n)], rfl, e4, D4, rfl, ⟨hl4, fun t ht => by rw [List.mem_singleton.mp ht]; exact hf4⟩, rfl, Nat.le_of_ble_eq_true rfl⟩ ?_
    rintro k σ H5 ⟨v5, v6, v7, kvs, gs, rfl, e5, D5, K5, G5, g5, z5⟩
    have hq5 := SqL.of (K := K) G5.1
    have gl5 : gs.length = (bfs thenM (ts.map Prod.snd) (List.range n) k).length := by
      have := congrArg List.length g5
      rw [List.length_map, List.length_map] at this
      exact this
    repeat walk_at "rs"
    refine rd_kWk (fun c => ?_) (fun c => ?_)
    · have hkf : k < (bfs thenM (ts.map Prod.snd) (List.range n) k).length := by
        have := of_decide_eq_true c
        rw [List.length_map] at this
        omega
      refine ⟨by omega, ?_⟩
      obtain ⟨e, he⟩ : ∃ e, (bfs thenM (ts.map Prod.snd) (List.range n) k)[k]? = some e := ⟨_, List.getElem?_eq_getElem hkf⟩
      have hb1 := bfs_succ he
      have hde := hdom k e (List.mem_of_getElem? he)
      obtain ⟨g, hg⟩ : ∃ g, gs[k]? = some g := ⟨_, List.getElem?_eq_getElem (by omega)⟩
      have hge : g.2 = e.1 := by
        have h1 := congrArg (fun l => l[k]?) g5
        simp only [List.getElem?_map, hg, he] at h1
        exact Option.some.inj h1
      repeat walk_at "rs"
      refine rd_kFor (fun j σ H' => ∃ v5 v6 v7 kvs gs, σ = [some (.int (n : Int)), some (.ref l), some (.ref fl), some (.ref kd), some (.int (k : Int)), v5, v6, v7] ∧ Same H H' ∧ DFr P w H' kd kvs ∧ KeysF kvs (growW thenM e.1 e.2 (bfs thenM (ts.map Prod.snd) (List.range n) k) 0 ((ts.map Prod.snd).take j)) ∧
          SetsF H' fl gs ∧ gs.map Prod.snd = (growW thenM e.1 e.2 (bfs thenM (ts.map Prod.snd) (List.range n) k) 0 ((ts.map Prod.snd).take j)).map Prod.fst ∧ gs[k]? = some g ∧ gs.length ≤ 300 + j) (SqL.of (e5 _ _ hl.1)) ⟨_, _, _, kvs, gs, rfl, e5, D5, K5, G5, g5, hg, by omega⟩ (fun i σ H' _ ⟨_, _, _, _, _, _, e, _⟩ => SqL.of (e _ _ hl.1)) ?_ ?_
      · rintro j x σ H6 hx ⟨v5, v6, v7, kvs6, gs6, rfl, e6, D6, K6, G6, g6, hg6, z6⟩
        obtain ⟨row, hrow, rfl⟩ := srow_at hx
        have hm : (ts.map Prod.snd)[j]? = some row.2 := by rw [List.getElem?_map, hrow]; rfl
        have hgt := growW_take (L := thenM) (t := e.1) (w := e.2) (f := bfs thenM (ts.map Prod.snd) (List.range n) k) hm
        rw [hgt]
        generalize growW thenM e.1 e.2 (bfs thenM (ts.map Prod.snd) (List.range n) k) 0 ((ts.map Prod.snd).take j) = fj at *
        have hrm := e6 _ _ (hl.2 _ (List.mem_of_getElem? hrow))
        have hjl : j < ts.length := (List.getElem?_eq_some_iff.mp hrow).1
        have okr := hmap hm
        have hgF := G6.2 _ (List.mem_of_getElem? hg6)
        rw [hge] at hgF
        repeat walk_at "rs"
        refine rd_lcU ?_
        repeat walk_at "rs"
        refine rd_ixL (SqL.of G6.1) (atI_nat (by rw [List.getElem?_map, hg6]; rfl)) ?_
        repeat walk_at "rs"
        refine rd_kLcU (fun i acc D H' => Same H6 H' ∧ acc = (nz (thenM (e.1.take i) row.2)).map V.int) hgF.seq (fun D hD => ⟨Same.new hD, rfl⟩) (fun i acc D H' ⟨e, _⟩ => seqT e hgF.seq) ?_ ?_
        · rintro i x acc D H' hD hi hxi hacc hlen ⟨e7, rfl⟩
          obtain ⟨m, hm', rfl⟩ := nat_at hxi
          rw [nz_len] at hi
          have hmy : m < row.2.length := by rw [okr.1]; exact hde.2 m (List.mem_of_getElem? hm')
          have hat : row.2[m]? = some row.2[m] := List.getElem?_eq_getElem hmy
          have hb' := SqT.of (K := K) (e7 _ _ hrm)
          repeat walk_at "rt"
          refine ⟨rfl, rd_yes ?_⟩
          repeat walk_at "rt"
          refine rd_ixT hb' (atI_nat (nz_at hat)) ?_
          refine rd_lcTE hacc hlen (by have := hde.1; omega) ⟨same_upd e7 hD, ?_⟩
          rw [nz_snoc, List.take_succ, hm']
          unfold thenM
          rw [List.map_append]
          show (nz (_ ++ [row.2[m]])).map V.int = (nz (_ ++ [row.2.getD m 0])).map V.int
          rw [List.getD_eq_getElem?_getD, hat]
          rfl
        · rintro acc D H7 hD hlen hacc ⟨e7, rfl⟩
          rw [nz_len, List.take_length] at hacc
          repeat walk_at "rs"
          refine rd_tupOfF (SqL.of hacc) fun nw H8 hnw e8 hnf => ?_
          have e9 := Same.trans e7 e8
          have eH := Same.trans e6 e9
          have D8 := D6.same e9
          have G8 := G6.same e9
          clear D6 G6 hacc
          repeat walk_at "rs"
          refine rd_fnotinV rfl rfl D8 hnf ?_
          rw [K6.isSome]
          repeat walk_at "rs"
          refine ite_b (fun c2 => ?_) (fun c2 => ?_)
          · have hnm : thenM e.1 row.2 ∉ fj.map Prod.fst := by simpa using c2
            rw [show putW fj (thenM e.1 row.2) (e.2 ++ [j]) = fj ++ [(thenM e.1 row.2, e.2 ++ [j])] from if_neg hnm]
            repeat walk_at "rs"
            refine rd_fput ?_
            repeat walk_at "rs"
            have gl6 : gs6.length = fj.length := by
              have := congrArg List.length g6
              rw [List.length_map, List.length_map] at this
              exact this
            refine rd_kFPut rfl rfl D8 hnf (by have := K6.len; have := hok.2.2.2.1; omega) fun H9 o9 D9 => ?_
            rw [putD_none (by rw [K6.isSome]; exact decide_eq_false hnm)] at D9
            have nfk9 : fl ≠ kd := D8.cell G8.1
            have q9 : H9 fl = some (.lst (gs6.map sv)) := by rw [o9 fl nfk9]; exact G8.1
            have hn9 : FrT H9 nw ((nz (thenM e.1 row.2)).map V.int) := hnf.onto fun o z => by rw [o9 _ (hnf.ne_dct D8)]; exact z
            have hg9 : ∀ t ∈ gs6, FrT H9 t.1 ((nz t.2).map V.int) := fun t ht => (G8.2 t ht).onto fun o z => by rw [o9 _ ((G8.2 t ht).ne_dct D8)]; exact z
            have eH9 : Same H H9 := same_off eH hkH o9
            repeat walk_at "rs"
            refine rd_kApp q9 (by
              rw [List.length_map]
              have := hok.2.2.2.1
              omega) ?_
            refine ⟨_, _, _, _, gs6 ++ [(nw, thenM e.1 row.2)], rfl, same_upd eH9 hflH, D9.ulst q9, ?_, ⟨by rw [List.map_append]; exact upd_same, ?_⟩, by rw [List.map_append, List.map_append, g6]; rfl, by rw [List.getElem?_append_left (List.getElem?_eq_some_iff.mp hg6).1]; exact hg6, by rw [List.length_append, List.length_singleton]; omega⟩
            · unfold KeysF at K6 ⊢
              rw [List.map_append, List.map_append, K6]
              rfl
            · intro t ht
              rcases List.mem_append.mp ht with ht | ht
              · exact (hg9 t ht).onto fun o z => by rw [upd_ne ((hg9 t ht).ne_lst q9)]; exact z
              · rw [List.mem_singleton.mp ht]
                exact hn9.onto fun o z => by rw [upd_ne (hn9.ne_lst q9)]; exact z
          · have hin : thenM e.1 row.2 ∈ fj.map Prod.fst := by simpa using c2
            rw [show putW fj (thenM e.1 row.2) (e.2 ++ [j]) = fj from if_pos hin]
            repeat walk_at "rs"
            exact ⟨_, _, _, kvs6, gs6, rfl, eH, D8, K6, G8, g6, hg6, by omega⟩
      · rintro σ H6 ⟨v5, v6, v7, kvs6, gs6, rfl, e6, D6, K6, G6, g6, hg6, z6⟩
        rw [List.take_of_length_le (by rw [List.length_map, List.length_map]; exact Nat.le_refl _)] at K6 g6
        have hq6 := SqL.of (K := K) G6.1
        repeat walk_at "rs"
        have gl6 : gs6.length = (bfs thenM (ts.map Prod.snd) (List.range n) (k + 1)).length := by
          rw [hb1]
          have := congrArg List.length g6
          rw [List.length_map, List.length_map] at this
          exact this
        rw [List.length_map]
        refine ite_d (fun c3 => ?_) (fun c3 => ?_)
        · repeat walk_at "rs"
          exact kN ⟨k + 1, by omega⟩ H6 e6
        · repeat walk_at "rs"
          exact ⟨_, _, _, kvs6, gs6, rfl, e6, D6, by rw [hb1]; exact K6, G6, by rw [hb1]; exact g6, by omega⟩
    · have hkl : (bfs thenM (ts.map Prod.snd) (List.range n) k).length ≤ k := by
        have := of_decide_eq_false c
        rw [List.length_map] at this
        omega
      repeat walk_at "rs"
      exact kQ _ gs fl _ ⟨k, hkl, z5, rfl⟩ hflH e5 G5 g5
def spSaid25 (C : Addr) : Sp := fun vs H Q _ => ∃ (a r : Addr) (n : Nat) (ts : List SRow), vs = [.ref a] ∧ TurnsAt C H a n r ts ∧ TOk n (ts.map Prod.snd) ∧
  (∀ (f : TW) (gs : List SRow) (p T : Addr) (H' : Hp), FoundW thenM (ts.map Prod.snd) (List.range n) 300 (some f) → H p = none → Same H H' → SetsF H' p gs → gs.map Prod.snd = f.map Prod.fst → H' T = some (.tup [.str "told", .ref p]) → Q (.ref T) H') ∧
  (FoundW thenM (ts.map Prod.snd) (List.range n) 300 none → ∀ T H', Same H H' → H' T = some (.tup [.str "too many", .non]) → Q (.ref T) H')
abbrev N__law_said : List Str := ["_law_turns_here"]
theorem sc__law_said : FnScope ["_law_turns_here"] ["_law_turns_here"] (defScope s__law_said) := ⟨rfl, rfl, rfl, by decide +kernel, rfl, by decide +kernel, by decide +kernel⟩
theorem ok_said25 {f C_Turns C_TooMany : Addr} {t1 t2 : Tok} {fd : FuncData} (F : Fun K "_law_said" "_law_said" s__law_said f fd) (T : TUM K mg C_Turns t1 t2 C_TooMany) (d_maps_of : Df P w K mg base (L2N.CX P w) 4 "maps_of" ["turns"] (spMapsOf C_Turns C_TooMany)) : FnOk P w K mg base CX0 5 f fd ["_law_turns_here"] (spSaid25 C_Turns) := by
  refine F.ok sc__law_said (fun vs H Q E h => ?_) (fun cdv A outer s H vs Q E hr h => ?_)
  · obtain ⟨a, r, n, ts, rfl, _⟩ := h
    rfl
  · obtain ⟨a, r, n, ts, rfl, hT, hok, kQ, kN⟩ := h
    refine ⟨_, (pss_one (ps_try_topN rfl rfl ⟨rfl, by decide, .inl T.g_TooMany⟩ (fun W pn xe tk _ => (pss_one (ps_ret (pe_tup (pa_cons pe_str (pa_cons (pe_dfS d_maps_of (hr.mono (by decide)) (fun σ => L2N.passAt tk σ) (pa_cons (pv 0) pa_nil)) pa_nil)))))) (fun a oe cls d pn _ _ => (pss_one (ps_ret (pe_tup (pa_cons pe_str (pa_cons pe_non pa_nil)))))))), ?_⟩
    repeat walk_at "rs"
    refine ⟨a, r, n, ts, rfl, hT, hok, fun g gs p H1 hg hp e1 hG hgs => ?_, fun c H1 e1 => ?_⟩
    · repeat walk_at "rs"
      refine rd_kTup rfl fun T1 hT1 => ?_
      have s2 := Same.new (o := .tup [.str "told", .ref p]) hT1
      exact kQ g gs p T1 _ hg hp (e1.trans s2) (hG.same s2) hgs upd_same
    · refine ⟨T.em_TooMany, fun y hy => ?_⟩
      repeat walk_at "rs"
      refine rd_kTup rfl fun T1 hT1 => ?_
      exact kN c T1 _ (e1.trans (Same.new hT1)) upd_same
/-- all places a step on, around -/
def roundM (m s : Nat) : List Nat := (List.range m).map fun x => (x + s) % m
theorem roundM_ok {m : Nat} (h : 1 ≤ m) (s : Nat) : MapOk m (roundM m s) := by
  unfold roundM
  refine ⟨by rw [List.length_map, List.length_range], fun x hx => ?_⟩
  obtain ⟨y, _, rfl⟩ := List.mem_map.mp hx
  exact Nat.mod_lt _ (by omega)
theorem nz_next {f : Nat → Nat} {i : Nat} {z : Int} (h : z = (f i : Int)) : (nz ((List.range i).map f)).map V.int ++ [.int z] = (nz ((List.range (i + 1)).map f)).map V.int := by
  rw [List.range_succ, List.map_append, h]
  exact nz_snoc _ _
theorem nz_next0 {i : Nat} {z : Int} (h : z = (i : Int)) : (nz (List.range i)).map V.int ++ [.int z] = (nz (List.range (i + 1))).map V.int := by
  rw [List.range_succ, h]
  exact nz_snoc _ _
def spRound : Sp := fun vs H Q _ => ∃ (p : Addr) (m N : Nat), vs = [.ref p, .int (m : Int)] ∧ WellAt H p N ∧ N < 1000000 ∧ 1 ≤ m ∧ m ≤ 32 ∧
  ∀ T l ts H', But p H H' → WellAt H' p (N + 2) → H' T = some (.tup [.int (m : Int), .ref l]) → SetsAt H' l ts → TOk m (ts.map Prod.snd) → Q (.ref T) H'
abbrev N__law_round : List Str := ["_law_well_here", "_law_many", "_law_maps", "_law_place", "_law_step"]
theorem sc__law_round : FnScope ["_law_well_here", "_law_many", "_law_maps", "_law_place", "_law_step"] ["_law_well_here", "_law_many"] (defScope s__law_round) := ⟨rfl, rfl, rfl, by decide +kernel, rfl, by decide +kernel, by decide +kernel⟩
theorem ok_round {f : Addr} {fd : FuncData} (F : Fun K "_law_round" "_law_round" s__law_round f fd) (T : Tx K mg) (d__law_draw : Df P w K mg base CX0 1 "_law_draw" ["_law_well_here", "_law_many"] spDraw) : FnOk P w K mg base CX0 2 f fd ["_law_well_here", "_law_many"] spRound := by
  refine F.ok sc__law_round (fun vs H Q E h => ?_) (fun cdv A outer s H vs Q E hr h => ?_)
  · obtain ⟨p, m, N, rfl, _⟩ := h
    rfl
  · obtain ⟨p, m, N, rfl, hw, hN, m1, m2, k⟩ := h
    refine ⟨_, (pss_cons (ps_set (i := 2) sc__law_round.nd rfl (Or.inl rfl) (pe_lst (pa_cons (pe_callTy cr_tupOf (by rfl) T.n_tuple (by decide +kernel) (pa_cons (pe_lc (own := [("_law_place", 3)]) (g := gName 3) (tt := tYes) (te := (tOp rModA (tOp (rI0 fun i j => V.int (i + j)) (tVar 3) (tC (V.int (1)))) (tVar 1))) (by rfl) sc__law_round.nd (pi_range1 (by rfl) T.n_range (pa_cons (pv 1) pa_nil)) (blkOk_by (own := [("_law_place", 3)]) (N := N__law_round) (sc := defScope s__law_round) (by decide +kernel)) (fun _ _ _ _ _ => (pg_name (i := 3) sc__law_round.nd rfl (Or.inl rfl))) (fun _ _ _ _ _ => pts_nil) (fun _ _ _ _ _ => (pe_op op_modA (pe_op op_add (pv 3) pe_int) (pv 1)))) pa_nil)) pa_nil)))
 (pss_cons (ps_if (pt_cmpR op_eq (pe_df d__law_draw (hr.mono (by decide)) pass0 (pa_cons (pv 0) (pa_cons pe_int pa_nil))) pe_int (nomark _)) (pss_cons (ps_set (i := 4) sc__law_round.nd rfl (Or.inr rfl) (pe_df d__law_draw (hr.mono (by decide)) pass0 (pa_cons (pv 0) (pa_cons (pv 1) pa_nil))))
 (pss_one (ps_expr (pe_bm PySem.F.plainAttrs_list PySem.F.slot_list_append PySem.F.type_list_append mt_append (pv 2) (pa_cons (pe_callTy cr_tupOf (by rfl) T.n_tuple (by decide +kernel) (pa_cons (pe_lc (own := [("_law_place", 3)]) (g := gName 3) (tt := tYes) (te := (tOp rModA (tOp (rI0 fun i j => V.int (i + j)) (tVar 3) (tVar 4)) (tVar 1))) (by rfl) sc__law_round.nd (pi_range1 (by rfl) T.n_range (pa_cons (pv 1) pa_nil)) (blkOk_by (own := [("_law_place", 3)]) (N := N__law_round) (sc := defScope s__law_round) (by decide +kernel)) (fun _ _ _ _ _ => (pg_name (i := 3) sc__law_round.nd rfl (Or.inl rfl))) (fun _ _ _ _ _ => pts_nil) (fun _ _ _ _ _ => (pe_op op_modA (pe_op op_add (pv 3) (pv 4)) (pv 1)))) pa_nil)) pa_nil))))) pss_nil)
 (pss_one (ps_ret (pe_tup (pa_cons (pv 1) (pa_cons (pv 2) pa_nil))))))), ?_⟩
    repeat walk_at "rt"
    refine ⟨(m : Int), rfl, by omega, by omega, rd_kLcN (fun i acc D H' => Same H H' ∧ acc = (nz ((List.range i).map fun x => (x + 1) % m)).map V.int) (fun D hD => ⟨Same.new hD, rfl⟩) ?_ (g_mono _ _) ?_⟩
    · rintro i acc D H' hD hi hacc hlen ⟨e, rfl⟩
      have hi2 : i < m := by omega
      repeat walk_at "rt"
      refine ⟨rfl, ?_⟩
      repeat walk_at "rt"
      refine rd_lcEnd hacc hlen (by omega) ⟨same_upd e hD, nz_next ?_⟩
      rw [Int.zero_add]
      rfl
    · rintro acc D H1 hD hlen hacc ⟨e1, rfl⟩
      rw [Int.toNat_natCast, ← show roundM m 1 = (List.range m).map (fun x => (x + 1) % m) from rfl] at hacc
      repeat walk_at "rt"
      refine rd_tupOf (SqL.of hacc) fun T1 hT1 => ?_
      have s2 := Same.new (o := .tup ((nz (roundM m 1)).map V.int)) hT1
      have h2 : upd H1 T1 (.tup ((nz (roundM m 1)).map V.int)) T1 = some (.tup ((nz (roundM m 1)).map V.int)) := upd_same
      have e2 := Same.trans e1 s2
      generalize upd H1 T1 (.tup ((nz (roundM m 1)).map V.int)) = H2 at *
      repeat walk_at "rt"
      refine rd_kLst rfl fun l hl => ?_
      have s3 := Same.new (o := .lst [.ref T1]) hl
      have h3 := s3 _ _ h2
      have l3 := upd_same (H := H2) (a := l) (o := .lst [.ref T1])
      have e3 := Same.trans e2 s3
      have w3 := hw.same e3
      have nT : T1 ≠ p := hw.ne_new (Same.free e1 hT1)
      have nl : l ≠ p := hw.ne_new (Same.free e2 hl)
      generalize upd H2 l (.lst [.ref T1]) = H3 at *
      repeat walk_at "rt"
      refine rd_ifS ?_
      repeat walk_at "rt"
      refine ⟨p, 2, N, rfl, w3, by omega, by decide, by decide, fun r H4 r0 r1 e4 w4 => ?_⟩
      have h4 := e4 _ _ nT h3
      have l4 := e4 _ _ nl l3
      have b4 : But p H H4 := (sbut e3).trans e4
      clear h3 l3 h2 s3 s2
      repeat walk_at "rt"
      refine ite_d (fun c => ?_) (fun c => ?_)
      · repeat walk_at "rt"
        refine ⟨p, (m : Int), _, rfl, w4, by omega, by omega, by omega, fun q H5 q0 q1 e5 w5 => ?_⟩
        obtain ⟨s, rfl⟩ : ∃ s : Nat, q = (s : Int) := ⟨q.toNat, by omega⟩
        have h5 := e5 _ _ nT h4
        have l5 := e5 _ _ nl l4
        have b5 := b4.trans e5
        repeat walk_at "rt"
        refine ⟨(m : Int), rfl, by omega, by omega, rd_kLcN (fun i acc D H' => Same H5 H' ∧ acc = (nz ((List.range i).map fun x => (x + s) % m)).map V.int) (fun D hD => ⟨Same.new hD, rfl⟩) ?_ (g_mono _ _) ?_⟩
        · rintro i acc D H' hD hi hacc hlen ⟨e, rfl⟩
          have hi2 : i < m := by omega
          repeat walk_at "rt"
          refine ⟨rfl, ?_⟩
          repeat walk_at "rt"
          refine rd_lcEnd hacc hlen (by omega) ⟨same_upd e hD, nz_next ?_⟩
          rw [Int.zero_add]
          rfl
        · rintro acc D H6 hD hlen hacc ⟨e6, rfl⟩
          rw [Int.toNat_natCast, ← show roundM m s = (List.range m).map (fun x => (x + s) % m) from rfl] at hacc
          have w6 := w5.same e6
          repeat walk_at "rt"
          refine rd_tupOf (SqL.of hacc) fun T2 hT2 => ?_
          have s7 := Same.new (o := .tup ((nz (roundM m s)).map V.int)) hT2
          have h7 : upd H6 T2 (.tup ((nz (roundM m s)).map V.int)) T2 = some (.tup ((nz (roundM m s)).map V.int)) := upd_same
          have e7 := Same.trans e6 s7
          have h71 := e7 _ _ h5
          have l7 := e7 _ _ l5
          have w7 := w5.same e7
          have b7 := b5.trans (sbut e7)
          generalize upd H6 T2 (.tup ((nz (roundM m s)).map V.int)) = H7 at *
          refine rd_kApp l7 (Nat.le_of_ble_eq_true rfl) ?_
          have nl1 : T1 ≠ l := fun z => by rw [z, l7] at h71; cases h71
          have nl2 : T2 ≠ l := fun z => by rw [z, l7] at h7; cases h7
          have h8 : upd H7 l (.lst ([.ref T1] ++ [.ref T2])) T1 = _ := (upd_ne nl1).trans h71
          have h82 : upd H7 l (.lst ([.ref T1] ++ [.ref T2])) T2 = _ := (upd_ne nl2).trans h7
          have l8 : upd H7 l (.lst ([.ref T1] ++ [.ref T2])) l = _ := upd_same
          have b8 : But p H (upd H7 l (.lst ([.ref T1] ++ [.ref T2]))) := fun c u n q => by rw [upd_ne (ne_of_none q (Same.free e2 hl))]; exact b7 c u n q
          have w8 : WellAt (upd H7 l (.lst ([.ref T1] ++ [.ref T2]))) p (N + 1 + 1) := w7.off nl
          generalize upd H7 l (.lst ([.ref T1] ++ [.ref T2])) = H8 at *
          repeat walk_at "rt"
          refine rd_kTup rfl fun T0 hT0 => ?_
          have s9 := Same.new (o := .tup [.int (m : Int), .ref l]) hT0
          refine k T0 l [(T1, roundM m 1), (T2, roundM m s)] _ (b8.trans (sbut s9)) ((w8.same s9).mono (by omega)) upd_same ⟨s9 _ _ l8, fun t ht => ?_⟩ ⟨m1, m2, Nat.le_of_ble_eq_true rfl, Nat.le_of_ble_eq_true rfl, fun ms hms => ?_⟩
          · simp only [List.mem_cons, List.not_mem_nil, or_false] at ht
            rcases ht with rfl | rfl
            · exact s9 _ _ h8
            · exact s9 _ _ h82
          · simp only [List.map_cons, List.map_nil, List.mem_cons, List.not_mem_nil, or_false] at hms
            rcases hms with rfl | rfl
            · exact roundM_ok m1 1
            · exact roundM_ok m1 s
      · repeat walk_at "rt"
        refine rd_kTup rfl fun T0 hT0 => ?_
        have s9 := Same.new (o := .tup [.int (m : Int), .ref l]) hT0
        refine k T0 l [(T1, roundM m 1)] _ (b4.trans (sbut s9)) ((w4.same s9).mono (by omega)) upd_same ⟨s9 _ _ l4, fun t ht => ?_⟩ ⟨m1, m2, Nat.le_of_ble_eq_true rfl, Nat.le_of_ble_eq_true rfl, fun ms hms => ?_⟩
        · rw [List.mem_singleton.mp ht]
          exact s9 _ _ h4
        · rw [show ms = roundM m 1 from List.mem_singleton.mp hms]
          exact roundM_ok m1 1
theorem ix_nat {n j : Nat} (h : j < n) : ixN n (j : Int) = some j := by
  unfold ixN
  rw [if_pos (by omega), if_pos (by omega)]
  rfl
/-- three lengths of rings -/
def Tri (H : Hp) (T : Addr) : Prop := ∃ a b c : Nat, H T = some (.tup [.int (a : Int), .int (b : Int), .int (c : Int)]) ∧ 1 ≤ a ∧ 1 ≤ b ∧ 1 ≤ c ∧ a + b + c ≤ 31
theorem rd_kTri {Q : VK} {H0 H : Hp} {Ts : List Addr} {x y z : Int} (e : Same H0 H) (hs : ∀ T ∈ Ts, Tri H T) (hb : (decide (1 ≤ x ∧ 1 ≤ y ∧ 1 ≤ z ∧ x + y + z ≤ 31)) = true) (h : ∀ p H', Same H0 H' → (∀ T ∈ p :: Ts, Tri H' T) → Q (.ref p) H') : kTup Q [.int x, .int y, .int z] H := by
  obtain ⟨h1, h2, h3, h4⟩ := of_decide_eq_true hb
  refine rd_kTup rfl fun p hp => ?_
  have sn := Same.new (o := .tup [.int x, .int y, .int z]) hp
  refine h p _ (e.trans sn) fun T hT => ?_
  rcases List.mem_cons.mp hT with z' | z'
  · rw [z']
    exact ⟨x.toNat, y.toNat, z.toNat, by rw [Int.toNat_of_nonneg (by omega), Int.toNat_of_nonneg (by omega), Int.toNat_of_nonneg (by omega)]; exact upd_same, by omega, by omega, by omega, by omega⟩
  · obtain ⟨x, y, u, q, r⟩ := hs T z'
    exact ⟨x, y, u, sn _ _ q, r⟩
/-- where the ring number r begins, how long it is -/
theorem tri_at {a b c r : Nat} (ha : 1 ≤ a) (hb : 1 ≤ b) (hc : 1 ≤ c) (hr : r < 3) : ∃ f g : Nat, (([(a : Int), b, c]).take r).sum = (f : Int) ∧ [V.int (a : Int), V.int (b : Int), V.int (c : Int)][r]? = some (.int (g : Int)) ∧ 1 ≤ g ∧ f + g ≤ a + b + c := by
  have h : r = 0 ∨ r = 1 ∨ r = 2 := by omega
  rcases h with rfl | rfl | rfl
  · exact ⟨0, a, rfl, rfl, ha, by omega⟩
  · exact ⟨a, b, by simp, rfl, hb, by omega⟩
  · exact ⟨a + b, c, by simp, rfl, hc, by omega⟩
theorem nz_set' {ms : List Nat} {i y : Nat} : ((nz ms).map V.int).set i (.int (y : Int)) = (nz (ms.set i y)).map V.int := by
  unfold nz
  rw [List.map_map, List.map_map]
  exact (List.map_set (f := V.int ∘ fun x : Nat => (x : Int))).symm
theorem tri_cut {a b c : Nat} {r : Nat} (hr : r < 3) : cutV [V.int (a : Int), V.int (b : Int), V.int (c : Int)] none (some (r : Int)) = (([(a : Int), b, c].take r).map V.int) ∧ ¬ (HT.sIx 3 0 none = 0 ∧ HT.sIx 3 3 (some (r : Int)) = 3) := by
  have h : r = 0 ∨ r = 1 ∨ r = 2 := by omega
  rcases h with rfl | rfl | rfl
  all_goals exact ⟨rfl, by decide⟩
def spRings : Sp := fun vs H Q _ => ∃ (p : Addr) (N : Nat), vs = [.ref p] ∧ WellAt H p N ∧ N < 1000000 ∧
  ∀ T l m ts H', But p H H' → WellAt H' p (N + 2) → H' T = some (.tup [.int ((m : Nat) : Int), .ref l]) → SetsAt H' l ts → TOk m (ts.map Prod.snd) → Q (.ref T) H'
abbrev N__law_rings : List Str := ["_law_well_here", "_law_some", "_law_lengths", "_law_maps", "_law_ring", "_law_first", "_law_places", "_law_place", "_law_more", "_law_one_here"]
theorem sc__law_rings : FnScope ["_law_well_here", "_law_some", "_law_lengths", "_law_maps", "_law_ring", "_law_first", "_law_places", "_law_place", "_law_more", "_law_one_here"] ["_law_well_here"] (defScope s__law_rings) := ⟨rfl, rfl, rfl, by decide +kernel, rfl, by decide +kernel, by decide +kernel⟩
theorem ok_rings {f : Addr} {fd : FuncData} (F : Fun K "_law_rings" "_law_rings" s__law_rings f fd) (T : Tx K mg) (d__law_draw : Df P w K mg base CX0 1 "_law_draw" ["_law_well_here", "_law_many"] spDraw) (d__law_one : Df P w K mg base CX0 2 "_law_one" ["_law_well_here", "_law_some"] (spOne K)) : FnOk P w K mg base CX0 3 f fd ["_law_well_here"] spRings := by
  refine F.ok sc__law_rings (fun vs H Q E h => ?_) (fun cdv A outer s H vs Q E hr h => ?_)
  · obtain ⟨p, N, rfl, _⟩ := h
    rfl
  · obtain ⟨p, N, rfl, hw, hN, k⟩ := h
    refine ⟨_, (pss_cons (ps_set (i := 1) sc__law_rings.nd rfl (Or.inl rfl) (pe_lst (pa_cons (pe_tup (pa_cons pe_int (pa_cons pe_int (pa_cons pe_int pa_nil)))) (pa_cons (pe_tup (pa_cons pe_int (pa_cons pe_int (pa_cons pe_int pa_nil)))) (pa_cons (pe_tup (pa_cons pe_int (pa_cons pe_int (pa_cons pe_int pa_nil)))) (pa_cons (pe_tup (pa_cons pe_int (pa_cons pe_int (pa_cons pe_int pa_nil)))) (pa_cons (pe_tup (pa_cons pe_int (pa_cons pe_int (pa_cons pe_int pa_nil)))) (pa_cons (pe_tup (pa_cons pe_int (pa_cons pe_int (pa_cons pe_int pa_nil)))) (pa_cons (pe_tup (pa_cons pe_int (pa_cons pe_int (pa_cons pe_int pa_nil)))) (pa_cons (pe_tup (pa_cons pe_int (pa_cons pe_int (pa_cons pe_int pa_nil)))) (pa_cons (pe_tup (pa_cons pe_int (pa_cons pe_int (pa_cons pe_int pa_nil)))) pa_nil)))))))))))
 (pss_cons (ps_set (i := 2) sc__law_rings.nd rfl (Or.inl rfl) (pe_df d__law_one (hr.mono (by decide)) pass0 (pa_cons (pv 0) (pa_cons (pv 1) pa_nil))))
 (pss_cons (ps_set (i := 3) sc__law_rings.nd rfl (Or.inl rfl) (pe_lst pa_nil))
 (pss_cons (ps_for PassesOwn.never rfl (pi_range1 (by rfl) T.n_range (pa_cons pe_int pa_nil)) (pg_name (i := 4) sc__law_rings.nd rfl (Or.inl rfl))
 (pss_cons (ps_set (i := 5) sc__law_rings.nd rfl (Or.inl rfl) (pe_callB (cr_sumT rfl) (by rfl) T.n_sum (by decide +kernel) (pa_cons (pe_slice sl_tupF (pv 2) po_none (po_some (pv 4))) pa_nil)))
 (pss_cons (ps_set (i := 6) sc__law_rings.nd rfl (Or.inl rfl) (pe_listRg rfl (by rfl) T.n_list (prg_1 (by rfl) T.n_range (pe_callB (cr_sumT rfl) (by rfl) T.n_sum (by decide +kernel) (pa_cons (pv 2) pa_nil)))))
 (pss_cons (ps_for PassesOwn.never rfl (pi_range1 (by rfl) T.n_range (pa_cons (pe_ix ix_tup (pv 2) (pv 4) (fun _ _ => rfl)) pa_nil)) (pg_name (i := 7) sc__law_rings.nd rfl (Or.inl rfl))
 (pss_one (ps_asg (pe_op op_add (pv 5) (pe_op op_modA (pe_op op_add (pv 7) pe_int) (pe_ix ix_tup (pv 2) (pv 4) (fun _ _ => rfl)))) (pg_sub (pv 6) (pe_op op_add (pv 5) (pv 7)) set_list))))
 (pss_one (ps_expr (pe_bm PySem.F.plainAttrs_list PySem.F.slot_list_append PySem.F.type_list_append mt_append (pv 3) (pa_cons (pe_callTy cr_tupOf (by rfl) T.n_tuple (by decide +kernel) (pa_cons (pv 6) pa_nil)) pa_nil))))))))
 (pss_cons (ps_if (pt_cmpR op_eq (pe_df d__law_draw (hr.mono (by decide)) pass0 (pa_cons (pv 0) (pa_cons pe_int pa_nil))) pe_int (nomark _)) (pss_one (ps_ret (pe_tup (pa_cons (pe_callB (cr_sumT rfl) (by rfl) T.n_sum (by decide +kernel) (pa_cons (pv 2) pa_nil)) (pa_cons (pv 3) pa_nil))))) pss_nil)
 (pss_cons (ps_set (i := 8) sc__law_rings.nd rfl (Or.inr rfl) (pe_callB (cr_sumT rfl) (by rfl) T.n_sum (by decide +kernel) (pa_cons (pv 2) pa_nil)))
 (pss_cons (ps_setLc (i := 3) (own := [("_law_one_here", 9)]) (g := gName 9) (tt := tYes) (te := (tOp (rCatT K) (tVar 9) (tTup (tCons (tVar 8) tNil)))) (by rfl) sc__law_rings.nd rfl rfl (sw_true rfl rfl rfl (by decide +kernel)) (pi_list (pv 3)) (blkOk_by (own := [("_law_one_here", 9)]) (N := N__law_rings) (sc := defScope s__law_rings) (by decide +kernel)) (fun _ _ _ _ _ => (pg_name (i := 9) sc__law_rings.nd rfl (Or.inl rfl))) (fun _ _ _ _ _ => pts_nil) (fun _ _ _ _ _ => (pe_op op_catT (pv 9) (pe_tup (pa_cons (pv 8) pa_nil)))))
 (pss_one (ps_ret (pe_tup (pa_cons (pe_op op_add (pv 8) pe_int) (pa_cons (pe_op op_cat (pv 3) (pe_lst (pa_cons (pe_op op_repU (pe_tup (pa_cons (pv 8) pa_nil)) (pe_op op_add (pv 8) pe_int)) pa_nil))) pa_nil)))))))))))), ?_⟩
    have e0 : Same H H := Same.refl _
    have h0 : ∀ T ∈ ([] : List Addr), Tri H T := fun T hT => nomatch hT
    repeat walk_at "rt"
    refine rd_kTri e0 h0 rfl fun p1 H1 e1 h1 => ?_
    repeat walk_at "rt"
    refine rd_kTri e1 h1 rfl fun p2 H2 e2 h2 => ?_
    clear e1 h1
    repeat walk_at "rt"
    refine rd_kTri e2 h2 rfl fun p3 H3 e3 h3 => ?_
    clear e2 h2
    repeat walk_at "rt"
    refine rd_kTri e3 h3 rfl fun p4 H4 e4 h4 => ?_
    clear e3 h3
    repeat walk_at "rt"
    refine rd_kTri e4 h4 rfl fun p5 H5 e5 h5 => ?_
    clear e4 h4
    repeat walk_at "rt"
    refine rd_kTri e5 h5 rfl fun p6 H6 e6 h6 => ?_
    clear e5 h5
    repeat walk_at "rt"
    refine rd_kTri e6 h6 rfl fun p7 H7 e7 h7 => ?_
    clear e6 h6
    repeat walk_at "rt"
    refine rd_kTri e7 h7 rfl fun p8 H8 e8 h8 => ?_
    clear e7 h7
    repeat walk_at "rt"
    refine rd_kTri e8 h8 rfl fun p9 H9 e9 h9 => ?_
    clear e8 h8
    repeat walk_at "rt"
    refine rd_kLst rfl fun sl hsl => ?_
    have s10 := Same.new (o := .lst [.ref p1, .ref p2, .ref p3, .ref p4, .ref p5, .ref p6, .ref p7, .ref p8, .ref p9]) hsl
    have l10 := upd_same (H := H9) (a := sl) (o := .lst [.ref p1, .ref p2, .ref p3, .ref p4, .ref p5, .ref p6, .ref p7, .ref p8, .ref p9])
    have h10 : ∀ x ∈ [V.ref p1, .ref p2, .ref p3, .ref p4, .ref p5, .ref p6, .ref p7, .ref p8, .ref p9], ∃ T, x = .ref T ∧ Tri (upd H9 sl (.lst [.ref p1, .ref p2, .ref p3, .ref p4, .ref p5, .ref p6, .ref p7, .ref p8, .ref p9])) T := fun x hx => by
      have go : ∀ T ∈ [p9, p8, p7, p6, p5, p4, p3, p2, p1], Tri (upd H9 sl (.lst [.ref p1, .ref p2, .ref p3, .ref p4, .ref p5, .ref p6, .ref p7, .ref p8, .ref p9])) T := fun T hT => by
        obtain ⟨x, y, u, q, r⟩ := h9 T hT
        exact ⟨x, y, u, s10 _ _ q, r⟩
      simp only [List.mem_cons, List.not_mem_nil, or_false] at hx
      rcases hx with rfl | rfl | rfl | rfl | rfl | rfl | rfl | rfl | rfl
      all_goals exact ⟨_, rfl, go _ (by simp)⟩
    have e10 := Same.trans e9 s10
    have nsl : sl ≠ p := hw.ne_new (Same.free e9 hsl)
    have w10 := hw.same e10
    generalize upd H9 sl (.lst [.ref p1, .ref p2, .ref p3, .ref p4, .ref p5, .ref p6, .ref p7, .ref p8, .ref p9]) = H10 at *
    repeat walk_at "rt"
    refine ⟨p, sl, _, N, rfl, w10, by omega, SqL.of l10, nsl, Nat.le_of_ble_eq_true rfl, Nat.le_of_ble_eq_true rfl, fun v H11 hv e11 w11 => ?_⟩
    obtain ⟨Tl, rfl, a, b, c, ht10, a1, b1, c1, abc⟩ := h10 v hv
    have ht11 := e11 _ _ (by
      intro z
      obtain ⟨x, y, u, q, _⟩ := id w10
      rw [z] at ht10
      rw [ht10] at q
      cases q) ht10
    have b11 : But p H H11 := (sbut e10).trans e11
    clear ht10 h10 h9 e9
    repeat walk_at "rt"
    refine rd_kLst rfl fun ml hml => ?_
    have s12 := Same.new (o := .lst []) hml
    have nml : ml ≠ p := w11.ne_new hml
    have mlH : H ml = none := b11.fresh w11 hml
    have ht12 := s12 _ _ ht11
    have l12 := upd_same (H := H11) (a := ml) (o := .lst [])
    have w12 := w11.same s12
    have b12 := b11.trans (sbut s12)
    generalize upd H11 ml (.lst []) = H12 at *
    have hst := SqT.of (K := K) ht12
    repeat walk_at "rt"
    have sum3 : [(a : Int), (b : Int), (c : Int)].sum = ((a + b + c : Nat) : Int) := by simp; omega
    refine rd_kRng1 (by decide) (by decide) (fun i σ H' => ∃ v4 v5 v6 v7 v8 v9 ts, σ = [some (.ref p), some (.ref sl), some (.ref Tl), some (.ref ml), v4, v5, v6, v7, v8, v9] ∧ But ml H12 H' ∧ H' ml = some (.lst (ts.map sv)) ∧ ts.length = i ∧ ∀ t ∈ ts, H' t.1 = some (.tup ((nz t.2).map V.int)) ∧ MapOk (a + b + c) t.2)
      ⟨_, _, _, _, _, _, [], rfl, But.refl, l12, rfl, fun t ht => nomatch ht⟩ ?_ ?_
    · rintro i σ H13 hi ⟨v4, v5, v6, v7, v8, v9, ts, rfl, b13, l13, hts, ht13⟩
      have hi3 : i < 3 := hi
      obtain ⟨f, g, hf, hg, g1, fg⟩ := tri_at a1 b1 c1 hi3
      obtain ⟨hc1, hc2⟩ := tri_cut (a := a) (b := b) (c := c) hi3
      have nTm : Tl ≠ ml := by
        intro z
        rw [z, l12] at ht12
        cases ht12
      have t13 := b13 _ _ nTm ht12
      have hsq := SqT.of (K := K) t13
      repeat walk_at "rt"
      rw [Int.zero_add]
      refine rd_slTF hsq hc2 fun q H14 hq e14 fr => ?_
      rw [hc1] at fr
      repeat walk_at "rt"
      refine rd_sumT fr.seq ?_
      rw [hf]
      have t14 := e14 _ _ t13
      have l14 := e14 _ _ l13
      have h14 : ∀ t ∈ ts, H14 t.1 = some (.tup ((nz t.2).map V.int)) ∧ MapOk (a + b + c) t.2 := fun t ht => ⟨e14 _ _ (ht13 t ht).1, (ht13 t ht).2⟩
      have b14 : But ml H12 H14 := b13.trans (sbut e14)
      clear hsq fr ht13
      have hsq := SqT.of (K := K) t14
      repeat walk_at "rt"
      refine rd_lstRg1 ?_
      repeat walk_at "rt"
      refine rd_sumT (ns := [(a : Int), b, c]) hsq ?_
      rw [sum3]
      repeat walk_at "rt"
      refine rd_kRgL (n := a + b + c) (by omega) fun pl hpl => ?_
      have s15 := Same.new (o := .lst ((nz (List.range (a + b + c))).map V.int)) hpl
      have p15 := upd_same (H := H14) (a := pl) (o := .lst ((nz (List.range (a + b + c))).map V.int))
      have t15 := s15 _ _ t14
      have l15 := s15 _ _ l14
      have h15 : ∀ t ∈ ts, _ := fun t ht => s15 _ _ (h14 t ht).1
      have b15 := b14.trans (sbut s15)
      have npl : pl ≠ ml := (ne_of_none l14 hpl).symm
      have nTp : Tl ≠ pl := ne_of_none t14 hpl
      have ntp : ∀ t ∈ ts, t.1 ≠ pl := fun t ht => ne_of_none (h14 t ht).1 hpl
      have pl12 : H12 pl = none ∨ pl = ml := by
        rcases Classical.em (pl = ml) with z | z
        · exact .inr z
        · refine .inl ?_
          cases q : H12 pl with
          | none => rfl
          | some o =>
            have := b14 _ _ z q
            rw [hpl] at this
            cases this
      generalize upd H14 pl (.lst ((nz (List.range (a + b + c))).map V.int)) = H15 at *
      have hsq := SqT.of (K := K) t15
      repeat walk_at "rt"
      refine rd_ixT hsq (atI_nat hg) ?_
      repeat walk_at "rt"
      refine rd_kRng1 (by omega) (by omega) (fun j σ H' => ∃ v7 ms, σ = [some (.ref p), some (.ref sl), some (.ref Tl), some (.ref ml), some (.int (i : Int)), some (.int (f : Int)), some (.ref pl), v7, v8, v9] ∧ But pl H15 H' ∧ H' pl = some (.lst ((nz ms).map V.int)) ∧ MapOk (a + b + c) ms)
        ⟨_, List.range (a + b + c), rfl, But.refl, p15, range_ok _⟩ ?_ ?_
      · rintro j σ H16 hj ⟨v7, ms, rfl, b16, p16, ok16⟩
        rw [Int.toNat_natCast] at hj
        have hsq := SqT.of (K := K) (b16 _ _ nTp t15)
        repeat walk_at "rt"
        refine rd_ixT hsq (atI_nat hg) ?_
        repeat walk_at "rt"
        have em : ∃ y : Nat, (f : Int) + (0 + (j : Int) + 1) % (g : Int) = (y : Int) ∧ y < a + b + c := by
          refine ⟨f + (j + 1) % g, ?_, by have := Nat.mod_lt (j + 1) (show 0 < g by omega); omega⟩
          rw [Int.zero_add]
          rfl
        obtain ⟨y, ey, hy⟩ := em
        rw [ey, show (f : Int) + (0 + (j : Int)) = ((f + j : Nat) : Int) by omega]
        have hlt : f + j < ms.length := by rw [ok16.1]; omega
        refine rd_setL p16 (ix_nat (by rw [nz_len]; exact hlt)) ?_
        rw [nz_set']
        exact ⟨_, ms.set (f + j) y, rfl, fun c' u n' q' => by rw [upd_ne n']; exact b16 c' u n' q', upd_same, ⟨by rw [List.length_set]; exact ok16.1, fun m hm => by
          rcases List.mem_or_eq_of_mem_set hm with z | z
          · exact ok16.2 m z
          · rw [z]; exact hy⟩⟩
      · rintro σ H16 ⟨v7, ms, rfl, b16, p16, ok16⟩
        have l16 := b16 _ _ npl.symm l15
        have h16 : ∀ t ∈ ts, H16 t.1 = some (.tup ((nz t.2).map V.int)) := fun t ht => b16 _ _ (ntp t ht) (h15 t ht)
        have b16' : But ml H12 H16 := fun c' o n' q' => by
          have q5 := b15 c' o n' q'
          refine b16 c' o (fun z => ?_) q5
          rcases pl12 with z2 | z2
          · rw [z, z2] at q'
            cases q'
          · exact npl z2
        repeat walk_at "rt"
        refine rd_tupOf (SqL.of p16) fun T1 hT1 => ?_
        have s17 := Same.new (o := .tup ((nz ms).map V.int)) hT1
        have t17 := upd_same (H := H16) (a := T1) (o := .tup ((nz ms).map V.int))
        have l17 := s17 _ _ l16
        have h17 : ∀ t ∈ ts, _ := fun t ht => s17 _ _ (h16 t ht)
        have b17 := b16'.trans (sbut s17)
        generalize upd H16 T1 (.tup ((nz ms).map V.int)) = H17 at *
        refine rd_kApp l17 (by rw [List.length_map]; omega) ?_
        have neT : ∀ {t : Addr} {xs : List V}, H17 t = some (.tup xs) → t ≠ ml := fun h z => by
          rw [z, l17] at h
          cases h
        refine ⟨_, _, _, _, _, _, ts ++ [(T1, ms)], rfl, fun c' u n' q' => by rw [upd_ne n']; exact b17 c' u n' q', by rw [List.map_append]; exact upd_same, by rw [List.length_append, List.length_singleton, hts], fun t ht => ?_⟩
        rcases List.mem_append.mp ht with z | z
        · exact ⟨by rw [upd_ne (neT (h17 t z))]; exact h17 t z, (h14 t z).2⟩
        · rw [List.mem_singleton.mp z]
          exact ⟨by rw [upd_ne (neT t17)]; exact t17, ok16⟩
    · rintro σ H13 ⟨v4, v5, v6, v7, v8, v9, ts, rfl, b13, l13, hts, ht13⟩
      have hts3 : ts.length = 3 := hts
      have w13 : WellAt H13 p (N + 1) := let ⟨x, y, z, e, r⟩ := w12; ⟨x, y, z, b13 _ _ nml.symm e, r⟩
      have nTm : Tl ≠ ml := by
        intro z
        rw [z, l12] at ht12
        cases ht12
      have t13 := b13 _ _ nTm ht12
      have neP : ∀ {t : Addr} {xs : List V}, H13 t = some (.tup xs) → t ≠ p := fun h z => by
        obtain ⟨x, y, u, e, _⟩ := id w13
        rw [z, e] at h
        cases h
      have bH13 : But p H H13 := fun c' u n' q' => b13 c' u (fun z => by rw [z, mlH] at q'; cases q') (b12 c' u n' q')
      repeat walk_at "rt"
      refine rd_ifS ?_
      repeat walk_at "rt"
      refine ⟨p, 2, _, rfl, w13, by omega, by decide, by decide, fun r H14 r0 r1 e14 w14 => ?_⟩
      have t14 := e14 _ _ (neP t13) t13
      have l14 := e14 _ _ nml l13
      have h14 : ∀ t ∈ ts, H14 t.1 = some (.tup ((nz t.2).map V.int)) := fun t ht => e14 _ _ (neP (ht13 t ht).1) (ht13 t ht).1
      have bH14 := bH13.trans e14
      have hsq := SqT.of (K := K) t14
      repeat walk_at "rt"
      refine ite_d (fun c0 => ?_) (fun c0 => ?_)
      · repeat walk_at "rt"
        refine rd_sumT (ns := [(a : Int), b, c]) hsq ?_
        rw [sum3]
        repeat walk_at "rt"
        refine rd_kTup rfl fun T0 hT0 => ?_
        have s15 := Same.new (o := .tup [.int ((a + b + c : Nat) : Int), .ref ml]) hT0
        refine k T0 ml (a + b + c) ts _ (bH14.trans (sbut s15)) (w14.same s15) upd_same ⟨s15 _ _ l14, fun t ht => s15 _ _ (h14 t ht)⟩ ⟨by omega, by omega, by rw [List.length_map]; omega, by rw [List.length_map]; omega, fun ms hms => ?_⟩
        obtain ⟨t, ht, rfl⟩ := List.mem_map.mp hms
        exact (ht13 t ht).2
      · repeat walk_at "rt"
        refine rd_sumT (ns := [(a : Int), b, c]) hsq ?_
        rw [sum3]
        repeat walk_at "rt"
        refine rd_kLc (fun i acc D H' => ∃ us : List SRow, acc = us.map sv ∧ us.length = i ∧ Same H14 H' ∧ ∀ u ∈ us, H' u.1 = some (.tup ((nz u.2).map V.int)) ∧ MapOk (a + b + c + 1) u.2) (SqL.of l14) (fun D hD => ⟨[], rfl, rfl, Same.new hD, fun u hu => nomatch hu⟩) (fun i acc D H' ⟨_, _, _, e, _⟩ => SqL.of (e _ _ l14)) ?_ (g_mono _ _) ?_
        · rintro i x acc D H' hD hi hxi hacc hlen ⟨us, rfl, hus, eD, hE⟩
          obtain ⟨t, htt, rfl⟩ := srow_at hxi
          have htm := List.mem_of_getElem? htt
          have okt := (ht13 t htm).2
          have hq1 := SqT.of (K := K) (eD _ _ (h14 t htm))
          repeat walk_at "rt"
          refine ⟨rfl, ?_⟩
          repeat walk_at "rt"
          refine rd_kTup rfl fun q hq => ?_
          have sq := Same.new (o := .tup [.int ((a + b + c : Nat) : Int)]) hq
          have hq2 := upd_same (H := H') (a := q) (o := .tup [.int ((a + b + c : Nat) : Int)])
          have hq1' := SqT.of (K := K) (sq _ _ (eD _ _ (h14 t htm)))
          have hacc1 := sq _ _ hacc
          have eD1 := Same.trans eD sq
          have hE1 : ∀ u ∈ us, _ := fun u hu => sq _ _ (hE u hu).1
          generalize upd H' q (.tup [.int ((a + b + c : Nat) : Int)]) = H15 at *
          refine ⟨t.1, q, _, _, rfl, rfl, hq1', SqT.of hq2, (by
            intro z
            have := congrArg List.length z
            rw [nz_len, okt.1] at this
            simp at this
            omega), (by
            rw [nz_len, okt.1, List.length_singleton]
            exact Nat.le_trans (show a + b + c + 1 ≤ 32 by omega) (by decide)), (fun z => nomatch z), fun _ T2 hT2 => ?_⟩
          rw [nz_snoc]
          have s2 := Same.new (o := .tup ((nz (t.2 ++ [a + b + c])).map V.int)) hT2
          have h2 := upd_same (H := H15) (a := T2) (o := .tup ((nz (t.2 ++ [a + b + c])).map V.int))
          have hacc2 := s2 _ _ hacc1
          have eD2 := Same.trans eD1 s2
          have hE2 : ∀ u ∈ us, _ := fun u hu => s2 _ _ (hE1 u hu)
          generalize upd H15 T2 (.tup ((nz (t.2 ++ [a + b + c])).map V.int)) = H16 at *
          have neD : ∀ {u : Addr} {xs : List V}, H16 u = some (.tup xs) → u ≠ D := fun h z => by
            rw [z, hacc2] at h
            cases h
          have hDH : H14 D = none := hD
          refine rd_lcEnd hacc2 hlen (by rw [List.length_map] at hi; omega) ⟨us ++ [(T2, t.2 ++ [a + b + c])], by rw [List.map_append]; rfl, by rw [List.length_append, List.length_singleton, hus], same_upd eD2 hDH, fun u hu => ?_⟩
          rcases List.mem_append.mp hu with z | z
          · exact ⟨by rw [upd_ne (neD (hE2 u z))]; exact hE2 u z, (hE u z).2⟩
          · rw [List.mem_singleton.mp z]
            refine ⟨by rw [upd_ne (neD h2)]; exact h2, by rw [List.length_append, List.length_singleton, okt.1], fun m hm => ?_⟩
            rcases List.mem_append.mp hm with y | y
            · exact Nat.lt_succ_of_lt (okt.2 m y)
            · rw [List.mem_singleton.mp y]
              exact Nat.lt_succ_self _
        · rintro acc D H15 hD hlen hacc ⟨us, rfl, hus, e15, hE⟩
          rw [List.length_map, hts3] at hus
          repeat walk_at "rt"
          have w15 := w14.same e15
          have bH15 := bH14.trans (sbut e15)
          have hE' : ∀ u ∈ us, H15 u.1 = some (.tup ((nz u.2).map V.int)) := fun u hu => (hE u hu).1
          refine rd_kTup rfl fun q hq => ?_
          have sq := Same.new (o := .tup [.int ((a + b + c : Nat) : Int)]) hq
          have hq2 := upd_same (H := H15) (a := q) (o := .tup [.int ((a + b + c : Nat) : Int)])
          have hacc1 := sq _ _ hacc
          have hE1 : ∀ u ∈ us, _ := fun u hu => sq _ _ (hE' u hu)
          have w16 := w15.same sq
          have bH16 := bH15.trans (sbut sq)
          generalize upd H15 q (.tup [.int ((a + b + c : Nat) : Int)]) = H16 at *
          repeat walk_at "rt"
          rw [show ((a + b + c : Nat) : Int) + 1 = ((a + b + c + 1 : Nat) : Int) by omega]
          refine rd_repU hq2 (by omega) (by omega) fun T2 H17 hT2 s2 h2 => ?_
          have hacc2 := s2 _ _ hacc1
          have hE2 : ∀ u ∈ us, _ := fun u hu => s2 _ _ (hE1 u hu)
          have w17 := w16.same s2
          have bH17 := bH16.trans (sbut s2)
          repeat walk_at "rt"
          refine rd_kLst rfl fun l2 hl2 => ?_
          have s3 := Same.new (o := .lst [.ref T2]) hl2
          have l3 := upd_same (H := H17) (a := l2) (o := .lst [.ref T2])
          have hacc3 := s3 _ _ hacc2
          have hE3 : ∀ u ∈ us, _ := fun u hu => s3 _ _ (hE2 u hu)
          have h3 := s3 _ _ h2
          have w18 := w17.same s3
          have bH18 := bH17.trans (sbut s3)
          generalize upd H17 l2 (.lst [.ref T2]) = H18 at *
          refine rd_cat hacc3 l3 (by rw [List.length_map, List.length_singleton]; omega) fun l4 hl4 => ?_
          have s4 := Same.new (o := .lst (us.map sv ++ [.ref T2])) hl4
          have l5 := upd_same (H := H18) (a := l4) (o := .lst (us.map sv ++ [.ref T2]))
          have hE4 : ∀ u ∈ us, _ := fun u hu => s4 _ _ (hE3 u hu)
          have h4 := s4 _ _ h3
          have w19 := w18.same s4
          have bH19 := bH18.trans (sbut s4)
          generalize upd H18 l4 (.lst (us.map sv ++ [.ref T2])) = H19 at *
          repeat walk_at "rt"
          refine rd_kTup rfl fun T0 hT0 => ?_
          have s5 := Same.new (o := .tup [.int ((a + b + c + 1 : Nat) : Int), .ref l4]) hT0
          refine k T0 l4 (a + b + c + 1) (us ++ [(T2, List.replicate (a + b + c + 1) (a + b + c))]) _ (bH19.trans (sbut s5)) (w19.same s5) upd_same ⟨by rw [List.map_append]; exact s5 _ _ l5, fun u hu => ?_⟩ ⟨by omega, by omega, by rw [List.length_map, List.length_append, List.length_singleton]; omega, by rw [List.length_map, List.length_append, List.length_singleton]; omega, fun ms hms => ?_⟩
          · rcases List.mem_append.mp hu with z | z
            · exact s5 _ _ (hE4 u z)
            · rw [List.mem_singleton.mp z]
              exact s5 _ _ h4
          · obtain ⟨u, hu, rfl⟩ := List.mem_map.mp hms
            rcases List.mem_append.mp hu with z | z
            · exact (hE u z).2
            · rw [List.mem_singleton.mp z]
              exact ⟨List.length_replicate, fun m hm => by rw [List.eq_of_mem_replicate hm]; omega⟩
theorem sh_sets (pss : List (List Nat)) : Sh (setsD pss) 2 := .lst fun d hd => by
  obtain ⟨ps, _, rfl⟩ := List.mem_map.mp hd
  exact .set ps
/-- the places and the maps of turns, beside those that were drawn -/
theorem rd_sameMaps {H : Hp} {Q : VK} {t1 t2 r l : Addr} {n : Nat} {ts : List SRow} (h1 : H t1 = some (.tup [.int (n : Int), .ref r])) (h2 : H t2 = some (.tup [.int (n : Int), .ref l])) (hr : SetsAt H r ts) (hl : SetsAt H l ts) (q : Q (.bl false) H) : rNeD K (.ref t1) (.ref t2) H Q := by
  have d1 : Dp K H (.ref t1) (.tuple [.int (n : Int), setsD (ts.map Prod.snd)]) := .tup (SqT.of h1) (.cons (.int _) (.cons (dp_sets hr) .nil))
  have d2 : Dp K H (.ref t2) (.tuple [.int (n : Int), setsD (ts.map Prod.snd)]) := .tup (SqT.of h2) (.cons (.int _) (.cons (dp_sets hl) .nil))
  refine rd_neSh d1 d2 (n := 3) (.tup fun d hd => ?_) (by decide) q
  simp only [List.mem_cons, List.not_mem_nil, or_false] at hd
  rcases hd with rfl | rfl
  · exact .int _
  · exact sh_sets _
theorem setsD_ne {a b : List (List Nat)} {H : Hp} {Q : VK} {x y : V} (hx : Dp K H x (setsD a)) (hy : Dp K H y (setsD b)) (e : a = b) (q : Q (.bl false) H) : rNeD K x y H Q := by
  subst e
  exact rd_neSh hx hy (n := 2) (sh_sets _) (by decide) q
abbrev N_law : List Str := ["_law_script", "_law_cell", "_law_well_here", "_law_way", "_law_few", "_law_many", "_law_maps", "_law_due", "_law_turns_here", "_law_turn", "_law_word", "_law_told", "_law_one_here"]
theorem sc_law : FnScope ["_law_script", "_law_cell", "_law_well_here", "_law_way", "_law_few", "_law_many", "_law_maps", "_law_due", "_law_turns_here", "_law_turn", "_law_word", "_law_told", "_law_one_here"] ["_law_script"] (defScope s_law) := ⟨rfl, rfl, rfl, by decide +kernel, rfl, by decide +kernel, by decide +kernel⟩
theorem ok_law {f C_Turns C_TooMany : Addr} {t1 t2 : Tok} {fd : FuncData} (F : Fun K "law" "law" s_law f fd) (T : TUM K mg C_Turns t1 t2 C_TooMany) (m_Turns : Md P w K mg base CX0 5 C_Turns ["self", "many", "maps"] [] (spTurnsInit C_Turns))
    (d__law_said : Df P w K mg base CX0 5 "_law_said" ["_law_turns_here"] (spSaid25 C_Turns)) (d__law_found : Df P w K mg base CX0 1 "_law_found" ["_law_many", "_law_maps"] spFoundL)
    (d__law_round : Df P w K mg base CX0 2 "_law_round" ["_law_well_here", "_law_many"] spRound) (d__law_rings : Df P w K mg base CX0 3 "_law_rings" ["_law_well_here"] spRings)
    (d__law_well : Df P w K mg base CX0 1 "_law_well" ["_law_cell"] spWell) (d__law_draw : Df P w K mg base CX0 1 "_law_draw" ["_law_well_here", "_law_many"] spDraw) (d__law_turns : Df P w K mg base CX0 3 "_law_turns" ["_law_well_here", "_law_places", "_law_signs"] spTurnsD) :
    FnOk P w K mg base CX0 7 f fd ["_law_script"] (spLaw K) := by
  refine F.ok sc_law (fun vs H Q E h => ?_) (fun cdv A outer s H vs Q E hr h => ?_)
  · obtain ⟨a, ns, rfl, _⟩ := h
    rfl
  · obtain ⟨a, ns, rfl, hS, hlen, k⟩ := h
    refine ⟨_, (pss_cons (ps_for PassesOwn.never rfl (pi_list (pe_op op_cat (pe_slice sl_list (pv 0) po_none (po_some pe_int)) (pe_lst (pa_cons pe_int (pa_cons pe_int pa_nil))))) (pg_name (i := 1) sc_law.nd rfl (Or.inl rfl))
 (pss_cons (ps_set (i := 2) sc_law.nd rfl (Or.inl rfl) (pe_df d__law_well (hr.mono (by decide)) pass0 (pa_cons (pv 1) pa_nil)))
 (pss_cons (ps_set (i := 3) sc_law.nd rfl (Or.inl rfl) (pe_df d__law_draw (hr.mono (by decide)) pass0 (pa_cons (pv 2) (pa_cons pe_int pa_nil))))
 (pss_cons (ps_set (i := 4) sc_law.nd rfl (Or.inl rfl) (pe_df d__law_draw (hr.mono (by decide)) pass0 (pa_cons (pv 2) (pa_cons pe_int pa_nil))))
 (pss_cons (ps_asg (pe_df d__law_turns (hr.mono (by decide)) pass0 (pa_cons (pv 2) (pa_cons (pe_ix ix_list (pe_lst (pa_cons pe_int (pa_cons pe_int pa_nil))) (pv 4) (fun _ _ => rfl)) (pa_cons (pe_ix ix_list (pe_lst (pa_cons pe_int (pa_cons pe_int pa_nil))) (pv 4) (fun _ _ => rfl)) pa_nil)))) (pg_tup (by rfl) (pgs_cons (pg_name (i := 5) sc_law.nd rfl (Or.inl rfl)) (pgs_cons (pg_name (i := 6) sc_law.nd rfl (Or.inl rfl)) pgs_nil))))
 (pss_cons (ps_if (pt_cmpR op_lt (pv 3) pe_int (nomark _)) (pss_one (ps_asg (pe_df d__law_round (hr.mono (by decide)) pass0 (pa_cons (pv 2) (pa_cons (pe_op op_add pe_int (pe_df d__law_draw (hr.mono (by decide)) pass0 (pa_cons (pv 2) (pa_cons pe_int pa_nil)))) pa_nil))) (pg_tup (by rfl) (pgs_cons (pg_name (i := 5) sc_law.nd rfl (Or.inl rfl)) (pgs_cons (pg_name (i := 6) sc_law.nd rfl (Or.inl rfl)) pgs_nil))))) pss_nil)
 (pss_cons (ps_if (pt_cmpR op_eq (pv 3) pe_int (nomark _)) (pss_one (ps_asg (pe_df d__law_rings (hr.mono (by decide)) pass0 (pa_cons (pv 2) pa_nil)) (pg_tup (by rfl) (pgs_cons (pg_name (i := 5) sc_law.nd rfl (Or.inl rfl)) (pgs_cons (pg_name (i := 6) sc_law.nd rfl (Or.inl rfl)) pgs_nil))))) pss_nil)
 (pss_cons (ps_set (i := 7) sc_law.nd rfl (Or.inl rfl) (pe_df d__law_found (hr.mono (by decide)) pass0 (pa_cons (pv 5) (pa_cons (pv 6) pa_nil))))
 (pss_cons (ps_set (i := 8) sc_law.nd rfl (Or.inl rfl) (pe_mkd m_Turns (hr.mono (by decide)) T.g_Turns pass0 (pa_cons (pv 5) (pa_cons (pe_callTy cr_listOf (by rfl) T.n_list (by decide +kernel) (pa_cons (pv 6) pa_nil)) pa_nil))))
 (pss_one (ps_for PassesOwn.never rfl (pi_range1 (by rfl) T.n_range (pa_cons pe_int pa_nil)) (pg_name (i := 9) sc_law.nd rfl (Or.inl rfl))
 (pss_cons (ps_asg (pe_df d__law_said (hr.mono (by decide)) pass0 (pa_cons (pv 8) pa_nil)) (pg_tup (by rfl) (pgs_cons (pg_name (i := 10) sc_law.nd rfl (Or.inl rfl)) (pgs_cons (pg_name (i := 11) sc_law.nd rfl (Or.inl rfl)) pgs_nil))))
 (pss_one (ps_if (pt_cmpR op_isN (pv 7) pe_non (nomark _)) (pss_one (ps_if (pt_cmpR op_ne (pv 10) pe_str (nomark _)) (pss_one (ps_ret pe_bl)) pss_nil)) (pss_cons (ps_if (PW.pt (pw_or (pt_cmpR op_ne (pv 10) pe_str (nomark _)) (pw_or (pt_not (pt_val (pe_callB call_isi (by rfl) T.n_isinstance (by decide +kernel) (pa_cons (pv 11) (pa_cons (pe_bltn (v := .ty "list") (by rfl) T.n_list (by decide +kernel) rfl) pa_nil))))) (pw_or1 (pt_cmpR (op_neD hr.units) (pv 11) (pv 7) (nomark _)))))) (pss_one (ps_ret pe_bl)) pss_nil)
 (pss_cons (ps_if (pt_not (pt_val (pe_callB (cr_all rfl) (by rfl) T.n_all (by decide +kernel) (pa_cons (pe_lc (own := [("_law_one_here", 12)]) (g := gName 12) (tt := tYes) (te := (tCB (rIsi K) (tCons (tVar 12) (tCons (tC (V.ty "tuple")) tNil)))) (by rfl) sc_law.nd (pi_list (pv 11)) (blkOk_by (own := [("_law_one_here", 12)]) (N := N_law) (sc := defScope s_law) (by decide +kernel)) (fun _ _ _ _ _ => (pg_name (i := 12) sc_law.nd rfl (Or.inl rfl))) (fun _ _ _ _ _ => pts_nil) (fun _ _ _ _ _ => (pe_callB call_isi (by rfl) T.n_isinstance (by decide +kernel) (pa_cons (pv 12) (pa_cons (pe_bltn (v := .ty "tuple") (by rfl) T.n_tuple (by decide +kernel) rfl) pa_nil))))) pa_nil)))) (pss_one (ps_ret pe_bl)) pss_nil)
 (pss_cons (ps_expr (pe_bm PySem.F.plainAttrs_list PySem.F.slot_list_append PySem.F.type_list_append mt_append (pv 11) (pa_cons pe_non pa_nil)))
 (pss_one (ps_expr (pe_bm0 PySem.F.plainAttrs_list PySem.F.slot_list_reverse PySem.F.type_list_reverse mt_reverse (pv 11)))))))))))))))))))))
 (pss_one (ps_ret pe_bl))), ?_⟩
    repeat walk_at "rt"
    refine rd_slL hS fun l1 hl1 => ?_
    repeat walk_at "rt"
    refine rd_kLst rfl fun l2 hl2 => ?_
    have n12 : l1 ≠ l2 := ne_of_none upd_same hl2
    have hc : (cutV (ns.map V.int) none (some 8)).length ≤ 63 := Nat.le_trans (cutV_length _ _ _) (by rw [List.length_map]; exact hlen)
    refine rd_cat (by rw [upd_ne n12]; exact upd_same) upd_same (Nat.le_trans (Nat.add_le_add_right hc 2) (by decide)) fun l3 hl3 => ?_
    repeat walk_at "rt"
    refine rd_kFor (xs := cutV (ns.map V.int) none (some 8) ++ [.int 0, .int 1]) (fun i σ H' => ∃ v1 v2 v3 v4 v5 v6 v7 v8 v9 v10 v11 v12, σ = [some (.ref a), v1, v2, v3, v4, v5, v6, v7, v8, v9, v10, v11, v12] ∧ H' l3 = some (.lst (cutV (ns.map V.int) none (some 8) ++ [.int 0, .int 1])))
      (SqL.of upd_same) ⟨_, _, _, _, _, _, _, _, _, _, _, _, rfl, upd_same⟩ (fun i σ H' _ ⟨_, _, _, _, _, _, _, _, _, _, _, _, _, h⟩ => SqL.of h) ?_ ?_
    · rintro i x σ H' hi ⟨v1, v2, v3, v4, v5, v6, v7, v8, v9, v10, v11, v12, rfl, hL⟩
      obtain ⟨z, rfl⟩ := cells_int hi
      clear hi
      generalize cutV (ns.map V.int) none (some 8) ++ [V.int 0, V.int 1] = cells at hL
      repeat walk_at "rt"
      refine ⟨z, rfl, fun p H1 hp e1 w1 => ?_⟩
      have np : l3 ≠ p := ne_of_none hL hp
      replace hL := e1 _ _ hL
      clear e1 hp
      repeat walk_at "rt"
      refine ⟨p, 8, _, rfl, w1, by decide, by decide, by decide, fun way H2 q0 q1 e2 w2 => ?_⟩
      replace hL := e2 _ _ np hL
      clear e2 w1
      repeat walk_at "rt"
      refine ⟨p, 2, _, rfl, w2, by decide, by decide, by decide, fun few H3 r0 r1 e3 w3 => ?_⟩
      obtain ⟨few, rfl⟩ : ∃ j : Nat, few = (j : Int) := ⟨few.toNat, by omega⟩
      replace hL := e3 _ _ np hL
      clear e3 w2
      repeat walk_at "rt"
      refine rd_kLst rfl fun k1 hk1 => ?_
      have s1 := Same.new (o := .lst [.int 3, .int 6]) hk1
      have h1 := SqL.of (K := K) (upd_same (H := H3) (a := k1) (o := .lst [.int 3, .int 6]))
      replace hL := s1 _ _ hL
      replace w3 := w3.same s1
      generalize upd H3 k1 (.lst [.int 3, .int 6]) = H4 at *
      clear s1
      have ep : ∃ P0 : Nat, [V.int 3, V.int 6][few]? = some (.int (P0 : Int)) ∧ 1 ≤ P0 ∧ P0 ≤ 6 := by
        have h : few = 0 ∨ few = 1 := by omega
        rcases h with rfl | rfl
        · exact ⟨3, rfl, by decide, by decide⟩
        · exact ⟨6, rfl, by decide, by decide⟩
      obtain ⟨P0, hP0, p1, p2⟩ := ep
      have es : ∃ S0 : Nat, [V.int 4, V.int 2][few]? = some (.int (S0 : Int)) ∧ 1 ≤ S0 ∧ S0 ≤ 4 := by
        have h : few = 0 ∨ few = 1 := by omega
        rcases h with rfl | rfl
        · exact ⟨4, rfl, by decide, by decide⟩
        · exact ⟨2, rfl, by decide, by decide⟩
      obtain ⟨S0, hS0, s1, s2⟩ := es
      repeat walk_at "rt"
      refine rd_ixL h1 (atI_nat hP0) ?_
      repeat walk_at "rt"
      refine rd_kLst rfl fun k2 hk2 => ?_
      have s3 := Same.new (o := .lst [.int 4, .int 2]) hk2
      have h2 := SqL.of (K := K) (upd_same (H := H4) (a := k2) (o := .lst [.int 4, .int 2]))
      replace hL := s3 _ _ hL
      replace w3 := w3.same s3
      generalize upd H4 k2 (.lst [.int 4, .int 2]) = H5 at *
      clear s3 h1
      repeat walk_at "rt"
      refine rd_ixL h2 (atI_nat hS0) ?_
      repeat walk_at "rt"
      refine ⟨p, _, _, _, rfl, w3, by decide, by omega, by omega, by omega, by omega, fun T0 l n ts H9 b9 w9 hT0 hR hok _ _ _ _ _ _ => ?_⟩
      replace hL := b9 _ _ np hL
      have st0 := SqT.of (K := K) hT0
      clear b9 w3 h2 hT0
      repeat walk_at "rt"
      refine rd_ifS ?_
      repeat walk_at "rt"
      refine ite_d (fun cA => ?gA) (fun cA => ?gB)
      case' gA =>
        repeat walk_at "rt"
        refine ⟨p, 32, _, rfl, w9, by omega, by decide, by decide, fun r H10 r0' r1' e10 w10 => ?_⟩
        obtain ⟨m, em⟩ : ∃ m : Nat, 1 + r = (m : Int) := ⟨(1 + r).toNat, by omega⟩
        replace hL := e10 _ _ np hL
        repeat walk_at "rt"
        rw [em]
        refine ⟨p, m, _, rfl, w10, by omega, by omega, by omega, fun T1 l' ts' H11 b11 w11 hT1 hR' hok' => ?_⟩
        replace hL := b11 _ _ np hL
        have st1 := SqT.of (K := K) hT1
        clear hR hok st0 e10 w10 b11 hT1 w9
        repeat walk_at "rt"
        refine rd_ifS ?_
        repeat walk_at "rt"
        refine ite_d (fun cB => (by omega : False).elim) (fun cB => ?gC)
        repeat walk_at "rt"
      case' gB =>
        repeat walk_at "rt"
        refine rd_ifS ?_
        repeat walk_at "rt"
        refine ite_d (fun cB => ?gD) (fun cB => ?gE)
        case' gD =>
          repeat walk_at "rt"
          refine ⟨p, _, rfl, w9, by omega, fun T1 l' m ts' H11 b11 w11 hT1 hR' hok' => ?_⟩
          replace hL := b11 _ _ np hL
          have st1 := SqT.of (K := K) hT1
          clear hR hok st0 b11 hT1 w9
          repeat walk_at "rt"
        case' gE =>
          obtain ⟨H11, rfl⟩ : ∃ x, x = H9 := ⟨_, rfl⟩
          obtain ⟨l', rfl⟩ : ∃ x, x = l := ⟨_, rfl⟩
          obtain ⟨m, rfl⟩ : ∃ x, x = n := ⟨_, rfl⟩
          obtain ⟨ts', rfl⟩ : ∃ x, x = ts := ⟨_, rfl⟩
          have hR' := hR
          have hok' := hok
          clear hR hok st0 w9
          repeat walk_at "rt"
      all_goals
        refine ⟨l', m, ts', rfl, hR', hok', fun fs gs fp H12 hg hfp e12 hG hgs => ?_, fun hg H12 e12 => ?_⟩
        · replace hL := e12 _ _ hL
          replace hR' := hR'.same e12
          clear e12
          repeat walk_at "rt"
          refine rd_listOf (SqL.of hR'.1) fun lc hlc => ?_
          have sc := Same.new (o := .lst (ts'.map sv)) hlc
          have hRc : SetsAt (upd H12 lc (.lst (ts'.map sv))) lc ts' := ⟨upd_same, fun t ht => sc _ _ (hR'.2 t ht)⟩
          replace hL := sc _ _ hL
          replace hG := hG.same sc
          generalize upd H12 lc (.lst (ts'.map sv)) = H13 at *
          clear sc hR'
          repeat walk_at "rt"
          refine rd_turns hRc hok' fun W r H14 hW e14 hTW hr14 => ?_
          replace hL := e14 _ _ hL
          replace hG := hG.same e14
          clear hRc e14
          repeat walk_at "rt"
          refine rd_kRng1 (by decide) (by decide) (fun j σ H' => ∃ v9 v10 v11 v12, σ = [some (.ref a), some (.int z), some (.ref p), some (.int way), some (.int (few : Int)), some (.int (m : Int)), some (.ref l'), some (.ref fp), some (.ref W), v9, v10, v11, v12] ∧ Same H14 H') ⟨_, _, _, _, rfl, Same.refl _⟩ ?_ ?_
          · rintro j σ H15 hj ⟨v9, v10, v11, v12, rfl, e15⟩
            repeat walk_at "rs"
            refine ⟨W, r, m, ts', rfl, hTW.same e15, hok', fun fs' gs' q T1 H16 hg' hq e16 hG' hgs' hT1 => ?_, fun hg' => (nomatch foundW_one hg hg')⟩
            have hfs := Option.some.inj (foundW_one hg hg')
            have gl : gs'.length ≤ 300 := by
              obtain ⟨k0, _, h2, h3⟩ := hg'
              have e := congrArg List.length hgs'
              rw [List.length_map, List.length_map] at e
              rw [e, h3]
              exact h2
            have hqH : H14 q = none := Same.free e15 hq
            have st1 := SqT.of (K := K) hT1
            repeat walk_at "rs"
            refine ⟨rfl, ?_⟩
            repeat walk_at "rs"
            refine iteF ?_
            repeat walk_at "rs"
            refine rd_neText ?_
            repeat walk_at "rs"
            refine iteF ?_
            repeat walk_at "rs"
            refine rd_isi (b := true) (ClsV.ty _) (.base (.lst hG'.1)) (kit_same (by rfl)) ?_
            repeat walk_at "rs"
            refine iteF ?_
            repeat walk_at "rs"
            refine setsD_ne (dp_setsF hG') (dp_setsF (hG.same (e15.trans e16))) (by rw [hgs', hgs, hfs]) ?_
            repeat walk_at "rs"
            refine iteF ?_
            repeat walk_at "rs"
            refine rd_kLc (fun i acc D H' => Same H16 H' ∧ acc = (List.replicate i true).map V.bl) (SqL.of hG'.1) (fun D hD => ⟨Same.new hD, rfl⟩) (fun i acc D H' ⟨e, _⟩ => SqL.of (e _ _ hG'.1)) ?_ (g_mono _ _) ?_
            · rintro i x acc D H17 hD hi hxi hacc hlen' ⟨e17, rfl⟩
              obtain ⟨t, htt, rfl⟩ := srow_at hxi
              obtain ⟨ot, hot, _, _⟩ := (hG'.2 t (List.mem_of_getElem? htt)).same e17
              repeat walk_at "rs"
              refine ⟨rfl, ?_⟩
              repeat walk_at "rs"
              refine rd_isi (b := true) (ClsV.ty _) (.fTuple hot) (kit_same (by rfl)) ?_
              exact rd_lcEnd hacc hlen' (by rw [List.length_map] at hi; omega) ⟨same_upd e17 hD, by rw [List.replicate_succ', List.map_append]; rfl⟩
            · rintro acc D H17 hD hlen' hacc ⟨e17, rfl⟩
              repeat walk_at "rs"
              refine rd_all (SqL.of hacc) ?_
              rw [show (List.replicate (gs'.map sv).length true).all id = true by simp]
              have hq17 := e17 _ _ hG'.1
              repeat walk_at "rs"
              refine iteF ?_
              repeat walk_at "rs"
              refine rd_kApp hq17 (by rw [List.length_map]; omega) ?_
              have e18 : Same H14 (upd H17 q (.lst (gs'.map sv ++ [.non]))) := same_upd ((e15.trans e16).trans e17) hqH
              have q18 := upd_same (H := H17) (a := q) (o := .lst (gs'.map sv ++ [.non]))
              generalize upd H17 q (.lst (gs'.map sv ++ [.non])) = H18 at *
              with_reducible dsimp only
              repeat walk_at "rs"
              refine ⟨_, rfl, .inl ⟨rfl, _, SqL.of q18⟩, _, _, rfl, rfl, q18, ?_⟩
              exact ⟨_, _, _, _, rfl, same_upd e18 hqH⟩
          · rintro σ H15 ⟨v9, v10, v11, v12, rfl, e15⟩
            repeat walk_at "rt"
            exact ⟨_, _, _, _, _, _, _, _, _, _, _, _, rfl, e15 _ _ hL⟩
        · replace hL := e12 _ _ hL
          replace hR' := hR'.same e12
          clear e12
          repeat walk_at "rt"
          refine rd_listOf (SqL.of hR'.1) fun lc hlc => ?_
          have sc := Same.new (o := .lst (ts'.map sv)) hlc
          have hRc : SetsAt (upd H12 lc (.lst (ts'.map sv))) lc ts' := ⟨upd_same, fun t ht => sc _ _ (hR'.2 t ht)⟩
          replace hL := sc _ _ hL
          skip
          generalize upd H12 lc (.lst (ts'.map sv)) = H13 at *
          clear sc hR'
          repeat walk_at "rt"
          refine rd_turns hRc hok' fun W r H14 hW e14 hTW hr14 => ?_
          replace hL := e14 _ _ hL
          skip
          clear hRc e14
          repeat walk_at "rt"
          refine rd_kRng1 (by decide) (by decide) (fun j σ H' => ∃ v9 v10 v11 v12, σ = [some (.ref a), some (.int z), some (.ref p), some (.int way), some (.int (few : Int)), some (.int (m : Int)), some (.ref l'), some .non, some (.ref W), v9, v10, v11, v12] ∧ Same H14 H') ⟨_, _, _, _, rfl, Same.refl _⟩ ?_ ?_
          · rintro j σ H15 hj ⟨v9, v10, v11, v12, rfl, e15⟩
            repeat walk_at "rs"
            refine ⟨W, r, m, ts', rfl, hTW.same e15, hok', fun fs' gs' q T1 H16 hg' => (nomatch foundW_one hg hg'), fun hg' T1 H16 e16 hT1 => ?_⟩
            have st1 := SqT.of (K := K) hT1
            repeat walk_at "rs"
            refine ⟨rfl, ?_⟩
            repeat walk_at "rs"
            refine iteT ?_
            repeat walk_at "rs"
            refine rd_neText ?_
            repeat walk_at "rs"
            refine iteF ?_
            repeat walk_at "rs"
            exact ⟨_, _, _, _, rfl, e15.trans e16⟩
          · rintro σ H15 ⟨v9, v10, v11, v12, rfl, e15⟩
            repeat walk_at "rt"
            exact ⟨_, _, _, _, _, _, _, _, _, _, _, _, rfl, e15 _ _ hL⟩
    · rintro σ H' ⟨v1, v2, v3, v4, v5, v6, v7, v8, v9, v10, v11, v12, rfl, hL⟩
      repeat walk_at "rt"
      exact k H'
end
theorem all_mk {P : Program} {w : World} {K : PySem.W.Frag} {h : Heap} {mg : Str → Option Value} {fa : Addr} (X : K.In h) (G : h.Ns mainGlobals mg) (hfa : mg "law" = some (.ref fa))
    {C_Turns C_TooMany : Addr} {t1 t2 t3 : Tok} {f_is_whole : Addr} {oc_is_whole kV_is_whole dc_is_whole pm_is_whole cd_is_whole ct_is_whole : Value} {od_is_whole an_is_whole : Option Addr} {sl_is_whole : Array (Option Value)} {f_is_whole_within : Addr} {oc_is_whole_within kV_is_whole_within dc_is_whole_within pm_is_whole_within cd_is_whole_within ct_is_whole_within : Value} {od_is_whole_within an_is_whole_within : Option Addr} {sl_is_whole_within : Array (Option Value)} {f__is_map : Addr} {oc__is_map kV__is_map dc__is_map pm__is_map cd__is_map ct__is_map : Value} {od__is_map an__is_map : Option Addr} {sl__is_map : Array (Option Value)} {f__are_maps : Addr} {oc__are_maps kV__are_maps dc__are_maps pm__are_maps cd__are_maps ct__are_maps : Value} {od__are_maps an__are_maps : Option Addr} {sl__are_maps : Array (Option Value)} {f_Turns___init__ : Addr} {oc_Turns___init__ kV_Turns___init__ dc_Turns___init__ pm_Turns___init__ cd_Turns___init__ ct_Turns___init__ : Value} {od_Turns___init__ an_Turns___init__ : Option Addr} {sl_Turns___init__ : Array (Option Value)} {f_Turns___len__ : Addr} {oc_Turns___len__ kV_Turns___len__ dc_Turns___len__ pm_Turns___len__ cd_Turns___len__ ct_Turns___len__ : Value} {od_Turns___len__ an_Turns___len__ : Option Addr} {sl_Turns___len__ : Array (Option Value)} {f__law_well : Addr} {oc__law_well kV__law_well dc__law_well pm__law_well cd__law_well ct__law_well : Value} {od__law_well an__law_well : Option Addr} {sl__law_well : Array (Option Value)} {f__law_draw : Addr} {oc__law_draw kV__law_draw dc__law_draw pm__law_draw cd__law_draw ct__law_draw : Value} {od__law_draw an__law_draw : Option Addr} {sl__law_draw : Array (Option Value)} {f__law_one : Addr} {oc__law_one kV__law_one dc__law_one pm__law_one cd__law_one ct__law_one : Value} {od__law_one an__law_one : Option Addr} {sl__law_one : Array (Option Value)} {f__law_map : Addr} {oc__law_map kV__law_map dc__law_map pm__law_map cd__law_map ct__law_map : Value} {od__law_map an__law_map : Option Addr} {sl__law_map : Array (Option Value)} {f__law_turns : Addr} {oc__law_turns kV__law_turns dc__law_turns pm__law_turns cd__law_turns ct__law_turns : Value} {od__law_turns an__law_turns : Option Addr} {sl__law_turns : Array (Option Value)} {f_staying : Addr} {oc_staying kV_staying dc_staying pm_staying cd_staying ct_staying : Value} {od_staying an_staying : Option Addr} {sl_staying : Array (Option Value)} {f_one_then_other : Addr} {oc_one_then_other kV_one_then_other dc_one_then_other pm_one_then_other cd_one_then_other ct_one_then_other : Value} {od_one_then_other an_one_then_other : Option Addr} {sl_one_then_other : Array (Option Value)} {f__first_words : Addr} {oc__first_words kV__first_words dc__first_words pm__first_words cd__first_words ct__first_words : Value} {od__first_words an__first_words : Option Addr} {sl__first_words : Array (Option Value)} {f_maps_of : Addr} {oc_maps_of kV_maps_of dc_maps_of pm_maps_of cd_maps_of ct_maps_of : Value} {od_maps_of an_maps_of : Option Addr} {sl_maps_of : Array (Option Value)} {f__law_found : Addr} {oc__law_found kV__law_found dc__law_found pm__law_found cd__law_found ct__law_found : Value} {od__law_found an__law_found : Option Addr} {sl__law_found : Array (Option Value)} {f__law_said : Addr} {oc__law_said kV__law_said dc__law_said pm__law_said cd__law_said ct__law_said : Value} {od__law_said an__law_said : Option Addr} {sl__law_said : Array (Option Value)} {f__law_round : Addr} {oc__law_round kV__law_round dc__law_round pm__law_round cd__law_round ct__law_round : Value} {od__law_round an__law_round : Option Addr} {sl__law_round : Array (Option Value)} {f__law_rings : Addr} {oc__law_rings kV__law_rings dc__law_rings pm__law_rings cd__law_rings ct__law_rings : Value} {od__law_rings an__law_rings : Option Addr} {sl__law_rings : Array (Option Value)} {f_law : Addr} {oc_law kV_law dc_law pm_law cd_law ct_law : Value} {od_law an_law : Option Addr} {sl_law : Array (Option Value)}
    (n_int : PySem.W.nsIn K mainGlobals "int" = some none)
    (n_len : PySem.W.nsIn K mainGlobals "len" = some none)
    (n_abs : PySem.W.nsIn K mainGlobals "abs" = some none)
    (n_repr : PySem.W.nsIn K mainGlobals "repr" = some none)
    (n_isinstance : PySem.W.nsIn K mainGlobals "isinstance" = some none)
    (n_bool : PySem.W.nsIn K mainGlobals "bool" = some none)
    (n_str : PySem.W.nsIn K mainGlobals "str" = some none)
    (n_list : PySem.W.nsIn K mainGlobals "list" = some none)
    (n_tuple : PySem.W.nsIn K mainGlobals "tuple" = some none)
    (n_range : PySem.W.nsIn K mainGlobals "range" = some none)
    (n_zip : PySem.W.nsIn K mainGlobals "zip" = some none)
    (n_enumerate : PySem.W.nsIn K mainGlobals "enumerate" = some none)
    (n_sum : PySem.W.nsIn K mainGlobals "sum" = some none)
    (n_any : PySem.W.nsIn K mainGlobals "any" = some none)
    (n_all : PySem.W.nsIn K mainGlobals "all" = some none)
    (n_min : PySem.W.nsIn K mainGlobals "min" = some none)
    (n_max : PySem.W.nsIn K mainGlobals "max" = some none)
    (n_sorted : PySem.W.nsIn K mainGlobals "sorted" = some none)
    (n_set : PySem.W.nsIn K mainGlobals "set" = some none)
    (aT : PySem.W.nsIn K mainGlobals "Turns" = some (some (.ref C_Turns)))
    (pgT : PySem.W.plainGet K C_Turns Str.empty = true)
    (hdT : PySem.W.hasDictIn K C_Turns = true)
    (poT : PySem.W.plainOver K C_Turns = true)
    (saT : PySem.W.findIn K (.ref C_Turns) "__setattr__" = some (some (.builtin "object.__setattr__")))
    (mk_Turns : PySem.W.makesIn K C_Turns = true)
    (kc_Turns : PySem.W.keepIn K (.ref C_Turns) = true)
    (nMy : PySem.W.findIn K (.ref C_Turns) "many" = some none)
    (nMs : PySem.W.findIn K (.ref C_Turns) "maps" = some none)
    (vMP : PySem.W.nsIn K mainGlobals "_MOST_PLACES" = some (some (.int 32 t1)))
    (vMS : PySem.W.nsIn K mainGlobals "_MOST_SIGNS" = some (some (.int 200 t2)))
    (vMF : PySem.W.nsIn K mainGlobals "_MOST_FOUND" = some (some (.int 300 t3)))
    (aX : PySem.W.nsIn K mainGlobals "TooMany" = some (some (.ref C_TooMany)))
    (xX : PySem.W.excIn K C_TooMany [.type "ValueError", .type "Exception", .type "BaseException", .type "object"] "ValueError.__new__" = true)
    (exX : PySem.W.subIn K (.ref C_TooMany) (.type "BaseException") = some true)
    (tyX : PySem.W.typeIn K (.ref C_TooMany) = some (.type "type"))
    (kX : PySem.W.keepIn K (.ref C_TooMany) = true)
    (hdX : PySem.W.hasDictIn K C_TooMany = true)
    (sX : PySem.W.subIn K (.ref C_TooMany) (.ref C_TooMany) = some true)
    (a_is_whole : PySem.W.nsIn K mainGlobals "is_whole" = some (some (.ref f_is_whole)))
    (l_is_whole : K.lookup f_is_whole = some ⟨oc_is_whole, od_is_whole, .func (PySem.W.fnOf "is_whole" "is_whole" (defArgs s_is_whole) (defBody s_is_whole) (defScope s_is_whole) .none kV_is_whole dc_is_whole pm_is_whole an_is_whole cd_is_whole ct_is_whole), sl_is_whole⟩)
    (c_is_whole : PySem.W.codeIn K cd_is_whole "is_whole" = true)
    (k_is_whole : PySem.W.keepIn K (.ref f_is_whole) = true)
    (a_is_whole_within : PySem.W.nsIn K mainGlobals "is_whole_within" = some (some (.ref f_is_whole_within)))
    (l_is_whole_within : K.lookup f_is_whole_within = some ⟨oc_is_whole_within, od_is_whole_within, .func (PySem.W.fnOf "is_whole_within" "is_whole_within" (defArgs s_is_whole_within) (defBody s_is_whole_within) (defScope s_is_whole_within) .none kV_is_whole_within dc_is_whole_within pm_is_whole_within an_is_whole_within cd_is_whole_within ct_is_whole_within), sl_is_whole_within⟩)
    (c_is_whole_within : PySem.W.codeIn K cd_is_whole_within "is_whole_within" = true)
    (k_is_whole_within : PySem.W.keepIn K (.ref f_is_whole_within) = true)
    (a__is_map : PySem.W.nsIn K mainGlobals "_is_map" = some (some (.ref f__is_map)))
    (l__is_map : K.lookup f__is_map = some ⟨oc__is_map, od__is_map, .func (PySem.W.fnOf "_is_map" "_is_map" (defArgs s__is_map) (defBody s__is_map) (defScope s__is_map) .none kV__is_map dc__is_map pm__is_map an__is_map cd__is_map ct__is_map), sl__is_map⟩)
    (c__is_map : PySem.W.codeIn K cd__is_map "_is_map" = true)
    (k__is_map : PySem.W.keepIn K (.ref f__is_map) = true)
    (a__are_maps : PySem.W.nsIn K mainGlobals "_are_maps" = some (some (.ref f__are_maps)))
    (l__are_maps : K.lookup f__are_maps = some ⟨oc__are_maps, od__are_maps, .func (PySem.W.fnOf "_are_maps" "_are_maps" (defArgs s__are_maps) (defBody s__are_maps) (defScope s__are_maps) .none kV__are_maps dc__are_maps pm__are_maps an__are_maps cd__are_maps ct__are_maps), sl__are_maps⟩)
    (c__are_maps : PySem.W.codeIn K cd__are_maps "_are_maps" = true)
    (k__are_maps : PySem.W.keepIn K (.ref f__are_maps) = true)
    (a_Turns___init__ : PySem.W.findIn K (.ref C_Turns) "__init__" = some (some (.ref f_Turns___init__)))
    (l_Turns___init__ : K.lookup f_Turns___init__ = some ⟨oc_Turns___init__, od_Turns___init__, .func (PySem.W.fnOf "__init__" "Turns.__init__" (defArgs s_Turns___init__) (defBody s_Turns___init__) (defScope s_Turns___init__) .none kV_Turns___init__ dc_Turns___init__ pm_Turns___init__ an_Turns___init__ cd_Turns___init__ ct_Turns___init__), sl_Turns___init__⟩)
    (c_Turns___init__ : PySem.W.codeIn K cd_Turns___init__ "Turns.__init__" = true)
    (k_Turns___init__ : PySem.W.keepIn K (.ref f_Turns___init__) = true)
    (i_Turns___init__ : PySem.W.isFn K (.ref f_Turns___init__) = true)
    (a_Turns___len__ : PySem.W.findIn K (.ref C_Turns) "__len__" = some (some (.ref f_Turns___len__)))
    (l_Turns___len__ : K.lookup f_Turns___len__ = some ⟨oc_Turns___len__, od_Turns___len__, .func (PySem.W.fnOf "__len__" "Turns.__len__" (defArgs s_Turns___len__) (defBody s_Turns___len__) (defScope s_Turns___len__) .none kV_Turns___len__ dc_Turns___len__ pm_Turns___len__ an_Turns___len__ cd_Turns___len__ ct_Turns___len__), sl_Turns___len__⟩)
    (c_Turns___len__ : PySem.W.codeIn K cd_Turns___len__ "Turns.__len__" = true)
    (k_Turns___len__ : PySem.W.keepIn K (.ref f_Turns___len__) = true)
    (i_Turns___len__ : PySem.W.isFn K (.ref f_Turns___len__) = true)
    (a__law_well : PySem.W.nsIn K mainGlobals "_law_well" = some (some (.ref f__law_well)))
    (l__law_well : K.lookup f__law_well = some ⟨oc__law_well, od__law_well, .func (PySem.W.fnOf "_law_well" "_law_well" (defArgs s__law_well) (defBody s__law_well) (defScope s__law_well) .none kV__law_well dc__law_well pm__law_well an__law_well cd__law_well ct__law_well), sl__law_well⟩)
    (c__law_well : PySem.W.codeIn K cd__law_well "_law_well" = true)
    (k__law_well : PySem.W.keepIn K (.ref f__law_well) = true)
    (a__law_draw : PySem.W.nsIn K mainGlobals "_law_draw" = some (some (.ref f__law_draw)))
    (l__law_draw : K.lookup f__law_draw = some ⟨oc__law_draw, od__law_draw, .func (PySem.W.fnOf "_law_draw" "_law_draw" (defArgs s__law_draw) (defBody s__law_draw) (defScope s__law_draw) .none kV__law_draw dc__law_draw pm__law_draw an__law_draw cd__law_draw ct__law_draw), sl__law_draw⟩)
    (c__law_draw : PySem.W.codeIn K cd__law_draw "_law_draw" = true)
    (k__law_draw : PySem.W.keepIn K (.ref f__law_draw) = true)
    (a__law_one : PySem.W.nsIn K mainGlobals "_law_one" = some (some (.ref f__law_one)))
    (l__law_one : K.lookup f__law_one = some ⟨oc__law_one, od__law_one, .func (PySem.W.fnOf "_law_one" "_law_one" (defArgs s__law_one) (defBody s__law_one) (defScope s__law_one) .none kV__law_one dc__law_one pm__law_one an__law_one cd__law_one ct__law_one), sl__law_one⟩)
    (c__law_one : PySem.W.codeIn K cd__law_one "_law_one" = true)
    (k__law_one : PySem.W.keepIn K (.ref f__law_one) = true)
    (a__law_map : PySem.W.nsIn K mainGlobals "_law_map" = some (some (.ref f__law_map)))
    (l__law_map : K.lookup f__law_map = some ⟨oc__law_map, od__law_map, .func (PySem.W.fnOf "_law_map" "_law_map" (defArgs s__law_map) (defBody s__law_map) (defScope s__law_map) .none kV__law_map dc__law_map pm__law_map an__law_map cd__law_map ct__law_map), sl__law_map⟩)
    (c__law_map : PySem.W.codeIn K cd__law_map "_law_map" = true)
    (k__law_map : PySem.W.keepIn K (.ref f__law_map) = true)
    (a__law_turns : PySem.W.nsIn K mainGlobals "_law_turns" = some (some (.ref f__law_turns)))
    (l__law_turns : K.lookup f__law_turns = some ⟨oc__law_turns, od__law_turns, .func (PySem.W.fnOf "_law_turns" "_law_turns" (defArgs s__law_turns) (defBody s__law_turns) (defScope s__law_turns) .none kV__law_turns dc__law_turns pm__law_turns an__law_turns cd__law_turns ct__law_turns), sl__law_turns⟩)
    (c__law_turns : PySem.W.codeIn K cd__law_turns "_law_turns" = true)
    (k__law_turns : PySem.W.keepIn K (.ref f__law_turns) = true)
    (a_staying : PySem.W.nsIn K mainGlobals "staying" = some (some (.ref f_staying)))
    (l_staying : K.lookup f_staying = some ⟨oc_staying, od_staying, .func (PySem.W.fnOf "staying" "staying" (defArgs s_staying) (defBody s_staying) (defScope s_staying) .none kV_staying dc_staying pm_staying an_staying cd_staying ct_staying), sl_staying⟩)
    (c_staying : PySem.W.codeIn K cd_staying "staying" = true)
    (k_staying : PySem.W.keepIn K (.ref f_staying) = true)
    (a_one_then_other : PySem.W.nsIn K mainGlobals "one_then_other" = some (some (.ref f_one_then_other)))
    (l_one_then_other : K.lookup f_one_then_other = some ⟨oc_one_then_other, od_one_then_other, .func (PySem.W.fnOf "one_then_other" "one_then_other" (defArgs s_one_then_other) (defBody s_one_then_other) (defScope s_one_then_other) .none kV_one_then_other dc_one_then_other pm_one_then_other an_one_then_other cd_one_then_other ct_one_then_other), sl_one_then_other⟩)
    (c_one_then_other : PySem.W.codeIn K cd_one_then_other "one_then_other" = true)
    (k_one_then_other : PySem.W.keepIn K (.ref f_one_then_other) = true)
    (a__first_words : PySem.W.nsIn K mainGlobals "_first_words" = some (some (.ref f__first_words)))
    (l__first_words : K.lookup f__first_words = some ⟨oc__first_words, od__first_words, .func (PySem.W.fnOf "_first_words" "_first_words" (defArgs s__first_words) (defBody s__first_words) (defScope s__first_words) .none kV__first_words dc__first_words pm__first_words an__first_words cd__first_words ct__first_words), sl__first_words⟩)
    (c__first_words : PySem.W.codeIn K cd__first_words "_first_words" = true)
    (k__first_words : PySem.W.keepIn K (.ref f__first_words) = true)
    (a_maps_of : PySem.W.nsIn K mainGlobals "maps_of" = some (some (.ref f_maps_of)))
    (l_maps_of : K.lookup f_maps_of = some ⟨oc_maps_of, od_maps_of, .func (PySem.W.fnOf "maps_of" "maps_of" (defArgs s_maps_of) (defBody s_maps_of) (defScope s_maps_of) .none kV_maps_of dc_maps_of pm_maps_of an_maps_of cd_maps_of ct_maps_of), sl_maps_of⟩)
    (c_maps_of : PySem.W.codeIn K cd_maps_of "maps_of" = true)
    (k_maps_of : PySem.W.keepIn K (.ref f_maps_of) = true)
    (a__law_found : PySem.W.nsIn K mainGlobals "_law_found" = some (some (.ref f__law_found)))
    (l__law_found : K.lookup f__law_found = some ⟨oc__law_found, od__law_found, .func (PySem.W.fnOf "_law_found" "_law_found" (defArgs s__law_found) (defBody s__law_found) (defScope s__law_found) .none kV__law_found dc__law_found pm__law_found an__law_found cd__law_found ct__law_found), sl__law_found⟩)
    (c__law_found : PySem.W.codeIn K cd__law_found "_law_found" = true)
    (k__law_found : PySem.W.keepIn K (.ref f__law_found) = true)
    (a__law_said : PySem.W.nsIn K mainGlobals "_law_said" = some (some (.ref f__law_said)))
    (l__law_said : K.lookup f__law_said = some ⟨oc__law_said, od__law_said, .func (PySem.W.fnOf "_law_said" "_law_said" (defArgs s__law_said) (defBody s__law_said) (defScope s__law_said) .none kV__law_said dc__law_said pm__law_said an__law_said cd__law_said ct__law_said), sl__law_said⟩)
    (c__law_said : PySem.W.codeIn K cd__law_said "_law_said" = true)
    (k__law_said : PySem.W.keepIn K (.ref f__law_said) = true)
    (a__law_round : PySem.W.nsIn K mainGlobals "_law_round" = some (some (.ref f__law_round)))
    (l__law_round : K.lookup f__law_round = some ⟨oc__law_round, od__law_round, .func (PySem.W.fnOf "_law_round" "_law_round" (defArgs s__law_round) (defBody s__law_round) (defScope s__law_round) .none kV__law_round dc__law_round pm__law_round an__law_round cd__law_round ct__law_round), sl__law_round⟩)
    (c__law_round : PySem.W.codeIn K cd__law_round "_law_round" = true)
    (k__law_round : PySem.W.keepIn K (.ref f__law_round) = true)
    (a__law_rings : PySem.W.nsIn K mainGlobals "_law_rings" = some (some (.ref f__law_rings)))
    (l__law_rings : K.lookup f__law_rings = some ⟨oc__law_rings, od__law_rings, .func (PySem.W.fnOf "_law_rings" "_law_rings" (defArgs s__law_rings) (defBody s__law_rings) (defScope s__law_rings) .none kV__law_rings dc__law_rings pm__law_rings an__law_rings cd__law_rings ct__law_rings), sl__law_rings⟩)
    (c__law_rings : PySem.W.codeIn K cd__law_rings "_law_rings" = true)
    (k__law_rings : PySem.W.keepIn K (.ref f__law_rings) = true)
    (a_law : PySem.W.nsIn K mainGlobals "law" = some (some (.ref f_law)))
    (l_law : K.lookup f_law = some ⟨oc_law, od_law, .func (PySem.W.fnOf "law" "law" (defArgs s_law) (defBody s_law) (defScope s_law) .none kV_law dc_law pm_law an_law cd_law ct_law), sl_law⟩)
    (c_law : PySem.W.codeIn K cd_law "law" = true)
    (k_law : PySem.W.keepIn K (.ref f_law) = true)
    : ∃ fd : FuncData, (∀ (s : Shared) (v : Value), BindsTo s fd ⟨[v], []⟩ [("_law_script", v)]) ∧ ∀ base : Heap, K.In base → base.Ns mainGlobals mg → FnG P w K mg base CX0 7 fa fd ["_law_script"] (spLaw K) := by
  have e := hfa.symm.trans (PySem.W.mg_of X G a_law)
  cases e
  have T0 : Tx K mg := ⟨PySem.W.mg_none_of X G n_int, PySem.W.mg_none_of X G n_len, PySem.W.mg_none_of X G n_abs, PySem.W.mg_none_of X G n_repr, PySem.W.mg_none_of X G n_isinstance, PySem.W.mg_none_of X G n_bool, PySem.W.mg_none_of X G n_str, PySem.W.mg_none_of X G n_list, PySem.W.mg_none_of X G n_tuple, PySem.W.mg_none_of X G n_range, PySem.W.mg_none_of X G n_zip, PySem.W.mg_none_of X G n_enumerate, PySem.W.mg_none_of X G n_sum, PySem.W.mg_none_of X G n_any, PySem.W.mg_none_of X G n_all, PySem.W.mg_none_of X G n_min, PySem.W.mg_none_of X G n_max, PySem.W.mg_none_of X G n_sorted⟩
  have Tz0 : Tz K mg := ⟨T0, PySem.W.mg_none_of X G n_set⟩
  have TU0 : TU K mg C_Turns t1 t2 := ⟨Tz0, ⟨pgT, hdT, poT, saT⟩, nMy, nMs, PySem.W.mg_of X G aT, PySem.W.mg_of X G vMP, PySem.W.mg_of X G vMS⟩
  have TUM0 : TUM K mg C_Turns t1 t2 C_TooMany := ⟨TU0, ⟨PySem.W.mg_of X G aX, xX, kX, exX, tyX, PySem.W.exm_ref exX hdX tyX sX⟩⟩
  have F_is_whole := fun_mk (st := s_is_whole) l_is_whole c_is_whole k_is_whole
  have b_is_whole := F_is_whole.binds (ps := ["thing"]) fun _ _ _ _ _ _ us hl => match us, hl with | [_], _ => rfl
  have d_is_whole : ∀ base : Heap, Df P w K mg base CX0 1 "is_whole" ["thing"] (spWhole K) := fun base => ⟨⟨_, _, PySem.W.mg_of X G a_is_whole, k_is_whole, ok_whole F_is_whole T0, b_is_whole⟩⟩
  have F_is_whole_within := fun_mk (st := s_is_whole_within) l_is_whole_within c_is_whole_within k_is_whole_within
  have b_is_whole_within := F_is_whole_within.binds (ps := ["thing", "least", "most"]) fun _ _ _ _ _ _ us hl => match us, hl with | [_, _, _], _ => rfl
  have d_is_whole_within : ∀ base : Heap, Df P w K mg base CX0 2 "is_whole_within" ["thing", "least", "most"] (spWithin K) := fun base => ⟨⟨_, _, PySem.W.mg_of X G a_is_whole_within, k_is_whole_within, ok_within F_is_whole_within T0 (d_is_whole base), b_is_whole_within⟩⟩
  have F__is_map := fun_mk (st := s__is_map) l__is_map c__is_map k__is_map
  have b__is_map := F__is_map.binds (ps := ["thing", "many"]) fun _ _ _ _ _ _ us hl => match us, hl with | [_, _], _ => rfl
  have d__is_map : ∀ base : Heap, Df P w K mg base CX0 3 "_is_map" ["thing", "many"] (spIsMap) := fun base => ⟨⟨_, _, PySem.W.mg_of X G a__is_map, k__is_map, ok_ismap F__is_map T0 (d_is_whole_within base), b__is_map⟩⟩
  have F__are_maps := fun_mk (st := s__are_maps) l__are_maps c__are_maps k__are_maps
  have b__are_maps := F__are_maps.binds (ps := ["thing", "many"]) fun _ _ _ _ _ _ us hl => match us, hl with | [_, _], _ => rfl
  have d__are_maps : ∀ base : Heap, Df P w K mg base CX0 4 "_are_maps" ["thing", "many"] (spAreMaps) := fun base => ⟨⟨_, _, PySem.W.mg_of X G a__are_maps, k__are_maps, ok_aremaps F__are_maps TU0 (d__is_map base), b__are_maps⟩⟩
  have F_Turns___init__ := fun_mk (st := s_Turns___init__) l_Turns___init__ c_Turns___init__ k_Turns___init__
  have b_Turns___init__ := F_Turns___init__.binds (ps := ["self", "many", "maps"]) fun _ _ _ _ _ _ us hl => match us, hl with | [_, _, _], _ => rfl
  have m_Turns : ∀ base : Heap, Md P w K mg base CX0 5 C_Turns ["self", "many", "maps"] [] (spTurnsInit C_Turns) := fun base => ⟨⟨_, _, [], ⟨mk_Turns, a_Turns___init__, i_Turns___init__, kc_Turns⟩, ok_tinit F_Turns___init__ TU0 (d_is_whole_within base) (d__are_maps base), b_Turns___init__, b_Turns___init__, .nil⟩⟩
  have F_Turns___len__ := fun_mk (st := s_Turns___len__) l_Turns___len__ c_Turns___len__ k_Turns___len__
  have b_Turns___len__ := F_Turns___len__.binds (ps := ["self"]) fun _ _ _ _ _ _ us hl => match us, hl with | [_], _ => rfl
  have d_Turns___len__ : ∀ base : Heap, Mt P w K mg base 1 C_Turns "__len__" ["self"] (spTLen C_Turns) := fun base => ⟨_, _, a_Turns___len__, i_Turns___len__, k_Turns___len__, ok_tlen F_Turns___len__ TU0, b_Turns___len__⟩
  have F__law_well := fun_mk (st := s__law_well) l__law_well c__law_well k__law_well
  have b__law_well := F__law_well.binds (ps := ["_law_cell"]) fun _ _ _ _ _ _ us hl => match us, hl with | [_], _ => rfl
  have d__law_well : ∀ base : Heap, Df P w K mg base CX0 1 "_law_well" ["_law_cell"] (spWell) := fun base => ⟨⟨_, _, PySem.W.mg_of X G a__law_well, k__law_well, ok_well F__law_well T0, b__law_well⟩⟩
  have F__law_draw := fun_mk (st := s__law_draw) l__law_draw c__law_draw k__law_draw
  have b__law_draw := F__law_draw.binds (ps := ["_law_well_here", "_law_many"]) fun _ _ _ _ _ _ us hl => match us, hl with | [_, _], _ => rfl
  have d__law_draw : ∀ base : Heap, Df P w K mg base CX0 1 "_law_draw" ["_law_well_here", "_law_many"] (spDraw) := fun base => ⟨⟨_, _, PySem.W.mg_of X G a__law_draw, k__law_draw, ok_draw F__law_draw T0, b__law_draw⟩⟩
  have F__law_one := fun_mk (st := s__law_one) l__law_one c__law_one k__law_one
  have b__law_one := F__law_one.binds (ps := ["_law_well_here", "_law_some"]) fun _ _ _ _ _ _ us hl => match us, hl with | [_, _], _ => rfl
  have d__law_one : ∀ base : Heap, Df P w K mg base CX0 2 "_law_one" ["_law_well_here", "_law_some"] (spOne K) := fun base => ⟨⟨_, _, PySem.W.mg_of X G a__law_one, k__law_one, ok_one F__law_one T0 (d__law_draw base), b__law_one⟩⟩
  have F__law_map := fun_mk (st := s__law_map) l__law_map c__law_map k__law_map
  have b__law_map := F__law_map.binds (ps := ["_law_well_here", "_law_many", "_law_kind"]) fun _ _ _ _ _ _ us hl => match us, hl with | [_, _, _], _ => rfl
  have d__law_map : ∀ base : Heap, Df P w K mg base CX0 2 "_law_map" ["_law_well_here", "_law_many", "_law_kind"] (spMap) := fun base => ⟨⟨_, _, PySem.W.mg_of X G a__law_map, k__law_map, ok_map F__law_map T0 (d__law_draw base), b__law_map⟩⟩
  have F__law_turns := fun_mk (st := s__law_turns) l__law_turns c__law_turns k__law_turns
  have b__law_turns := F__law_turns.binds (ps := ["_law_well_here", "_law_places", "_law_signs"]) fun _ _ _ _ _ _ us hl => match us, hl with | [_, _, _], _ => rfl
  have d__law_turns : ∀ base : Heap, Df P w K mg base CX0 3 "_law_turns" ["_law_well_here", "_law_places", "_law_signs"] (spTurnsD) := fun base => ⟨⟨_, _, PySem.W.mg_of X G a__law_turns, k__law_turns, ok_turnsd F__law_turns T0 (d__law_draw base) (d__law_map base), b__law_turns⟩⟩
  have F_staying := fun_mk (st := s_staying) l_staying c_staying k_staying
  have b_staying := F_staying.binds (ps := ["many"]) fun _ _ _ _ _ _ us hl => match us, hl with | [_], _ => rfl
  have d_staying : ∀ base : Heap, Df P w K mg base CX0 1 "staying" ["many"] (spStay) := fun base => ⟨⟨_, _, PySem.W.mg_of X G a_staying, k_staying, ok_staying F_staying T0, b_staying⟩⟩
  have F_one_then_other := fun_mk (st := s_one_then_other) l_one_then_other c_one_then_other k_one_then_other
  have b_one_then_other := F_one_then_other.binds (ps := ["one", "other"]) fun _ _ _ _ _ _ us hl => match us, hl with | [_, _], _ => rfl
  have d_one_then_other : ∀ base : Heap, Df P w K mg base CX0 1 "one_then_other" ["one", "other"] (spThen K) := fun base => ⟨⟨_, _, PySem.W.mg_of X G a_one_then_other, k_one_then_other, ok_then F_one_then_other T0, b_one_then_other⟩⟩
  have F__first_words := fun_mk (st := s__first_words) l__first_words c__first_words k__first_words
  have b__first_words := F__first_words.binds (ps := ["turns", "lead", "most"]) fun _ _ _ _ _ _ us hl => match us, hl with | [_, _, _], _ => rfl
  have d__first_words : ∀ base : Heap, Df P w K mg base (L2N.CX P w) 3 "_first_words" ["turns", "lead", "most"] (spFirst P w K mg base C_Turns C_TooMany) := fun base => ⟨⟨_, _, PySem.W.mg_of X G a__first_words, k__first_words, ok_first F__first_words TUM0 (d_staying base), b__first_words⟩⟩
  have F_maps_of := fun_mk (st := s_maps_of) l_maps_of c_maps_of k_maps_of
  have b_maps_of := F_maps_of.binds (ps := ["turns"]) fun _ _ _ _ _ _ us hl => match us, hl with | [_], _ => rfl
  have d_maps_of : ∀ base : Heap, Df P w K mg base (L2N.CX P w) 4 "maps_of" ["turns"] (spMapsOf C_Turns C_TooMany) := fun base => ⟨⟨_, _, PySem.W.mg_of X G a_maps_of, k_maps_of, ok_mapsofw F_maps_of TUM0 (PySem.W.mg_of X G vMF) (d_one_then_other base) (d__first_words base), b_maps_of⟩⟩
  have F__law_found := fun_mk (st := s__law_found) l__law_found c__law_found k__law_found
  have b__law_found := F__law_found.binds (ps := ["_law_many", "_law_maps"]) fun _ _ _ _ _ _ us hl => match us, hl with | [_, _], _ => rfl
  have d__law_found : ∀ base : Heap, Df P w K mg base CX0 1 "_law_found" ["_law_many", "_law_maps"] (spFoundL) := fun base => ⟨⟨_, _, PySem.W.mg_of X G a__law_found, k__law_found, ok_foundl F__law_found T0, b__law_found⟩⟩
  have F__law_said := fun_mk (st := s__law_said) l__law_said c__law_said k__law_said
  have b__law_said := F__law_said.binds (ps := ["_law_turns_here"]) fun _ _ _ _ _ _ us hl => match us, hl with | [_], _ => rfl
  have d__law_said : ∀ base : Heap, Df P w K mg base CX0 5 "_law_said" ["_law_turns_here"] (spSaid25 C_Turns) := fun base => ⟨⟨_, _, PySem.W.mg_of X G a__law_said, k__law_said, ok_said25 F__law_said TUM0 (d_maps_of base), b__law_said⟩⟩
  have F__law_round := fun_mk (st := s__law_round) l__law_round c__law_round k__law_round
  have b__law_round := F__law_round.binds (ps := ["_law_well_here", "_law_many"]) fun _ _ _ _ _ _ us hl => match us, hl with | [_, _], _ => rfl
  have d__law_round : ∀ base : Heap, Df P w K mg base CX0 2 "_law_round" ["_law_well_here", "_law_many"] (spRound) := fun base => ⟨⟨_, _, PySem.W.mg_of X G a__law_round, k__law_round, ok_round F__law_round T0 (d__law_draw base), b__law_round⟩⟩
  have F__law_rings := fun_mk (st := s__law_rings) l__law_rings c__law_rings k__law_rings
  have b__law_rings := F__law_rings.binds (ps := ["_law_well_here"]) fun _ _ _ _ _ _ us hl => match us, hl with | [_], _ => rfl
  have d__law_rings : ∀ base : Heap, Df P w K mg base CX0 3 "_law_rings" ["_law_well_here"] (spRings) := fun base => ⟨⟨_, _, PySem.W.mg_of X G a__law_rings, k__law_rings, ok_rings F__law_rings T0 (d__law_draw base) (d__law_one base), b__law_rings⟩⟩
  have F_law := fun_mk (st := s_law) l_law c_law k_law
  exact ⟨_, fun s v => .of_eq rfl, fun base _ _ => FnG.of (ok_law F_law TUM0 (m_Turns base) (d__law_said base) (d__law_found base) (d__law_round base) (d__law_rings base) (d__law_well base) (d__law_draw base) (d__law_turns base))⟩
end My
open PySem PySem.W PyProof.Rows in
set_option maxRecDepth 100000 in
set_option maxHeartbeats 0 in
theorem PySem.Challenge.cw_elderdraw_k25_all_maps_holds : PySem.Challenge.rw_elderdraw_k25_all_maps.Holds := by
  w_on; o_law; k_head; (case hw => w_witness2)
  k_fill
  refine My.walk_ofGK (l := PySem.Challenge.rw_elderdraw_k25_all_maps) (sp := My.spLaw) (k := 7) (n := 63) (x := "_law_script") rfl (by decide) rfl ⟨rfl, by decide, by decide⟩ (fun w h Y => PySem.W.kIn_of Y) (fun K H a ns hl hb _ hS => ⟨a, ns, rfl, hS, hl, fun _ => rfl⟩) ?F
  case F =>
    intro w mg fa h KX G XQ hmg
    refine' My.all_mk KX G hmg ?n_int ?n_len ?n_abs ?n_repr ?n_isinstance ?n_bool ?n_str ?n_list ?n_tuple ?n_range ?n_zip ?n_enumerate ?n_sum ?n_any ?n_all ?n_min ?n_max ?n_sorted ?n_set ?aT ?pgT ?hdT ?poT ?saT ?mk_Turns ?kc_Turns ?nMy ?nMs ?vMP ?vMS ?vMF ?aX ?xX ?exX ?tyX ?kX ?hdX ?sX ?a_is_whole ?l_is_whole ?c_is_whole ?k_is_whole ?a_is_whole_within ?l_is_whole_within ?c_is_whole_within ?k_is_whole_within ?a__is_map ?l__is_map ?c__is_map ?k__is_map ?a__are_maps ?l__are_maps ?c__are_maps ?k__are_maps ?a_Turns___init__ ?l_Turns___init__ ?c_Turns___init__ ?k_Turns___init__ ?i_Turns___init__ ?a_Turns___len__ ?l_Turns___len__ ?c_Turns___len__ ?k_Turns___len__ ?i_Turns___len__ ?a__law_well ?l__law_well ?c__law_well ?k__law_well ?a__law_draw ?l__law_draw ?c__law_draw ?k__law_draw ?a__law_one ?l__law_one ?c__law_one ?k__law_one ?a__law_map ?l__law_map ?c__law_map ?k__law_map ?a__law_turns ?l__law_turns ?c__law_turns ?k__law_turns ?a_staying ?l_staying ?c_staying ?k_staying ?a_one_then_other ?l_one_then_other ?c_one_then_other ?k_one_then_other ?a__first_words ?l__first_words ?c__first_words ?k__first_words ?a_maps_of ?l_maps_of ?c_maps_of ?k_maps_of ?a__law_found ?l__law_found ?c__law_found ?k__law_found ?a__law_said ?l__law_said ?c__law_said ?k__law_said ?a__law_round ?l__law_round ?c__law_round ?k__law_round ?a__law_rings ?l__law_rings ?c__law_rings ?k__law_rings ?a_law ?l_law ?c_law ?k_law
    (case n_int => k_is)
    (case n_len => k_is)
    (case n_abs => k_is)
    (case n_repr => k_is)
    (case n_isinstance => k_is)
    (case n_bool => k_is)
    (case n_str => k_is)
    (case n_list => k_is)
    (case n_tuple => k_is)
    (case n_range => k_is)
    (case n_zip => k_is)
    (case n_enumerate => k_is)
    (case n_sum => k_is)
    (case n_any => k_is)
    (case n_all => k_is)
    (case n_min => k_is)
    (case n_max => k_is)
    (case n_sorted => k_is)
    (case n_set => k_is)
    (case aT => k_is)
    (case pgT => k_is)
    (case hdT => k_is)
    (case poT => k_is)
    (case saT => k_is)
    (case mk_Turns => k_is)
    (case kc_Turns => k_is)
    (case nMy => k_is)
    (case nMs => k_is)
    (case vMP => k_is)
    (case vMS => k_is)
    (case vMF => k_is)
    (case aX => k_is)
    (case xX => k_exc)
    (case exX => k_is)
    (case tyX => k_is)
    (case kX => k_is)
    (case hdX => k_is)
    (case sX => k_is)
    (case a_is_whole => k_is)
    (case l_is_whole => k_is)
    (case c_is_whole => k_is)
    (case k_is_whole => k_is)
    (case a_is_whole_within => k_is)
    (case l_is_whole_within => k_is)
    (case c_is_whole_within => k_is)
    (case k_is_whole_within => k_is)
    (case a__is_map => k_is)
    (case l__is_map => k_is)
    (case c__is_map => k_is)
    (case k__is_map => k_is)
    (case a__are_maps => k_is)
    (case l__are_maps => k_is)
    (case c__are_maps => k_is)
    (case k__are_maps => k_is)
    (case a_Turns___init__ => k_is)
    (case l_Turns___init__ => k_is)
    (case c_Turns___init__ => k_is)
    (case k_Turns___init__ => k_is)
    (case i_Turns___init__ => k_is)
    (case a_Turns___len__ => k_is)
    (case l_Turns___len__ => k_is)
    (case c_Turns___len__ => k_is)
    (case k_Turns___len__ => k_is)
    (case i_Turns___len__ => k_is)
    (case a__law_well => k_is)
    (case l__law_well => k_is)
    (case c__law_well => k_is)
    (case k__law_well => k_is)
    (case a__law_draw => k_is)
    (case l__law_draw => k_is)
    (case c__law_draw => k_is)
    (case k__law_draw => k_is)
    (case a__law_one => k_is)
    (case l__law_one => k_is)
    (case c__law_one => k_is)
    (case k__law_one => k_is)
    (case a__law_map => k_is)
    (case l__law_map => k_is)
    (case c__law_map => k_is)
    (case k__law_map => k_is)
    (case a__law_turns => k_is)
    (case l__law_turns => k_is)
    (case c__law_turns => k_is)
    (case k__law_turns => k_is)
    (case a_staying => k_is)
    (case l_staying => k_is)
    (case c_staying => k_is)
    (case k_staying => k_is)
    (case a_one_then_other => k_is)
    (case l_one_then_other => k_is)
    (case c_one_then_other => k_is)
    (case k_one_then_other => k_is)
    (case a__first_words => k_is)
    (case l__first_words => k_is)
    (case c__first_words => k_is)
    (case k__first_words => k_is)
    (case a_maps_of => k_is)
    (case l_maps_of => k_is)
    (case c_maps_of => k_is)
    (case k_maps_of => k_is)
    (case a__law_found => k_is)
    (case l__law_found => k_is)
    (case c__law_found => k_is)
    (case k__law_found => k_is)
    (case a__law_said => k_is)
    (case l__law_said => k_is)
    (case c__law_said => k_is)
    (case k__law_said => k_is)
    (case a__law_round => k_is)
    (case l__law_round => k_is)
    (case c__law_round => k_is)
    (case k__law_round => k_is)
    (case a__law_rings => k_is)
    (case l__law_rings => k_is)
    (case c__law_rings => k_is)
    (case k__law_rings => k_is)
    (case a_law => k_is)
    (case l_law => k_is)
    (case c_law => k_is)
    (case k_law => k_is)
