import PyProof.Rows.All
import Wide.All
import OpenK.AllK
import Wide.FinOn
import HandS.ForMost
import HandS.Wide
import HandS.WideBits
import HandS.SortInts
import HandS.Star
import HandS.IsInst
import HandS.Style
import HandS.AnyAll
import HandS.Conv
import HandS.Defaults
import HandS.Text
import HandS.TryOnly
import HandS.WordsExc
import HandS.ExcOwn
import HandS.Steps
import HandS.GenList
import HandS.EndTab
import KE.LtSeq
import HandS.DictComp
import PyProof.DictFindH
import KE.GoesEnumKw
import HandS.HotCalls
import HandS.ExcIs
import PySem.Challenge.RW_seedcup_k41_results_judged
set_option Elab.async false
set_option linter.all false
set_option maxRecDepth 100000
set_option maxHeartbeats 4000000
/-! Steps of a reading, for this project's own proofs. -/
namespace SC
open PySem PySem.Spec PyProof.Rows L2

/-! ### what stays: all but the code objects' tables, which may grow -/
class NT (o : HO) : Prop where
  ne : ∀ ps, o ≠ .tbl ps
instance {xs : List V} : NT (.lst xs) := ⟨fun _ z => nomatch z⟩
instance {xs : List V} : NT (.tup xs) := ⟨fun _ z => nomatch z⟩
instance {xs : List (Key × V)} : NT (.dK xs) := ⟨fun _ z => nomatch z⟩
instance {xs : List (List Key × V)} : NT (.dT xs) := ⟨fun _ z => nomatch z⟩
instance {o : Obj} {u : HO} : NT (.frz o u) := ⟨fun _ z => nomatch z⟩
instance {C dx : Addr} {fs : List (Str × V)} : NT (.ins C dx fs) := ⟨fun _ z => nomatch z⟩
structure Sm (H H' : Hp) : Prop where
  un : ∀ b o [NT o], H b = some o → H' b = some o
  tb : ∀ b, GxR.TabG H b → GxR.TabG H' b
  fr : ∀ b, H' b = none → H b = none
instance {H H' : Hp} : CoeFun (Sm H H') fun _ => ∀ b o [NT o], H b = some o → H' b = some o := ⟨fun x => x.un⟩
theorem Sm.refl (H : Hp) : Sm H H := ⟨fun _ _ _ h => h, fun _ h => h, fun _ h => h⟩
theorem Sm.trans {H H1 H2 : Hp} (a : Sm H H1) (b : Sm H1 H2) : Sm H H2 := ⟨fun c o _ h => b c o (a c o h), fun c h => b.tb c (a.tb c h), fun c h => a.fr c (b.fr c h)⟩
theorem Sm.free {H H' : Hp} (e : Sm H H') {l : Addr} (h : H' l = Option.none) : H l = Option.none := e.fr l h
theorem Sm.seq {K : PySem.W.Frag} {H H' : Hp} {a : Addr} {xs : List V} (e : Sm H H') (h : SqL K H a xs) : SqL K H' a xs := by
  rcases h with (h | ⟨o, h⟩) | h
  · exact .inl (.inl (e _ _ h))
  · exact .inl (.inr ⟨o, e _ _ h⟩)
  · exact .inr h
theorem Sm.tabbed {P : Addr} {H H' : Hp} (h : GxR.TabG H P) (x : GxR.Tabbed P H H') : Sm H H' := by
  obtain ⟨x1, x2⟩ := x
  obtain ⟨ps, hp, hq⟩ := h
  refine ⟨fun b o n e => ?_, fun b q => ?_, fun b q => ?_⟩
  · rw [x2 b fun z => ?_]
    · exact e
    · rw [z, hp] at e
      cases e
      exact n.ne ps rfl
  · by_cases hb : b = P
    · rw [hb]; exact x1
    · obtain ⟨ps, hp, hq⟩ := q
      exact ⟨ps, by rw [x2 b hb]; exact hp, hq⟩
  · by_cases hb : b = P
    · obtain ⟨ps', hp', _⟩ := x1
      rw [hb, hp'] at q
      cases q
    · rw [x2 b hb] at q
      exact q

/-! ### operators of great ints -/
section
variable {X : Cx}
def CPowX (i j : Int) : Prop := 0 ≤ j ∧ (Builtin.Int.intBits i : Int) * j ≤ 2 ^ 27
theorem op_powX : OpR X (binaryOp .Pow) (rI CPowX fun i j => .int (i ^ j.toNat)) := opI fun _ _ _ _ _ _ _ hc q => pow_int hc.1 hc.2 q
end
def rMod : R2 := rI (fun _ j => 0 < j) fun i j => .int (i % j)
section
variable {X : Cx}
theorem op_modR : OpR X (binaryOp .Mod) rMod := op_mod
end
theorem bits_le {i : Int} {n : Nat} (h : i.natAbs < 2 ^ n) : Builtin.Int.intBits i ≤ n := by
  unfold Builtin.Int.intBits
  split
  · omega
  · rename_i hz
    have h1 : i.natAbs ≠ 0 := by simpa using hz
    have : i.natAbs.log2 < n := by
      rw [Nat.log2_lt h1]
      exact h
    omega

theorem n_abs {b : Int} {n : Nat} (h0 : 0 < b) (h : b < 2 ^ n) : b.natAbs < 2 ^ n := by
  have e : (b.natAbs : Int) < ((2 ^ n : Nat) : Int) := by
    rw [Int.natAbs_of_nonneg (by omega)]
    simpa using h
  exact_mod_cast e
theorem cpow_ok {x j : Int} (h0 : 0 ≤ x) (h : x < 2 ^ 400) (j0 : 0 ≤ j) (j1 : j ≤ 10) : CPowX x j := by
  refine ⟨j0, ?_⟩
  have e : (x.natAbs : Int) < ((2 ^ 400 : Nat) : Int) := by
    rw [Int.natAbs_of_nonneg h0]
    exact h
  have b := bits_le (i := x) (n := 400) (by exact_mod_cast e)
  have p : ((Builtin.Int.intBits x : Nat) : Int) * j ≤ 400 * 10 := Int.mul_le_mul (by omega) j1 j0 (by omega)
  omega
def NewL (xs : List V) (H : Hp) (Q : VK) : Prop := xs.length ≤ sizeLine ∧ ∀ p, H p = none → Q (.ref p) (upd H p (.lst xs))
def NewT (xs : List V) (H : Hp) (Q : VK) : Prop := xs.length ≤ sizeLine ∧ ∀ p, H p = none → Q (.ref p) (upd H p (.tup xs))
/-! ### readings, step by step -/
section
variable {σ : L2.St} {H H' : Hp} {Q : VK} {ta tb te : TE} {t u : TT} {r : R2} {v x y : V} {i j : Int} {D : Ends} {tr ts : TS} {trA : TA}
theorem w_var {i : Nat} (h : σ[i]? = some (some v)) (k : Q v H) : tVar i σ H Q := ⟨v, h, k⟩
theorem w_c (k : Q v H) : tC v σ H Q := k
theorem w_op (k : ta σ H fun x H1 => tb σ H1 fun y H2 => r x y H2 Q) : tOp r ta tb σ H Q := k
theorem w_i0 {g : Int → Int → V} (k : Q (g i j) H) : rI0 g (.int i) (.int j) H Q := ⟨i, j, rfl, rfl, k⟩
theorem w_i {C : Int → Int → Prop} {g : Int → Int → V} (c : C i j) (k : Q (g i j) H) : rI C g (.int i) (.int j) H Q := ⟨i, j, rfl, rfl, c, k⟩
theorem w_modG (c : 0 < j) (k : ∀ r, 0 ≤ r → r < j → Q (.int r) H) : rMod (.int i) (.int j) H Q := ⟨i, j, rfl, rfl, c, k _ (Int.emod_nonneg _ (by omega)) (Int.emod_lt_of_pos _ c)⟩
theorem w_modE (c : 0 < j) (k : Q (.int (i % j)) H) : rMod (.int i) (.int j) H Q := ⟨i, j, rfl, rfl, c, k⟩
theorem w_un {r : V → Hp → VK → Prop} (k : ta σ H fun x H1 => r x H1 Q) : tUn r ta σ H Q := k
theorem w_u {g : Int → V} (k : Q (g i) H) : rU g (.int i) H Q := ⟨i, rfl, k⟩
theorem w_eq (k : Q (.bl (decide (i = j))) H) : rEq (.int i) (.int j) H Q := ⟨rfl, by
  have e : decide (V.int i = V.int j) = decide (i = j) := by simp
  rw [e]; exact k⟩
theorem w_ne (k : Q (.bl (decide (i ≠ j))) H) : rNe (.int i) (.int j) H Q := ⟨rfl, by
  have e : (!decide (V.int i = V.int j)) = decide (i ≠ j) := by simp
  rw [e]; exact k⟩
theorem w_eqB {a b : Bool} (k : Q (.bl (decide (a = b))) H) : rEq (.bl a) (.bl b) H Q := ⟨rfl, by
  have e : decide (V.bl a = V.bl b) = decide (a = b) := by simp
  rw [e]; exact k⟩
theorem w_neB {a b : Bool} (k : Q (.bl (decide (a ≠ b))) H) : rNe (.bl a) (.bl b) H Q := ⟨rfl, by
  have e : (!decide (V.bl a = V.bl b)) = decide (a ≠ b) := by simp
  rw [e]; exact k⟩
theorem w_test {R : Bool → Hp → Prop} (k : te σ H fun x H' => ∃ b, x = .bl b ∧ R b H') : tTest te σ H R := k
theorem w_tB {R : Bool → Hp → Prop} (k : te σ H fun x H' => ∃ b, x = .bl b ∧ R b H') : tB te σ H R := k
theorem w_isb {b : Bool} {R : Bool → Prop} (k : R b) : ∃ c, V.bl b = .bl c ∧ R c := ⟨b, rfl, k⟩
theorem w_and {R : Bool → Hp → Prop} (k : t σ H fun c H1 => if c = true then u σ H1 R else R false H1) : tAnd t u σ H R := k
theorem w_or {R : Bool → Hp → Prop} (k : t σ H fun c H1 => if c = true then R true H1 else u σ H1 R) : tOr t u σ H R := k
theorem w_not {R : Bool → Hp → Prop} (k : t σ H fun c H1 => R (!c) H1) : tNot t σ H R := k
theorem w_andV (k : ta σ H fun x H1 => ∃ c, x = .bl c ∧ if c = true then tb σ H1 Q else Q (.bl false) H1) : tAndV ta tb σ H Q := k
theorem w_orV (k : ta σ H fun x H1 => ∃ c, x = .bl c ∧ if c = true then Q (.bl true) H1 else tb σ H1 Q) : tOrV ta tb σ H Q := k
theorem w_notV (k : ta σ H fun x H1 => ∃ c, x = .bl c ∧ Q (.bl (!c)) H1) : tNotV ta σ H Q := k
theorem w_bex {b : Bool} {A B : Bool → Prop} (k : if b = true then A b else B b) : ∃ c, V.bl b = .bl c ∧ if c = true then A c else B c := ⟨b, rfl, k⟩
theorem w_ife (k : t σ H fun c H1 => if c = true then ta σ H1 Q else tb σ H1 Q) : tIf t ta tb σ H Q := k
theorem w_chain {r' : R2} {tc : TE} (k : ta σ H fun x H1 => tb σ H1 fun y H2 => r x y H2 fun z H3 => ∃ k, z = .bl k ∧ (if k = true then tc σ H3 fun w' H4 => r' y w' H4 Q else Q (.bl false) H3)) : tChain r r' ta tb tc σ H Q := k
theorem w_nil {R : List V → Hp → Prop} (k : R [] H) : tNil σ H R := k
theorem w_cons {tr : TA} {R : List V → Hp → Prop} (k : ta σ H fun x H1 => tr σ H1 fun xs H2 => R (x :: xs) H2) : tCons ta tr σ H R := k
theorem w_cb {r : List V → Hp → VK → Prop} {tr : TA} (k : tr σ H fun vs H1 => r vs H1 Q) : tCB r tr σ H Q := k
theorem w_call {sp : Sp} {dvs : List V} {E : XK} {tr : TA} (k : tr σ H fun vs H1 => sp (vs ++ dvs) H1 Q E) : tCall sp dvs E tr σ H Q := k
/-- statements -/
theorem w_seq (k : tr { D with nx := ts D } σ H) : tSeq tr ts D σ H := k
theorem w_next (k : D.nx σ H) : tNext D σ H := k
theorem w_asg {g : TG} (k : te σ H fun x H1 => g x σ H1 D.nx) : tAsg te g D σ H := k
theorem w_gname {n : Nat} {R : L2.St → Hp → Prop} (k : R (σ.set n (some v)) H) : gName n v σ H R := k
theorem w_par {n m : Nat} (k : trA σ H fun vs H1 => ∃ v w, vs = [v, w] ∧ D.nx ((σ.set n (some v)).set m (some w)) H1) : tPar n m trA D σ H := k
theorem w_two {A : V → V → Prop} (k : A v x) : ∃ a b, [v, x] = [a, b] ∧ A a b := ⟨v, x, rfl, k⟩
theorem w_gtup {K : PySem.W.Frag} {a : Addr} {xs : List V} {n : Nat} {g : TGs} {R : L2.St → Hp → Prop} (h : SqT K H a xs) (hl : xs.length = n) (k : g xs σ H R) : gTup K n g (.ref a) σ H R := ⟨a, xs, rfl, h, hl, k⟩
theorem w_gcons {xs : List V} {g : TG} {gs : TGs} {R : L2.St → Hp → Prop} (k : g v σ H fun σ' H' => gs xs σ' H' R) : gCons g gs (v :: xs) σ H R := ⟨v, xs, rfl, k⟩
theorem w_gnil {R : L2.St → Hp → Prop} (k : R σ H) : gNil [] σ H R := ⟨rfl, k⟩
theorem w_gsub {to ti : TE} {st : TSet} {R : L2.St → Hp → Prop} (k : to σ H fun o H1 => ti σ H1 fun i H2 => st o i v H2 fun H3 => R σ H3) : gSub to ti st v σ H R := k
theorem w_setL {p : Addr} {xs : List V} {n : Nat} {R : Hp → Prop} (h : H p = some (.lst xs)) (hj : ixN xs.length i = some n) (k : R (upd H p (.lst (xs.set n v)))) : rSetL (.ref p) (.int i) v H R := ⟨p, xs, i, n, rfl, rfl, h, hj, k⟩
theorem w_tup (k : trA σ H fun xs H1 => NewT xs H1 Q) : tTup trA σ H Q := k
theorem w_lst' (k : trA σ H fun xs H1 => NewL xs H1 Q) : tLst trA σ H Q := k
theorem w_ret (k : te σ H D.rt) : tRet te D σ H := k
theorem w_drop (k : te σ H fun _ H1 => D.nx σ H1) : tDrop te D σ H := k
theorem w_ifS (k : t σ H fun b H1 => if b = true then tr D σ H1 else ts D σ H1) : tIfS t tr ts D σ H := k
theorem w_if {b : Bool} {A B : Prop} (h1 : b = true → A) (h2 : b = false → B) : if b = true then A else B := by
  cases b with
  | true => rw [if_pos rfl]; exact h1 rfl
  | false => rw [if_neg Bool.false_ne_true]; exact h2 rfl
theorem w_ifd {c A B : Prop} [Decidable c] (h1 : c → A) (h2 : ¬ c → B) : if decide c = true then A else B := by
  by_cases h : c
  · rw [if_pos (decide_eq_true h)]; exact h1 h
  · rw [if_neg (by rw [decide_eq_false h]; exact Bool.false_ne_true)]; exact h2 h
theorem w_ifn {c A B : Prop} [Decidable c] (h1 : ¬ c → A) (h2 : c → B) : if (!decide c) = true then A else B := by
  by_cases h : c
  · rw [decide_eq_true h]; exact iteF (h2 h)
  · rw [decide_eq_false h]; exact iteT (h1 h)
theorem iteF' {b : Bool} {A B : Prop} (e : b = false) (h : B) : if b = true then A else B := by
  subst e
  exact iteF h
theorem iteT' {b : Bool} {A B : Prop} (e : b = true) (h : A) : if b = true then A else B := by
  subst e
  exact iteT h
theorem w_yes {c A B : Prop} [Decidable c] (h : c) (k : A) : if decide c = true then A else B := w_ifd (fun _ => k) fun z => absurd h z
theorem w_no {c A B : Prop} [Decidable c] (h : ¬ c) (k : B) : if decide c = true then A else B := w_ifd (fun z => absurd z h) fun _ => k
theorem w_nyes {c A B : Prop} [Decidable c] (h : ¬ c) (k : A) : if (!decide c) = true then A else B := w_ifn (fun _ => k) fun z => absurd z h
theorem w_nno {c A B : Prop} [Decidable c] (h : c) (k : B) : if (!decide c) = true then A else B := w_ifn (fun z => absurd h z) fun _ => k
end

theorem vq {Q : VK} {v v' : V} {H : Hp} (h : Q v H) (e : v = v') : Q v' H := e ▸ h
/-! ### heaps: all but the source at a is kept -/
structure Kp (a : Addr) (H H' : Hp) : Prop where
  un : ∀ b o [NT o], b ≠ a → H b = some o → H' b = some o
  tb : ∀ b, b ≠ a → GxR.TabG H b → GxR.TabG H' b
  fr : ∀ b, b ≠ a → H' b = none → H b = none
instance {a : Addr} {H H' : Hp} : CoeFun (Kp a H H') fun _ => ∀ b o [NT o], b ≠ a → H b = some o → H' b = some o := ⟨fun x => x.un⟩
theorem Kp.refl (a : Addr) (H : Hp) : Kp a H H := ⟨fun _ _ _ _ h => h, fun _ _ h => h, fun _ _ h => h⟩
theorem Kp.trans {a : Addr} {H H1 H2 : Hp} (x : Kp a H H1) (y : Kp a H1 H2) : Kp a H H2 := ⟨fun b o _ n h => y b o n (x b o n h), fun b n h => y.tb b n (x.tb b n h), fun b n h => x.fr b n (y.fr b n h)⟩
theorem Kp.of_same {a : Addr} {H H' : Hp} (x : Sm H H') : Kp a H H' := ⟨fun b o _ _ h => x b o h, fun b _ h => x.tb b h, fun b _ h => x.fr b h⟩
theorem tabG_upd {H : Hp} {p b : Addr} {o : HO} (h : b ≠ p) (q : GxR.TabG H b) : GxR.TabG (upd H p o) b := by
  obtain ⟨ps, hp, hq⟩ := q
  exact ⟨ps, by rw [upd_ne h]; exact hp, hq⟩
theorem tabG_ne {H : Hp} {p b : Addr} (h : H p = none) (q : GxR.TabG H b) : b ≠ p := fun z => by
  obtain ⟨ps, hp, hq⟩ := q
  rw [z, h] at hp
  cases hp
theorem tabG_nt {H : Hp} {p b : Addr} {o : HO} [n : NT o] (h : H p = some o) (q : GxR.TabG H b) : b ≠ p := fun z => by
  obtain ⟨ps, hp, hq⟩ := q
  rw [z, h] at hp
  cases hp
  exact n.ne ps rfl
theorem fr_upd {H : Hp} {p b : Addr} {o : HO} (q : upd H p o b = none) : b ≠ p ∧ H b = none := by
  by_cases z : b = p
  · rw [z, upd_same] at q
    cases q
  · rw [upd_ne z] at q
    exact ⟨z, q⟩
theorem same_upd {H : Hp} {p : Addr} {o : HO} (h : H p = none) : Sm H (upd H p o) := ⟨fun b x _ e => by
  rw [upd_ne (ne_of_none e h)]
  exact e, fun b q => tabG_upd (tabG_ne h q) q, fun b q => (fr_upd q).2⟩
theorem sm_upd {H H1 : Hp} {p : Addr} {o : HO} (e : Sm H H1) (h : H p = none) : Sm H (upd H1 p o) := ⟨fun b x _ q => by
  rw [upd_ne (ne_of_none q h)]
  exact e _ _ q, fun b q => tabG_upd (tabG_ne h q) (e.tb b q), fun b q => e.fr b (fr_upd q).2⟩
/-- a list, a tuple that is not the source -/
structure Lst (a : Addr) (H : Hp) (p : Addr) (xs : List V) : Prop where
  ne : p ≠ a
  at_ : H p = some (.lst xs)
structure Tup (a : Addr) (H : Hp) (p : Addr) (xs : List V) : Prop where
  ne : p ≠ a
  at_ : H p = some (.tup xs)
theorem Lst.go {a : Addr} {H H' : Hp} {p : Addr} {xs : List V} (h : Lst a H p xs) (g : Kp a H H') : Lst a H' p xs := ⟨h.ne, g p _ h.ne h.at_⟩
theorem Tup.go {a : Addr} {H H' : Hp} {p : Addr} {xs : List V} (h : Tup a H p xs) (g : Kp a H H') : Tup a H' p xs := ⟨h.ne, g p _ h.ne h.at_⟩
theorem Lst.sq {K : PySem.W.Frag} {a : Addr} {H : Hp} {p : Addr} {xs : List V} (h : Lst a H p xs) : SqL K H p xs := .inl (.inl h.at_)
theorem Tup.sq {K : PySem.W.Frag} {a : Addr} {H : Hp} {p : Addr} {xs : List V} (h : Tup a H p xs) : SqT K H p xs := .inl (.inl h.at_)
/-- a source: three numbers in a list; N bounds how often it was drawn from anew -/
def LIM : Int := 1000000000000
@[irreducible] def BIG : Int := 2 ^ 2000
theorem big_abs {b : Int} (h0 : 0 < b) (h : b < BIG) : b.natAbs < 2 ^ 2000 := by
  unfold BIG at h
  exact n_abs h0 h
theorem div_big {i b : Int} (h0 : 0 < b) (h : b < BIG) : CDivW i (2 * b) := by
  have e := big_abs h0 h
  refine wide_div (b := 2001) (by omega) ?_ (by decide) (by decide)
  rw [Int.natAbs_mul, Nat.pow_succ, Nat.mul_comm]
  exact Nat.mul_lt_mul_of_pos_right e (by decide)
def Src (a : Addr) (N : Int) (H : Hp) : Prop := ∃ c0 c1 c2 : Int, H a = some (.lst [.int c0, .int c1, .int c2]) ∧ 0 ≤ c0 ∧ 0 ≤ c1 ∧ c1 < 2 ^ 200 ∧ 0 ≤ c2 ∧ c2 ≤ N
theorem Src.ne {a : Addr} {N : Int} {H : Hp} (s : Src a N H) {p : Addr} (hp : H p = none) : p ≠ a := fun e => by
  obtain ⟨c0, c1, c2, h, _⟩ := s
  rw [e, h] at hp
  cases hp
theorem Src.same {a : Addr} {N : Int} {H H' : Hp} (s : Src a N H) (g : Sm H H') : Src a N H' := by
  obtain ⟨c0, c1, c2, h, r⟩ := s
  exact ⟨c0, c1, c2, g _ _ h, r⟩
theorem Src.mono {a : Addr} {N M : Int} {H : Hp} (s : Src a N H) (h : N ≤ M) : Src a M H := by
  obtain ⟨c0, c1, c2, h0, h1, h2, h3, h4, h5⟩ := s
  exact ⟨c0, c1, c2, h0, h1, h2, h3, h4, by omega⟩
theorem same_kp {H H' H2 : Hp} {q : Addr} (e : Sm H H') (hq : H q = none) (g : Kp q H' H2) : Sm H H2 := ⟨fun b o _ h => g b o (ne_of_none h hq) (e b o h), fun b h => g.tb b (tabG_ne hq h) (e.tb b h), fun b h => by
  by_cases z : b = q
  · rw [z]; exact hq
  · exact e.fr b (g.fr b z h)⟩
def spLaw (K : PySem.W.Frag) : Sp := fun vs H Q _ => ∃ (a : Addr) (ns : List Int), vs = [.ref a] ∧ SqL K H a (ns.map V.int) ∧ ns.length ≤ 63 ∧ ∀ H', Q (.bl true) H'
theorem kp_free {a p : Addr} {H H' : Hp} (g : Kp a H H') (hp : H' p = none) (n : p ≠ a) : H p = none := g.fr p n hp
/-- all but two are kept -/
structure Kp2 (a p : Addr) (H H' : Hp) : Prop where
  un : ∀ b o [NT o], b ≠ a → b ≠ p → H b = some o → H' b = some o
  tb : ∀ b, b ≠ a → b ≠ p → GxR.TabG H b → GxR.TabG H' b
  fr : ∀ b, b ≠ a → b ≠ p → H' b = none → H b = none
instance {a p : Addr} {H H' : Hp} : CoeFun (Kp2 a p H H') fun _ => ∀ b o [NT o], b ≠ a → b ≠ p → H b = some o → H' b = some o := ⟨fun x => x.un⟩
theorem Kp2.refl (a p : Addr) (H : Hp) : Kp2 a p H H := ⟨fun _ _ _ _ _ h => h, fun _ _ _ h => h, fun _ _ _ h => h⟩
theorem Kp2.go {a p : Addr} {H H1 H2 : Hp} (x : Kp2 a p H H1) (g : Kp a H1 H2) : Kp2 a p H H2 := ⟨fun b o _ n m h => g b o n (x b o n m h), fun b n m h => g.tb b n (x.tb b n m h), fun b n m h => x.fr b n m (g.fr b n h)⟩
theorem Kp2.upd {a p : Addr} {H H1 : Hp} {o : HO} (x : Kp2 a p H H1) : Kp2 a p H (upd H1 p o) := ⟨fun b u _ n m h => by
  rw [upd_ne m]
  exact x b u n m h, fun b n m h => tabG_upd m (x.tb b n m h), fun b n m h => x.fr b n m (fr_upd h).2⟩
theorem Kp2.out {a p : Addr} {H0 H H1 : Hp} (x : Kp2 a p H H1) (g : Kp a H0 H) (hp : H0 p = none) : Kp a H0 H1 := ⟨fun b o _ n h => x b o n (ne_of_none h hp) (g b o n h), fun b n h => x.tb b n (tabG_ne hp h) (g.tb b n h), fun b n h => by
  by_cases z : b = p
  · rw [z]; exact hp
  · exact g.fr b n (x.fr b n z h)⟩
theorem Src.upd {a p : Addr} {N : Int} {H : Hp} {o : HO} (s : Src a N H) (h : p ≠ a) : Src a N (upd H p o) := by
  obtain ⟨c0, c1, c2, h0, r⟩ := s
  exact ⟨c0, c1, c2, by rw [upd_ne (Ne.symm h)]; exact h0, r⟩
/-! ### new objects -/
section
variable {H : Hp} {Q : VK} {xs : List V} {a : Addr} {N : Int}
theorem w_new (k : ∀ p H', Sm H H' → H p = none → H' p = some (.lst xs) → Q (.ref p) H') (hz : xs.length ≤ 1000000 := by first | decide | (simp only [List.length_cons, List.length_nil]; decide)) : NewL xs H Q :=
  ⟨Nat.le_trans hz (by decide), fun p hp => k p _ (same_upd hp) hp upd_same⟩
theorem w_newT (k : ∀ p H', Sm H H' → H p = none → H' p = some (.tup xs) → Q (.ref p) H') (hz : xs.length ≤ 1000000 := by first | decide | (simp only [List.length_cons, List.length_nil]; decide)) : NewT xs H Q :=
  ⟨Nat.le_trans hz (by decide), fun p hp => k p _ (same_upd hp) hp upd_same⟩
theorem w_newS (s : Src a N H) (k : ∀ p H', Kp a H H' → Src a N H' → Lst a H' p xs → Q (.ref p) H') (hz : xs.length ≤ 1000000 := by first | decide | (simp only [List.length_cons, List.length_nil]; decide)) : NewL xs H Q :=
  ⟨Nat.le_trans hz (by decide), fun p hp => k p _ (.of_same (same_upd hp)) (s.same (same_upd hp)) ⟨s.ne hp, upd_same⟩⟩
theorem w_newTS (s : Src a N H) (k : ∀ p H', Kp a H H' → Src a N H' → Tup a H' p xs → Q (.ref p) H') (hz : xs.length ≤ 1000000 := by first | decide | (simp only [List.length_cons, List.length_nil]; decide)) : NewT xs H Q :=
  ⟨Nat.le_trans hz (by decide), fun p hp => k p _ (.of_same (same_upd hp)) (s.same (same_upd hp)) ⟨s.ne hp, upd_same⟩⟩
end
theorem kp_upd {a : Addr} {H : Hp} {o : HO} : Kp a H (upd H a o) := ⟨fun b x _ n h => by rw [upd_ne n]; exact h, fun b n q => tabG_upd n q, fun b n q => (fr_upd q).2⟩
/-! ### promises of defs of ints -/
def Sp1 (pre : Int → Prop) (f : Int → V) : Sp := fun vs H Q _ => ∃ i, vs = [.int i] ∧ pre i ∧ ∀ H', Sm H H' → Q (f i) H'
def Sp2 (pre : Int → Int → Prop) (f : Int → Int → V) : Sp := fun vs H Q _ => ∃ i j, vs = [.int i, .int j] ∧ pre i j ∧ ∀ H', Sm H H' → Q (f i j) H'
def Sp3 (pre : Int → Int → Int → Prop) (f : Int → Int → Int → V) : Sp := fun vs H Q _ => ∃ i j k, vs = [.int i, .int j, .int k] ∧ pre i j k ∧ ∀ H', Sm H H' → Q (f i j k) H'
def Sp4 (pre : Int → Int → Int → Int → Prop) (f : Int → Int → Int → Int → V) : Sp := fun vs H Q _ => ∃ i j k l, vs = [.int i, .int j, .int k, .int l] ∧ pre i j k l ∧ ∀ H', Sm H H' → Q (f i j k l) H'
theorem Sp1.len {pre f vs H Q E} (h : Sp1 pre f vs H Q E) : vs.length = 1 := by obtain ⟨_, rfl, _⟩ := h; rfl
theorem Sp2.len {pre f vs H Q E} (h : Sp2 pre f vs H Q E) : vs.length = 2 := by obtain ⟨_, _, rfl, _⟩ := h; rfl
theorem Sp3.len {pre f vs H Q E} (h : Sp3 pre f vs H Q E) : vs.length = 3 := by obtain ⟨_, _, _, rfl, _⟩ := h; rfl
theorem Sp4.len {pre f vs H Q E} (h : Sp4 pre f vs H Q E) : vs.length = 4 := by obtain ⟨_, _, _, _, rfl, _⟩ := h; rfl
section
variable {H : Hp} {Q : VK} {E : XK} {i j k l : Int}
theorem w_sp1 {pre : Int → Prop} {f : Int → V} (p : pre i) (q : ∀ H', Sm H H' → Q (f i) H') : Sp1 pre f ([.int i] ++ []) H Q E := ⟨i, rfl, p, q⟩
theorem w_sp2 {pre : Int → Int → Prop} {f : Int → Int → V} (p : pre i j) (q : ∀ H', Sm H H' → Q (f i j) H') : Sp2 pre f ([.int i, .int j] ++ []) H Q E := ⟨i, j, rfl, p, q⟩
theorem w_sp3 {pre : Int → Int → Int → Prop} {f : Int → Int → Int → V} (p : pre i j k) (q : ∀ H', Sm H H' → Q (f i j k) H') : Sp3 pre f ([.int i, .int j, .int k] ++ []) H Q E := ⟨i, j, k, rfl, p, q⟩
theorem w_sp4 {pre : Int → Int → Int → Int → Prop} {f : Int → Int → Int → Int → V} (p : pre i j k l) (q : ∀ H', Sm H H' → Q (f i j k l) H') : Sp4 pre f ([.int i, .int j, .int k, .int l] ++ []) H Q E := ⟨i, j, k, l, rfl, p, q⟩
end
/-- a draw -/
def SpDraw : Sp := fun vs H Q _ => ∃ (a : Addr) (N b : Int), vs = [.ref a, .int b] ∧ Src a N H ∧ 0 < b ∧ b < BIG ∧ N < LIM ∧ ∀ r H', 0 ≤ r → r < b → Kp a H H' → Src a (N + 1) H' → Q (.int r) H'
theorem SpDraw.len {vs H Q E} (h : SpDraw vs H Q E) : vs.length = 2 := by obtain ⟨_, _, _, rfl, _⟩ := h; rfl
theorem w_draw {H : Hp} {Q : VK} {E : XK} {a : Addr} {N b : Int} (s : Src a N H) (hb : 0 < b) (hb2 : b < BIG) (hN : N < LIM) (k : ∀ r H', 0 ≤ r → r < b → Kp a H H' → Src a (N + 1) H' → Q (.int r) H') : SpDraw ([.ref a, .int b] ++ []) H Q E :=
  ⟨a, N, b, rfl, s, hb, hb2, hN, k⟩
/-- a source made -/
def SpSource (K : PySem.W.Frag) : Sp := fun vs H Q _ => ∃ (p : Addr) (ns : List Int) (k : Int), vs = [.ref p, .int k] ∧ SqL K H p (ns.map V.int) ∧ 0 ≤ k ∧ k < 1000 ∧ ∀ a H', H a = none → Sm H H' → Src a 0 H' → Q (.ref a) H'
theorem w_source {K : PySem.W.Frag} {H : Hp} {Q : VK} {E : XK} {p : Addr} {ns : List Int} {k : Int} (h : SqL K H p (ns.map V.int)) (h0 : 0 ≤ k) (h1 : k < 1000) (q : ∀ a H', H a = none → Sm H H' → Src a 0 H' → Q (.ref a) H') : SpSource K ([.ref p, .int k] ++ []) H Q E := ⟨p, ns, k, rfl, h, h0, h1, q⟩
def SpCell (K : PySem.W.Frag) : Sp := fun vs H Q _ => ∃ (p : Addr) (ns : List Int) (k : Int), vs = [.ref p, .int k] ∧ SqL K H p (ns.map V.int) ∧ 0 ≤ k ∧ ∀ (c : Int) H', Sm H H' → Q (.int c) H'
theorem w_cell {K : PySem.W.Frag} {H : Hp} {Q : VK} {E : XK} {p : Addr} {ns : List Int} {k : Int} (h : SqL K H p (ns.map V.int)) (h0 : 0 ≤ k) (q : ∀ (c : Int) H', Sm H H' → Q (.int c) H') : SpCell K ([.ref p, .int k] ++ []) H Q E := ⟨p, ns, k, rfl, h, h0, q⟩
def SpSourceB : Sp := fun vs H Q _ => ∃ (c k : Int), vs = [.int c, .int k] ∧ 0 ≤ k ∧ k < 1000 ∧ ∀ a H', H a = none → Sm H H' → Src a 0 H' → Q (.ref a) H'
theorem w_sourceB {H : Hp} {Q : VK} {E : XK} {c k : Int} (h0 : 0 ≤ k) (h1 : k < 1000) (q : ∀ a H', H a = none → Sm H H' → Src a 0 H' → Q (.ref a) H') : SpSourceB ([.int c, .int k] ++ []) H Q E := ⟨c, k, rfl, h0, h1, q⟩
/-! lists read -/
section
variable {K : PySem.W.Frag} {H : Hp} {Q : VK} {p : Addr} {xs : List V} {i : Int} {v : V}
theorem w_ixL (h : SqL K H p xs) (ha : atI xs i = some v) (k : Q v H) : rIxL K (.ref p) (.int i) H Q := ⟨p, xs, i, v, rfl, rfl, h, ha, k⟩
theorem w_ixT (h : SqT K H p xs) (ha : atI xs i = some v) (k : Q v H) : rIxT K (.ref p) (.int i) H Q := ⟨p, xs, i, v, rfl, rfl, h, ha, k⟩
theorem w_len (h : SqL K H p xs) (k : Q (.int xs.length) H) : (fun (xs : List V) H Q => ∃ p ys, xs = [V.ref p] ∧ (SqL K H p ys ∨ SqT K H p ys) ∧ Q (.int ys.length) H) [.ref p] H Q := ⟨p, xs, rfl, .inl h, k⟩
end
section
variable {K : PySem.W.Frag} {H : Hp} {Q : VK} {p q a : Addr} {N : Int} {xs ys : List V} {i : Int}
theorem w_catS (s : Src a N H) (h1 : Lst a H p xs) (h2 : Lst a H q ys) (k : ∀ r H', Kp a H H' → Src a N H' → Lst a H' r (xs ++ ys) → Q (.ref r) H') (hz : xs.length + ys.length ≤ 1000000 := by first | decide | (simp only [List.length_cons, List.length_nil]; decide)) : rCat (.ref p) (.ref q) H Q :=
  ⟨p, q, xs, ys, rfl, rfl, h1.at_, h2.at_, Nat.le_trans hz (by decide), fun r hr => k r _ (.of_same (same_upd hr)) (s.same (same_upd hr)) ⟨s.ne hr, upd_same⟩⟩
theorem w_repS (s : Src a N H) (h1 : Lst a H p xs) (k : ∀ r H', Kp a H H' → Src a N H' → Lst a H' r (List.replicate i.toNat xs).flatten → Q (.ref r) H') (h0 : -(2 ^ 63) ≤ i := by decide) (h3 : i < 2 ^ 63 := by decide) (hz : xs.length * i.toNat ≤ 1000000 := by first | decide | (simp only [List.length_cons, List.length_nil]; decide)) : rRep (.ref p) (.int i) H Q :=
  ⟨p, i, xs, rfl, rfl, h1.at_, h0, h3, Nat.le_trans hz (by decide), fun r hr => k r _ (.of_same (same_upd hr)) (s.same (same_upd hr)) ⟨s.ne hr, upd_same⟩⟩
end
/-- an item at a drawn place -/
theorem pick {α : Type} {xs : List α} {r : Int} (h0 : 0 ≤ r) (h1 : r < (xs.length : Int)) : ∃ v, v ∈ xs ∧ atI xs r = some v := by
  obtain ⟨n, rfl⟩ := Int.eq_ofNat_of_zero_le h0
  have hn : n < xs.length := by omega
  exact ⟨xs[n], List.getElem_mem hn, atI_nat (List.getElem?_eq_getElem hn)⟩
theorem pickI {xs : List Int} {r : Int} (P : Int → Prop) (h0 : 0 ≤ r) (h1 : r < (xs.length : Int)) (hP : ∀ m ∈ xs, P m) : ∃ m, atI (xs.map V.int) r = some (.int m) ∧ P m := by
  obtain ⟨v, hv, e⟩ := pick (xs := xs.map V.int) h0 (by simpa using h1)
  obtain ⟨m, hm, rfl⟩ := List.mem_map.mp hv
  exact ⟨m, e, hP m hm⟩
/-! and of bits -/
section
variable {X : Cx}
theorem op_and1 : OpR X (binaryOp .BitAnd) (rI (fun i j => 0 ≤ i ∧ j = 1) fun i j => .int (i % 2)) := by
  intro pins s σ H x y v u Q I rx ry h
  obtain ⟨i, j, rfl, rfl, ⟨hi, rfl⟩, q⟩ := h
  exact op_andM pins s σ H (.int i) (.int 1) v u Q I rx ry ⟨i, 1, rfl, rfl, by simpa using q⟩
end
/-! built-ins by named readings -/
def rMax2 : List V → Hp → VK → Prop := fun xs H Q => ∃ i j, xs = [.int i, .int j] ∧ Q (.int (if j > i then j else i)) H
def rMin2 : List V → Hp → VK → Prop := fun xs H Q => ∃ i j, xs = [.int i, .int j] ∧ Q (.int (if j < i then j else i)) H
def rAbs : List V → Hp → VK → Prop := fun xs H Q => ∃ i, xs = [.int i] ∧ Q (.int (if i < 0 then -i else i)) H
def rLen (K : PySem.W.Frag) : List V → Hp → VK → Prop := fun xs H Q => ∃ p ys, xs = [.ref p] ∧ (SqL K H p ys ∨ SqT K H p ys) ∧ Q (.int ys.length) H
section
variable {X : Cx}
theorem c_max2 (hc : X.calm = true) : CallR X (.builtin "max") rMax2 := call_max2 hc
theorem c_min2 (hc : X.calm = true) : CallR X (.builtin "min") rMin2 := call_min2 hc
theorem c_abs : CallR X (.builtin "abs") rAbs := call_abs
theorem c_len : CallR X (.builtin "len") (rLen X.K) := call_len_seq
end
section
variable {K : PySem.W.Frag} {H : Hp} {Q : VK} {p : Addr} {xs : List V} {i j : Int}
theorem w_max2 (k : Q (.int (max i j)) H) : rMax2 [.int i, .int j] H Q := ⟨i, j, rfl, by
  have e : (if j > i then j else i) = max i j := by split <;> omega
  rw [e]; exact k⟩
theorem w_min2 (k : Q (.int (min i j)) H) : rMin2 [.int i, .int j] H Q := ⟨i, j, rfl, by
  have e : (if j < i then j else i) = min i j := by split <;> omega
  rw [e]; exact k⟩
theorem w_abs (k : Q (.int (i.natAbs : Int)) H) : rAbs [.int i] H Q := ⟨i, rfl, by
  have e : (if i < 0 then -i else i) = (i.natAbs : Int) := by split <;> omega
  rw [e]; exact k⟩
theorem w_lenL (h : SqL K H p xs) (k : Q (.int xs.length) H) : rLen K [.ref p] H Q := ⟨p, xs, rfl, .inl h, k⟩
theorem w_lenT (h : SqT K H p xs) (k : Q (.int xs.length) H) : rLen K [.ref p] H Q := ⟨p, xs, rfl, .inr h, k⟩
theorem w_isi_ii (k : Q (.bl true) H) : rIsi K [.int i, .ty "int"] H Q := ⟨_, _, _, _, true, rfl, .ty _, .base (.int i), kit_ty (by decide +kernel), k⟩
theorem w_isi_ib (k : Q (.bl false) H) : rIsi K [.int i, .ty "bool"] H Q := ⟨_, _, _, _, false, rfl, .ty _, .base (.int i), kit_ty (by decide +kernel), k⟩
end
@[irreducible] def p2 (k : Int) : Int := 2 ^ k.toNat
theorem p2_pos (k : Int) : 0 < p2 k := by
  unfold p2
  exact Int.pow_pos (by decide)
theorem p2_succ {k : Int} (h : 0 ≤ k) : p2 (k + 1) = 2 * p2 k := by
  unfold p2
  rw [show (k + 1).toNat = k.toNat + 1 by omega, Int.pow_succ]
  omega
theorem p2_zero : p2 0 = 1 := by
  unfold p2
  rfl
theorem p2_add {k l : Int} (h : 0 ≤ k) (h2 : 0 ≤ l) : p2 (k + l) = p2 k * p2 l := by
  unfold p2
  rw [show (k + l).toNat = k.toNat + l.toNat by omega, Int.pow_add]
theorem p2_lt {k l : Int} (h : 0 ≤ k) (h2 : k < l) : p2 k < p2 l := by
  unfold p2
  exact_mod_cast (Nat.pow_lt_pow_right (by decide : 1 < 2) (by omega : k.toNat < l.toNat))
theorem p2_le {k l : Int} (h2 : k ≤ l) : p2 k ≤ p2 l := by
  unfold p2
  exact_mod_cast (Nat.pow_le_pow_right (by decide : 0 < 2) (by omega : k.toNat ≤ l.toNat))

section
variable {X : Cx}
theorem op_shl1 : OpR X (binaryOp .LShift) (rI (fun i j => i = 1 ∧ 0 ≤ j ∧ j ≤ 100000) fun i j => .int (p2 j)) := by
  intro pins s σ H x y v u Q I rx ry h
  obtain ⟨i, j, rfl, rfl, ⟨rfl, h0, h1⟩, q⟩ := h
  exact op_shl pins s σ H (.int 1) (.int j) v u Q I rx ry ⟨1, j, rfl, rfl, ⟨h0, by omega, by decide⟩, by simpa [p2] using q⟩
theorem op_shrP : OpR X (binaryOp .RShift) (rI (fun _ j => 0 ≤ j) fun i j => .int (i / p2 j)) := by
  unfold p2
  exact op_shr
end
/-! loops over ranges -/
def Loop (J : It) (g : TG) (tb : TS) (D : Ends) (σ : L2.St) (H1 : Hp) : Prop := ∃ W : Nat → Nat → L2.St → Hp → Prop, (∃ m, W 0 m σ H1) ∧ ∀ i m σ H, W i m σ H →
  (J.stop i H ∧ D.nx σ H) ∨ (J.go i H ∧ ∃ N : L2.St → Hp → Prop, (∀ σ' H', N σ' H' → ∃ m', m' < m ∧ W (i + 1) m' σ' H') ∧ ∀ x H', J.yld i H x H' → g x σ H' fun σ2 H2 => tb { D with nx := N, ct := N, bk := D.nx } σ2 H2)
section
variable {K : PySem.W.Frag} {σ : L2.St} {H : Hp} {D : Ends} {ta : TA} {tl : TE} {tb : TS} {j : Nat} {g : TG}
theorem w_for1 (k : ta σ H fun vs H1 => ∃ n : Int, vs = [.int n] ∧ -(2 ^ 62) ≤ n ∧ n < 2 ^ 62 ∧ Loop (Itr 0 n.toNat) g tb D σ H1) : tFor (iRng1 ta) g tb D σ H := k
theorem w_for2 (k : ta σ H fun vs H1 => ∃ i n : Int, vs = [.int i, .int n] ∧ (-(2 ^ 62) ≤ i ∧ i < 2 ^ 62 ∧ -(2 ^ 62) ≤ n ∧ n < 2 ^ 62) ∧ Loop (Itr i (n - i).toNat) g tb D σ H1) : tFor (iRng2 ta) g tb D σ H := k
theorem w_forL (k : tl σ H fun x H1 => ∃ a, x = .ref a ∧ (∃ xs, SqL K H1 a xs) ∧ Loop (Itl K a) g tb D σ H1) : tFor (iList K tl) g tb D σ H := k
theorem w_forT (k : tl σ H fun x H1 => ∃ a, x = .ref a ∧ (∃ xs, SqT K H1 a xs) ∧ Loop (Itt K a) g tb D σ H1) : tFor (iTup K tl) g tb D σ H := k
theorem w_rng1 {n : Int} (h1 : -(2 ^ 62) ≤ n) (h2 : n < 2 ^ 62) (Pv : Nat → L2.St → Hp → Prop) (h0 : Pv 0 σ H)
    (hs : ∀ (i : Nat) σ' H', (i : Int) < n → Pv i σ' H' → tb { D with nx := Pv (i + 1), ct := Pv (i + 1), bk := D.nx } (σ'.set j (some (.int (i : Int)))) H') (hd : ∀ σ' H', Pv n.toNat σ' H' → D.nx σ' H') :
    ∃ m : Int, [V.int n] = [.int m] ∧ -(2 ^ 62) ≤ m ∧ m < 2 ^ 62 ∧ Loop (Itr 0 m.toNat) (gName j) tb D σ H := by
  refine ⟨n, rfl, h1, h2, for_range (lo := 0) (n := n.toNat) Pv h0 (fun i σ' H' hi p => ?_) hd⟩
  have e0 : (0 : Int) + (i : Int) = (i : Int) := Int.zero_add _
  show tb { D with nx := Pv (i + 1), ct := Pv (i + 1), bk := D.nx } (σ'.set j (some (.int ((0 : Int) + (i : Int))))) H'
  rw [e0]
  exact hs i σ' H' (by omega) p
theorem w_rng2 {l n : Int} (h1 : -(2 ^ 62) ≤ l) (h2 : l < 2 ^ 62) (h3 : -(2 ^ 62) ≤ n) (h4 : n < 2 ^ 62) (Pv : Nat → L2.St → Hp → Prop) (h0 : Pv 0 σ H)
    (hs : ∀ (i : Nat) σ' H', l + (i : Int) < n → Pv i σ' H' → tb { D with nx := Pv (i + 1), ct := Pv (i + 1), bk := D.nx } (σ'.set j (some (.int (l + (i : Int))))) H') (hd : ∀ σ' H', Pv (n - l).toNat σ' H' → D.nx σ' H') :
    ∃ i m : Int, [V.int l, V.int n] = [.int i, .int m] ∧ (-(2 ^ 62) ≤ i ∧ i < 2 ^ 62 ∧ -(2 ^ 62) ≤ m ∧ m < 2 ^ 62) ∧ Loop (Itr i (m - i).toNat) (gName j) tb D σ H :=
  ⟨l, n, rfl, ⟨h1, h2, h3, h4⟩, for_range (lo := l) (n := (n - l).toNat) Pv h0 (fun i σ' H' hi p => hs i σ' H' (by omega) p) hd⟩
theorem w_lst {a : Addr} {xs : List V} (hx : SqL K H a xs) (Pv : Nat → L2.St → Hp → Prop) (h0 : Pv 0 σ H) (hl : ∀ i σ' H', i ≤ xs.length → Pv i σ' H' → SqL K H' a xs)
    (hs : ∀ i x σ' H', xs[i]? = some x → Pv i σ' H' → g x σ' H' fun σ2 H2 => tb { D with nx := Pv (i + 1), ct := Pv (i + 1), bk := D.nx } σ2 H2) (hd : ∀ σ' H', Pv xs.length σ' H' → D.nx σ' H') :
    ∃ b, V.ref a = .ref b ∧ (∃ xs, SqL K H b xs) ∧ Loop (Itl K b) g tb D σ H := ⟨a, rfl, ⟨xs, hx⟩, for_list Pv h0 hl hs hd⟩
/-- xs.append(e), xs a name -/
theorem w_app {i : Nat} {p : Addr} {te : TE} (h : σ[i]? = some (some (.ref p))) {ys : List V} (hy : H p = some (.lst ys)) (k : te σ H fun y H2 => ∃ xs, H2 p = some (.lst xs) ∧ xs.length < sizeLine ∧ D.nx σ (upd H2 p (.lst (xs ++ [y])))) :
    tDrop (tBM K "list" rAppend (tVar i) (tCons te tNil)) D σ H := by
  refine ⟨.ref p, h, .inl ⟨rfl, ys, .inl (.inl hy)⟩, ?_⟩
  have e : (fun y H2 => ∃ xs, H2 p = some (.lst xs) ∧ xs.length < sizeLine ∧ D.nx σ (upd H2 p (.lst (xs ++ [y])))) = (fun y (H2 : Hp) => rAppend (.ref p) [y] H2 fun _ H3 => D.nx σ H3) := by
    funext y H2
    refine propext ⟨fun ⟨xs, h1, h2, h3⟩ => ⟨p, xs, y, rfl, rfl, h1, h2, h3⟩, fun ⟨l, xs, z, e1, e2, h1, h2, h3⟩ => ?_⟩
    cases e1
    cases e2
    exact ⟨xs, h1, h2, h3⟩
  show te σ H fun y H2 => rAppend (.ref p) [y] H2 fun _ H3 => D.nx σ H3
  rw [← e]
  exact k
/-- while, by a word and a measure -/
theorem w_while {c : TT} (W : Nat → L2.St → Hp → Prop) (m0 : Nat) (h0 : W m0 σ H)
    (hs : ∀ m σ' H', W m σ' H' → c σ' H' fun b H1 => if b = true then ∃ N : L2.St → Hp → Prop, (∀ σ2 H2, N σ2 H2 → ∃ m', m' < m ∧ W m' σ2 H2) ∧ tb { D with nx := N, ct := N, bk := D.nx } σ' H1 else D.nx σ' H1) : tWhile c tb D σ H := ⟨W, ⟨m0, h0⟩, hs⟩
end
end SC

set_option Elab.async false
set_option linter.all false
set_option maxRecDepth 100000
set_option maxHeartbeats 4000000
/-! More steps: keywords, comprehensions, == of lists, sorted, slices. -/
namespace SC
open PySem PySem.Spec PyProof.Rows L2

/-! ### a call by keywords alone -/
section
variable {X : Cx} {CX : CXT} {k n : Nat} {f : Addr} {fd : FuncData} {ps ks : List Str} {sp : Sp} {E : XK} {x : Str} {p pos : Pos} {kws : List Keyword} {t tk : TA} {g : List Value → List Value → List Value} {gV : List V → List V → List V}
theorem pe_callN0 (F : FnOk X.prog X.w X.K X.mg X.base CX k f fd ps sp) (hr : Room k X.A) (hg : Gl X x) (hm : X.mg x = some (.ref f)) (hk : PySem.W.keepIn X.K (.ref f) = true) (hb : KBn X.K fd ps 0 ks g gV) (hx : Passes CX X E)
    (hkw : PK X kws tk) (hall : (backToKw pos (keywordEach kws X.env)).all (·.1.isSome) = true := by rfl) (hks : (backToKw pos (keywordEach kws X.env)).filterMap (·.1) = ks := by rfl)
    (hdb : (x == ("__debug__" : Str)) = false := by decide)
    (hpl : ((backTo pos (starEach [] X.env)).any (·.1) || (backToKw pos (keywordEach kws X.env)).any (·.1.isNone)) = false := by rfl) :
    PE X (.Call (.Name x p) [] kws pos) (tCallN 0 ks.length sp gV E tNil tk) := by
  refine ⟨fun pins s σ H Q I h => ?_⟩
  refine wpAny_Call_Name_kw (ld_glob I hg hm ?_ hdb)
  refine PySem.W.callWith_KW0 (h₀ := X.base) I.ok.mod.kin hk hall ?_ hpl
  refine thn (hkw.run pos pins s σ H _ I h) fun ws s2 ⟨zs, H2, I2, rz, l1, l2, q2⟩ => ⟨I2.kIn, ?_⟩
  rw [hks]
  exact run_fnN (us := []) F hr hb hx I2 .nil rz l1 l2 q2
end
/-- the values by their places among the given ones -/
def pickBy {A : Type} (d : A) (idx : List Nat) (us ws : List A) : List A := idx.map fun i => (us ++ ws).getD i d
theorem vals_getD : ∀ {xs : List V} {us : List Value} (i : Nat), Vals xs us → RelV (xs.getD i .non) (us.getD i .none)
  | [], _, i, .nil => by simp only [List.getD_nil]; exact rfl
  | x :: xs, u :: us, 0, .cons r _ => r
  | x :: xs, u :: us, i + 1, .cons _ r => by
    simp only [List.getD_cons_succ]
    exact vals_getD i r
theorem vals_pick {vs zs : List V} {us ws : List Value} (r : Vals vs us) (rz : Vals zs ws) : ∀ idx : List Nat, Vals (pickBy .non idx vs zs) (pickBy .none idx us ws)
  | [] => .nil
  | i :: idx => .cons (vals_getD i (r.append rz)) (vals_pick r rz idx)
section
variable {σ : L2.St} {H : Hp} {Q : VK} {t tk : TA} {sp : Sp} {E : XK} {n m : Nat} {gV : List V → List V → List V}
def CallN (n m : Nat) (sp : Sp) (gV : List V → List V → List V) (E : XK) (vs zs : List V) (H : Hp) (Q : VK) : Prop := vs.length = n ∧ zs.length = m ∧ sp (gV vs zs) H Q E
theorem w_callN (k : t σ H fun vs H1 => tk σ H1 fun zs H2 => CallN n m sp gV E vs zs H2 Q) : tCallN n m sp gV E t tk σ H Q := k
theorem w_kw {vs zs ws : List V} (hg : gV vs zs = ws) (k : sp (ws ++ []) H Q E) (h1 : vs.length = n := by rfl) (h2 : zs.length = m := by rfl) : CallN n m sp gV E vs zs H Q := ⟨h1, h2, by rw [hg]; rw [List.append_nil] at k; exact k⟩
end

theorem at_int {ns : List Int} {i : Nat} {x : V} (h : (ns.map V.int)[i]? = some x) : ∃ z, ns[i]? = some z ∧ x = V.int z := by
  rw [List.getElem?_map] at h
  cases e : ns[i]? with
  | none => rw [e] at h; cases h
  | some z => rw [e] at h; exact ⟨z, rfl, (Option.some.inj h).symm⟩
/-! ### data -/
theorem dp_ints {K : PySem.W.Frag} {H : Hp} : ∀ ns : List Int, DpAll K H (ns.map V.int) (ns.map PyData.int)
  | [] => .nil
  | n :: ns => .cons (.int n) (dp_ints ns)
theorem lay_ints : ∀ ns : List Int, PyData.canLayAll0 (ns.map PyData.int) = true
  | [] => rfl
  | n :: ns => by simp only [List.map_cons, PyData.canLayAll0, PyData.canLay0, lay_ints ns, Bool.and_self]
theorem dep_ints : ∀ ns : List Int, PyData.depthAll (ns.map PyData.int) ≤ 1
  | [] => by simp [PyData.depthAll]
  | n :: ns => by
    have := dep_ints ns
    simp only [List.map_cons, PyData.depthAll, PyData.depth]
    omega
theorem shaped_ints (ns : List Int) : SeqAt.shaped (.list (ns.map PyData.int)) = true := by
  unfold SeqAt.shaped
  have h1 := lay_ints ns
  have h2 := dep_ints ns
  rw [Bool.and_eq_true]
  refine ⟨by simpa only [PyData.canLay0] using h1, decide_eq_true ?_⟩
  simp only [PyData.depth]
  omega
section
variable {K : PySem.W.Frag} {H : Hp} {Q : VK} {p q : Addr} {xs ys : List Int} {v u : V} {d : PyData}
theorem eqv_ints (ns : List Int) : PyData.eqv (.list (ns.map PyData.int)) (.list (ns.map PyData.int)) = true := SeqAt.eqv_refl _ (SeqAt.canLay_of_shaped (shaped_ints ns))
/-- two equal lists of ints -/
theorem w_eqLs (h1 : SqL K H p (xs.map V.int)) (h2 : SqL K H q (ys.map V.int)) (e : xs = ys) (k : Q (.bl true) H) : rEqD K (.ref p) (.ref q) H Q := by
  subst e
  refine ⟨_, _, .lst h1 (dp_ints xs), .lst h2 (dp_ints xs), shaped_ints _, shaped_ints _, ?_⟩
  rw [eqv_ints]
  exact k
theorem w_neLs (h1 : SqL K H p (xs.map V.int)) (h2 : SqL K H q (ys.map V.int)) (e : xs = ys) (k : Q (.bl false) H) : rNeD K (.ref p) (.ref q) H Q := by
  subst e
  refine ⟨_, _, .lst h1 (dp_ints xs), .lst h2 (dp_ints xs), shaped_ints _, shaped_ints _, ?_⟩
  rw [eqv_ints]
  exact k
theorem w_eqDs (h1 : Dp K H v d) (h2 : Dp K H u d) (sh : SeqAt.shaped d = true) (k : Q (.bl true) H) : rEqD K v u H Q := by
  refine ⟨_, _, h1, h2, sh, sh, ?_⟩
  rw [SeqAt.eqv_refl _ (SeqAt.canLay_of_shaped sh)]
  exact k
theorem w_neDs (h1 : Dp K H v d) (h2 : Dp K H u d) (sh : SeqAt.shaped d = true) (k : Q (.bl false) H) : rNeD K v u H Q := by
  refine ⟨_, _, h1, h2, sh, sh, ?_⟩
  rw [SeqAt.eqv_refl _ (SeqAt.canLay_of_shaped sh)]
  exact k
end
/-! ### comprehensions -/
def LcB (J : It) (g : TG) (tt : TT) (te : TE) (vs : List Nat) (σ : L2.St) (H1 : Hp) (Q : VK) : Prop := ∀ D, H1 D = none → ∃ W : Nat → Nat → Hp → Prop, (∃ m, W 0 m (upd H1 D (.lst []))) ∧ ∀ i m H, W i m H →
  (J.stop i H ∧ Q (.ref D) H) ∨ (J.go i H ∧ ∃ Nx : Hp → Prop, (∀ H', Nx H' → ∃ m', m' < m ∧ W (i + 1) m' H') ∧ ∀ x H', J.yld i H x H' → g x (wipe σ vs) H' fun σ2 H2 => wipe σ2 vs = wipe σ vs ∧ tt σ2 H2 fun b H3 =>
    if b = true then te σ2 H3 fun y H4 => ∃ acc, H4 D = some (.lst acc) ∧ acc.length < sizeLine ∧ Nx (upd H4 D (.lst (acc ++ [y]))) else Nx H3)
section
variable {K : PySem.W.Frag} {σ : L2.St} {H : Hp} {Q : VK} {ta : TA} {tl te : TE} {vs : List Nat} {j : Nat} {g : TG} {tt : TT}
theorem w_lc1 (k : ta σ H fun vs1 H1 => ∃ n : Int, vs1 = [.int n] ∧ -(2 ^ 62) ≤ n ∧ n < 2 ^ 62 ∧ LcB (Itr 0 n.toNat) g tt te vs σ H1 Q) : tLc (iRng1 ta) g tt te vs σ H Q := k
theorem w_lc2 (k : ta σ H fun vs1 H1 => ∃ i n : Int, vs1 = [.int i, .int n] ∧ (-(2 ^ 62) ≤ i ∧ i < 2 ^ 62 ∧ -(2 ^ 62) ≤ n ∧ n < 2 ^ 62) ∧ LcB (Itr i (n - i).toNat) g tt te vs σ H1 Q) : tLc (iRng2 ta) g tt te vs σ H Q := k
theorem w_lcL (k : tl σ H fun x H1 => ∃ a, x = .ref a ∧ (∃ xs, SqL K H1 a xs) ∧ LcB (Itl K a) g tt te vs σ H1 Q) : tLc (iList K tl) g tt te vs σ H Q := k
/-- over a range; what the element is, leaving all that was -/
theorem w_lcr1 {n : Int} (f : Nat → V) (h1 : 0 ≤ n) (h2 : n ≤ 1000000) (hw : ∀ x, wipe ((wipe σ vs).set j (some x)) vs = wipe σ vs)
    (he : ∀ (i : Nat) H', (i : Int) < n → Sm H H' → ∀ R : VK, (∀ H2, Sm H' H2 → R (f i) H2) → te ((wipe σ vs).set j (some (.int (i : Int)))) H' R)
    (k : ∀ p H', Sm H H' → H p = none → H' p = some (.lst ((List.range n.toNat).map f)) → Q (.ref p) H') :
    ∃ m : Int, [V.int n] = [.int m] ∧ -(2 ^ 62) ≤ m ∧ m < 2 ^ 62 ∧ LcB (Itr 0 m.toNat) (gName j) tYes te vs σ H Q := by
  refine ⟨n, rfl, by omega, by omega, fun D hD => ?_⟩
  refine lc_range (lo := 0) (n := n.toNat) (fun i H' => Sm H H' ∧ H' D = some (.lst ((List.range i).map f))) ⟨same_upd hD, upd_same⟩ (fun i H' hi p => ?_) (fun H' p => k D H' p.1 hD p.2)
  have e0 : (0 : Int) + (i : Int) = (i : Int) := Int.zero_add _
  show wipe ((wipe σ vs).set j (some (.int ((0 : Int) + (i : Int))))) vs = wipe σ vs ∧ te ((wipe σ vs).set j (some (.int ((0 : Int) + (i : Int))))) H' _
  rw [e0]
  refine ⟨hw _, he i H' (by omega) p.1 _ fun H2 s2 => ⟨_, s2 _ _ p.2, ?_, sm_upd (p.1.trans s2) hD, ?_⟩⟩
  · rw [List.length_map, List.length_range]
    exact Nat.lt_of_lt_of_le (show i < 1000000 by omega) (by decide)
  · rw [upd_same, List.range_succ, List.map_append]
    rfl
theorem w_lcr2 {l n : Int} (f : Nat → V) (h0 : -1000000 ≤ l) (h1 : l ≤ n) (h2 : n ≤ 1000000) (h3 : n - l ≤ 1000000) (hw : ∀ x, wipe ((wipe σ vs).set j (some x)) vs = wipe σ vs)
    (he : ∀ (i : Nat) H', l + (i : Int) < n → Sm H H' → ∀ R : VK, (∀ H2, Sm H' H2 → R (f i) H2) → te ((wipe σ vs).set j (some (.int (l + (i : Int))))) H' R)
    (k : ∀ p H', Sm H H' → H p = none → H' p = some (.lst ((List.range (n - l).toNat).map f)) → Q (.ref p) H') :
    ∃ i m : Int, [V.int l, V.int n] = [.int i, .int m] ∧ (-(2 ^ 62) ≤ i ∧ i < 2 ^ 62 ∧ -(2 ^ 62) ≤ m ∧ m < 2 ^ 62) ∧ LcB (Itr i (m - i).toNat) (gName j) tYes te vs σ H Q := by
  refine ⟨l, n, rfl, ⟨by omega, by omega, by omega, by omega⟩, fun D hD => ?_⟩
  refine lc_range (lo := l) (n := (n - l).toNat) (fun i H' => Sm H H' ∧ H' D = some (.lst ((List.range i).map f))) ⟨same_upd hD, upd_same⟩ (fun i H' hi p => ?_) (fun H' p => k D H' p.1 hD p.2)
  show wipe ((wipe σ vs).set j (some (.int (l + (i : Int))))) vs = wipe σ vs ∧ te ((wipe σ vs).set j (some (.int (l + (i : Int))))) H' _
  refine ⟨hw _, he i H' (by omega) p.1 _ fun H2 s2 => ⟨_, s2 _ _ p.2, ?_, sm_upd (p.1.trans s2) hD, ?_⟩⟩
  · rw [List.length_map, List.length_range]
    exact Nat.lt_of_lt_of_le (show i < 1000000 by omega) (by decide)
  · rw [upd_same, List.range_succ, List.map_append]
    rfl
/-- over a list -/
theorem w_lcl {a : Addr} {xs : List V} (f : Nat → V) (hs : SqL K H a xs) (hz : xs.length ≤ 1000000) (hw : ∀ x, wipe ((wipe σ vs).set j (some x)) vs = wipe σ vs)
    (he : ∀ (i : Nat) x H', xs[i]? = some x → Sm H H' → ∀ R : VK, (∀ H2, Sm H' H2 → R (f i) H2) → te ((wipe σ vs).set j (some x)) H' R)
    (k : ∀ p H', Sm H H' → H p = none → H' p = some (.lst ((List.range xs.length).map f)) → Q (.ref p) H') :
    ∃ b, V.ref a = .ref b ∧ (∃ xs, SqL K H b xs) ∧ LcB (Itl K b) (gName j) tYes te vs σ H Q := by
  refine ⟨a, rfl, ⟨xs, hs⟩, fun D hD => ?_⟩
  refine lc_list (xs := xs) (fun i H' => Sm H H' ∧ H' D = some (.lst ((List.range i).map f))) ⟨same_upd hD, upd_same⟩ (fun i H' _ p => p.1.seq hs) (fun i x H' hi p => ?_) (fun H' p => k D H' p.1 hD p.2)
  show wipe ((wipe σ vs).set j (some x)) vs = wipe σ vs ∧ te ((wipe σ vs).set j (some x)) H' _
  refine ⟨hw _, he i x H' hi p.1 _ fun H2 s2 => ⟨_, s2 _ _ p.2, ?_, sm_upd (p.1.trans s2) hD, ?_⟩⟩
  · have hi2 := (List.getElem?_eq_some_iff.mp hi).1
    rw [List.length_map, List.length_range]
    exact Nat.lt_of_lt_of_le (show i < 1000000 by omega) (by decide)
  · rw [upd_same, List.range_succ, List.map_append]
    rfl
end
/-! ### list(range), slices, sorted, range by steps -/
section
variable {K : PySem.W.Frag} {σ : L2.St} {H : Hp} {Q : VK} {ta : TA} {te tb : TE} {tl th : TO} {p : Addr} {xs : List V} {ns : List Int} {i j : Int} {lo hi : Option Int}
def LstRg (a b : Int) (H1 : Hp) (Q : VK) : Prop := RgOk a b ∧ ∀ q, H1 q = none → Q (.ref q) (upd H1 q (.lst (rgV a b)))
theorem w_lrg1 (k : te σ H fun x H1 => ∃ n, x = .int n ∧ LstRg 0 n H1 Q) : tLstRg (tRg1 te) σ H Q := k
theorem w_lrg2 (k : te σ H fun x H1 => tb σ H1 fun y H2 => ∃ i j, x = .int i ∧ y = .int j ∧ LstRg i j H2 Q) : tLstRg (tRg2 te tb) σ H Q := k
theorem w_rg1 {n : Int} (h0 : 0 ≤ n) (h1 : n ≤ 1000000) (k : ∀ q H', Sm H H' → H q = none → H' q = some (.lst (((List.range n.toNat).map fun i : Nat => (i : Int)).map V.int)) → Q (.ref q) H') : ∃ m, V.int n = .int m ∧ LstRg 0 m H Q :=
  ⟨n, rfl, RgOk.of_le (by decide) (by omega) (by decide) h0, fun q hq => k q _ (same_upd hq) hq (by
    rw [upd_same]
    unfold rgV
    rw [List.map_map]
    congr 3
    · funext i
      show V.int (0 + (i : Int)) = V.int (i : Int)
      rw [Int.zero_add]
    · rw [Int.sub_zero])⟩
theorem w_slice {r : V → Option Int → Option Int → Hp → VK → Prop} (k : te σ H fun x H1 => tl σ H1 fun l H2 => th σ H2 fun u H3 => r x l u H3 Q) : tSl r te tl th σ H Q := k
theorem w_nopart {R : Option Int → Hp → Prop} (k : R none H) : tNoPart σ H R := k
theorem w_part {R : Option Int → Hp → Prop} (k : te σ H fun x H1 => ∃ i, x = .int i ∧ R (some i) H1) : tPart te σ H R := k
theorem w_isi {R : Int → Prop} (k : R i) : ∃ n, V.int i = .int n ∧ R n := ⟨i, rfl, k⟩
theorem w_sl (h : SqL K H p xs) (k : ∀ q H', Sm H H' → H q = none → H' q = some (.lst (cutV xs lo hi)) → Q (.ref q) H') : rSlL K (.ref p) lo hi H Q := ⟨p, xs, rfl, h, fun q hq => k q _ (same_upd hq) hq upd_same⟩
theorem w_sorted (h : SqL K H p (ns.map V.int)) (k : ∀ (ms : List Int) q H', ms.Perm ns → ms.Pairwise (· ≤ ·) → Sm H H' → H q = none → H' q = some (.lst (ms.map V.int)) → Q (.ref q) H') : rSortedI K [.ref p] H Q :=
  ⟨p, ns, rfl, h, fun ms q hp hs hq => k ms q _ hp hs (same_upd hq) hq upd_same⟩
theorem w_cat {q : Addr} {ys : List V} (h1 : H p = some (.lst xs)) (h2 : H q = some (.lst ys)) (hz : xs.length + ys.length ≤ 1000000) (k : ∀ r H', Sm H H' → H r = none → H' r = some (.lst (xs ++ ys)) → Q (.ref r) H') : rCat (.ref p) (.ref q) H Q :=
  ⟨p, q, xs, ys, rfl, rfl, h1, h2, Nat.le_trans hz (by decide), fun r hr => k r _ (same_upd hr) hr upd_same⟩
theorem w_rep (h1 : H p = some (.lst xs)) (h0 : -(2 ^ 63) ≤ i) (h3 : i < 2 ^ 63) (hz : xs.length * i.toNat ≤ 1000000) (k : ∀ r H', Sm H H' → H r = none → H' r = some (.lst (List.replicate i.toNat xs).flatten) → Q (.ref r) H') : rRep (.ref p) (.int i) H Q :=
  ⟨p, i, xs, rfl, rfl, h1, h0, h3, Nat.le_trans hz (by decide), fun r hr => k r _ (same_upd hr) hr upd_same⟩
end
section
variable {σ : L2.St} {H : Hp} {D : Ends} {ta : TA} {tb : TS} {j : Nat} {g : TG}
theorem w_for3 (k : ta σ H fun vs H1 => ∃ (i j c : Int) (n : Nat), vs = [.int i, .int j, .int c] ∧ RgC i j c n ∧ Loop (Itc i c n) g tb D σ H1) : tFor (iRng3 ta) g tb D σ H := k
theorem w_rng3 {l n c : Int} (m : Nat) (hr : RgC l n c m) (Pv : Nat → L2.St → Hp → Prop) (h0 : Pv 0 σ H)
    (hs : ∀ (i : Nat) σ' H', i < m → Pv i σ' H' → tb { D with nx := Pv (i + 1), ct := Pv (i + 1), bk := D.nx } (σ'.set j (some (.int (l + (i : Int) * c)))) H') (hd : ∀ σ' H', Pv m σ' H' → D.nx σ' H') :
    ∃ (i j' c' : Int) (n' : Nat), [V.int l, V.int n, V.int c] = [.int i, .int j', .int c'] ∧ RgC i j' c' n' ∧ Loop (Itc i c' n') (gName j) tb D σ H :=
  ⟨l, n, c, m, rfl, hr, for_rangeC Pv h0 (fun i σ' H' hi p => hs i σ' H' hi p) hd⟩
theorem w_par3 {a b c : Nat} {trA : TA} (k : trA σ H fun vs H1 => ∃ u v w, vs = [u, v, w] ∧ D.nx (((σ.set a (some u)).set b (some v)).set c (some w)) H1) : tPar3 a b c trA D σ H := k
theorem w_three {u v w : V} {A : V → V → V → Prop} (k : A u v w) : ∃ a b c, [u, v, w] = [a, b, c] ∧ A a b c := ⟨u, v, w, rfl, k⟩
end
end SC

set_option Elab.async false
set_option linter.all false
set_option maxHeartbeats 1000000
/-! The bracket by numbers: plain mathematics. -/
namespace SC
open L2
/-- a seed of a cup of twice h players, told in the cup of h players -/
def fold1 (h s : Int) : Int := if h < s then 2 * h + 1 - s else s
/-- the block numbers of s in a cup of k rounds, level by level -/
def wy (k s : Int) : Nat → Int
  | 0 => s
  | r + 1 => fold1 (p2 (k - 1 - r)) (wy k s r)
/-- its place, bit by bit -/
def pl (k s : Int) : Nat → Int
  | 0 => 0
  | r + 1 => if p2 (k - 1 - r) < wy k s r then pl k s r + p2 r else pl k s r
/-- the seed at a place, round by round -/
def sd (k p : Int) : Nat → Int
  | 0 => 1
  | d + 1 => if p / p2 (k - (1 + d)) % 2 = 1 then p2 (1 + d) + 1 - sd k p d else sd k p d
def turned (b r c : Int) : Int := if r % 2 = 0 then c else b + 1 - c
/-- the number of the block in which s stands, of m blocks -/
def blk (m s : Int) : Int := turned m ((s - 1) / m) ((s - 1) % m + 1)
def seedAt (k p : Int) : Int := sd k p k.toNat
def placeOf (k s : Int) : Int := pl k s k.toNat

theorem p2_half {k : Int} (h : 0 < k) : p2 k = 2 * p2 (k - 1) := by
  have := p2_succ (k := k - 1) (by omega)
  rwa [show k - 1 + 1 = k by omega] at this
theorem p2_abs {k : Int} {n : Nat} (h : k < n) (h0 : 0 < n) : (p2 k).natAbs < 2 ^ n := by
  unfold p2
  rw [Int.natAbs_pow]
  exact Nat.pow_lt_pow_right (by decide) (by omega)
theorem p2_div {i k : Int} (h : k ≤ 1000) : CDivW i (p2 k) := wide_div (p2_pos _) (p2_abs (n := 1001) (by omega) (by decide)) (by decide) (by decide)
theorem mul_small {i l r : Int} (h0 : 0 ≤ i) (h1 : i < p2 l) (h2 : l ≤ 1000) (h3 : r - l ≤ 1000) : CMulX i (p2 (r - l)) :=
  mulx_ok (a := 1001) (b := 1001) (Nat.lt_of_le_of_lt (by omega) (p2_abs (n := 1001) (show l < (1001 : Nat) by omega) (by decide))) (p2_abs (by omega) (by decide)) (by decide)
theorem p2_lim {k : Int} (h : k ≤ 1000) : p2 k < BIG := by
  unfold BIG
  have h1 := p2_abs (k := k) (n := 1001) (by omega) (by decide)
  have h2 := p2_pos k
  have h3 : (2 : Nat) ^ 1001 < 2 ^ 2000 := Nat.pow_lt_pow_right (by decide) (by decide)
  have h4 : ((p2 k).natAbs : Int) < ((2 ^ 2000 : Nat) : Int) := by exact_mod_cast Nat.lt_trans h1 h3
  rw [Int.natAbs_of_nonneg (by omega)] at h4
  simpa using h4
theorem small_lim {b : Int} (h : b ≤ 1000000) : b < BIG := Int.lt_of_le_of_lt h (by decide +kernel)
theorem mul_rem {x y k : Int} (h : 0 < p2 k) (hk : k ≤ 900) : CMulX (x % (2 * p2 k)) (y % (2 * p2 k)) := by
  have a := p2_abs (k := k) (n := 1000) (by omega) (by decide)
  have e : ∀ z : Int, (z % (2 * p2 k)).natAbs < 2 ^ 1001 := fun z => by
    have h1 := Int.emod_nonneg z (b := 2 * p2 k) (by omega)
    have h2 := Int.emod_lt_of_pos z (b := 2 * p2 k) (by omega)
    have h3 : (2 : Nat) ^ 1001 = 2 * 2 ^ 1000 := by rw [Nat.pow_succ]; omega
    rw [h3]
    omega
  exact mulx_ok (e x) (e y) (by decide)
theorem wy_range {k s : Int} (h1 : 1 ≤ s) (h2 : s ≤ p2 k) : ∀ r : Nat, (r : Int) ≤ k → 1 ≤ wy k s r ∧ wy k s r ≤ p2 (k - r)
  | 0, _ => by simpa [wy] using ⟨h1, h2⟩
  | r + 1, hr => by
    have ih := wy_range h1 h2 r (by omega)
    have e : p2 (k - r) = 2 * p2 (k - 1 - r) := by
      rw [p2_half (by omega)]
      congr 2
      omega
    have e2 : p2 (k - ((r + 1 : Nat) : Int)) = p2 (k - 1 - r) := by congr 1; omega
    simp only [wy, fold1]
    rw [e2]
    split <;> omega
theorem pl_range (k s : Int) : ∀ r : Nat, 0 ≤ pl k s r ∧ pl k s r < p2 r
  | 0 => by simp [pl, p2]
  | r + 1 => by
    have ih := pl_range k s r
    have e : p2 ((r + 1 : Nat) : Int) = 2 * p2 r := by
      have := p2_succ (k := (r : Int)) (by omega)
      rw [← this]; congr 1
    rw [e]
    simp only [pl]
    split <;> omega
theorem pl_bit {k s : Int} : ∀ (r j : Nat), j < r → (pl k s r / p2 j % 2 = 1 ↔ p2 (k - 1 - j) < wy k s j)
  | 0, j, h => by omega
  | r + 1, j, h => by
    by_cases hj : j = r
    · subst hj
      have ra := pl_range k s j
      have pp := p2_pos (j : Int)
      simp only [pl]
      split
      · rename_i hb
        simp only [hb, iff_true]
        rw [show pl k s j + p2 j = pl k s j + 1 * p2 j by omega, Int.add_mul_ediv_right _ _ (by omega), Int.ediv_eq_zero_of_lt ra.1 ra.2]
        decide
      · rename_i hb
        simp only [hb, iff_false]
        rw [Int.ediv_eq_zero_of_lt ra.1 ra.2]
        decide
    · have ih := pl_bit (k := k) (s := s) r j (by omega)
      rw [← ih]
      simp only [pl]
      split
      · have e : p2 (r : Int) = p2 ((r - j - 1 : Nat) : Int) * 2 * p2 (j : Int) := by
          have h1 := p2_add (k := ((r - j : Nat) : Int)) (l := (j : Int)) (by omega) (by omega)
          have h2 := p2_succ (k := ((r - j - 1 : Nat) : Int)) (by omega)
          rw [show ((r - j : Nat) : Int) + (j : Int) = r by omega] at h1
          rw [show ((r - j - 1 : Nat) : Int) + 1 = ((r - j : Nat) : Int) by omega] at h2
          rw [h1, h2, Int.mul_comm 2]
        rw [e, Int.add_mul_ediv_right _ _ (by have := p2_pos (j : Int); omega), Int.add_mul_emod_self_right]
      · exact Iff.rfl
theorem sd_back {k s : Int} (h1 : 1 ≤ s) (h2 : s ≤ p2 k) (hk : 0 ≤ k) : ∀ d : Nat, (d : Int) ≤ k → sd k (placeOf k s) d = wy k s (k.toNat - d)
  | 0, _ => by
    have := wy_range h1 h2 k.toNat (by omega)
    rw [show k - (k.toNat : Int) = 0 by omega, p2_zero] at this
    simp only [sd, Nat.sub_zero]
    omega
  | d + 1, hd => by
    have ih := sd_back h1 h2 hk d (by omega)
    have hj : k.toNat - d = k.toNat - (d + 1) + 1 := by omega
    have hb := pl_bit (k := k) (s := s) k.toNat (k.toNat - (d + 1)) (by omega)
    have e1 : k - (1 + (d : Int)) = ((k.toNat - (d + 1) : Nat) : Int) := by omega
    have e2 : k - 1 - ((k.toNat - (d + 1) : Nat) : Int) = d := by omega
    have ra := wy_range h1 h2 (k.toNat - (d + 1)) (by omega)
    have e3 : p2 (k - ((k.toNat - (d + 1) : Nat) : Int)) = p2 (1 + (d : Int)) := by congr 1; omega
    have e4 : p2 (1 + (d : Int)) = 2 * p2 d := by rw [Int.add_comm, p2_succ (by omega)]
    rw [e2] at hb
    rw [hj] at ih
    simp only [wy, fold1] at ih
    rw [e2] at ih
    have hb' : placeOf k s / p2 (k - (1 + (d : Int))) % 2 = 1 ↔ p2 (d : Int) < wy k s (k.toNat - (d + 1)) := by
      rw [e1]; exact hb
    simp only [sd]
    by_cases hc : p2 (d : Int) < wy k s (k.toNat - (d + 1))
    · rw [if_pos hc] at ih
      rw [if_pos (hb'.mpr hc), ih]
      omega
    · rw [if_neg hc] at ih
      rw [if_neg (fun z => hc (hb'.mp z)), ih]
/-- seed_at undoes place_of -/
theorem seed_place {k s : Int} (h1 : 1 ≤ s) (h2 : s ≤ p2 k) (hk : 0 ≤ k) : seedAt k (placeOf k s) = s := by
  have := sd_back h1 h2 hk k.toNat (by omega)
  rw [Nat.sub_self] at this
  exact this
theorem place_range (k s : Int) (hk : 0 ≤ k) : 0 ≤ placeOf k s ∧ placeOf k s < p2 k := by
  have := pl_range k s k.toNat
  rwa [show (k.toNat : Int) = k by omega] at this

/-- rows and columns -/
theorem blk_fold {m s : Int} (hm : 0 < m) (hs : 1 ≤ s) : blk m s = fold1 m (blk (2 * m) s) := by
  have d1 := Int.emod_add_mul_ediv (s - 1) (2 * m)
  have n1 := Int.emod_nonneg (s - 1) (b := 2 * m) (by omega)
  have l1 := Int.emod_lt_of_pos (s - 1) (b := 2 * m) (by omega)
  generalize hq : (s - 1) / (2 * m) = q at d1
  generalize ht : (s - 1) % (2 * m) = t at d1 n1 l1
  unfold blk turned fold1
  rw [hq, ht]
  by_cases c : t < m
  · have e1 : (s - 1) / m = 2 * q := by
      rw [← d1, show t + 2 * m * q = t + (2 * q) * m by rw [Int.mul_comm 2 m, Int.mul_assoc, Int.mul_comm m], Int.add_mul_ediv_right _ _ (by omega), Int.ediv_eq_zero_of_lt n1 c]
      omega
    have e2 : (s - 1) % m = t := by
      rw [← d1, show t + 2 * m * q = t + (2 * q) * m by rw [Int.mul_comm 2 m, Int.mul_assoc, Int.mul_comm m], Int.add_mul_emod_self_right, Int.emod_eq_of_lt n1 c]
    rw [e1, e2]
    split <;> split <;> split <;> omega
  · have e1 : (s - 1) / m = 2 * q + 1 := by
      rw [← d1, show t + 2 * m * q = (t - m) + (2 * q + 1) * m by rw [Int.mul_comm 2 m, Int.mul_assoc, Int.mul_comm m, Int.add_mul]; omega, Int.add_mul_ediv_right _ _ (by omega), Int.ediv_eq_zero_of_lt (by omega) (by omega)]
      omega
    have e2 : (s - 1) % m = t - m := by
      rw [← d1, show t + 2 * m * q = (t - m) + (2 * q + 1) * m by rw [Int.mul_comm 2 m, Int.mul_assoc, Int.mul_comm m, Int.add_mul]; omega, Int.add_mul_emod_self_right, Int.emod_eq_of_lt (by omega) (by omega)]
    rw [e1, e2]
    split <;> split <;> split <;> omega
theorem blk_top {m s : Int} (h1 : 1 ≤ s) (h2 : s ≤ m) : blk m s = s := by
  unfold blk turned
  have e1 : (s - 1) / m = 0 := Int.ediv_eq_zero_of_lt (by omega) (by omega)
  have e2 : (s - 1) % m = s - 1 := Int.emod_eq_of_lt (by omega) (by omega)
  rw [e1, e2]
  split <;> omega
theorem wy_blk {k s : Int} (h1 : 1 ≤ s) (h2 : s ≤ p2 k) : ∀ r : Nat, (r : Int) ≤ k → wy k s r = blk (p2 (k - r)) s
  | 0, _ => by
    simp only [wy]
    rw [blk_top h1 (by simpa using h2)]
  | r + 1, hr => by
    have ih := wy_blk h1 h2 r (by omega)
    have e : p2 (k - r) = 2 * p2 (k - 1 - r) := by
      rw [p2_half (by omega)]
      congr 2
      omega
    have e2 : p2 (k - ((r + 1 : Nat) : Int)) = p2 (k - 1 - r) := by congr 1; omega
    simp only [wy]
    rw [ih, e, e2]
    exact (blk_fold (p2_pos _) h1).symm
theorem blk_range {m s : Int} (hm : 0 < m) : 1 ≤ blk m s ∧ blk m s ≤ m := by
  have n1 := Int.emod_nonneg (s - 1) (b := m) (by omega)
  have l1 := Int.emod_lt_of_pos (s - 1) hm
  unfold blk turned
  split <;> omega
/-- the member with an index, and back -/
def mem (m b i : Int) : Int := i * m + turned m i b
theorem mem_parts {m b i : Int} (hm : 0 < m) (hb : 1 ≤ b) (hb2 : b ≤ m) : (mem m b i - 1) / m = i ∧ blk m (mem m b i) = b := by
  unfold mem blk
  have key : ∀ c : Int, 1 ≤ c → c ≤ m → (i * m + c - 1) / m = i ∧ (i * m + c - 1) % m = c - 1 := fun c h1 h2 => by
    have e : i * m + c - 1 = (c - 1) + i * m := by omega
    rw [e, Int.add_mul_ediv_right _ _ (by omega), Int.add_mul_emod_self_right, Int.ediv_eq_zero_of_lt (by omega) (by omega), Int.emod_eq_of_lt (by omega) (by omega)]
    omega
  by_cases c : i % 2 = 0
  · have e : turned m i b = b := if_pos c
    rw [e]
    obtain ⟨k1, k2⟩ := key b hb hb2
    rw [k1, k2]
    refine ⟨rfl, ?_⟩
    unfold turned
    rw [if_pos c]
    omega
  · have e : turned m i b = m + 1 - b := if_neg c
    rw [e]
    obtain ⟨k1, k2⟩ := key (m + 1 - b) (by omega) (by omega)
    rw [k1, k2]
    refine ⟨rfl, ?_⟩
    unfold turned
    rw [if_neg c]
    omega
theorem mem_back {m s : Int} (hm : 0 < m) : mem m (blk m s) ((s - 1) / m) = s := by
  have d1 := Int.emod_add_mul_ediv (s - 1) m
  unfold mem blk turned
  rw [Int.mul_comm] at d1
  split <;> omega
theorem mem_range {m n b i : Int} (hm : 0 < m) (hb : 1 ≤ b) (hb2 : b ≤ m) (hi : 0 ≤ i) (hn : i < n) : 1 ≤ mem m b i ∧ mem m b i ≤ n * m := by
  have h1 : 0 ≤ i * m := Int.mul_nonneg hi (by omega)
  have h2 : (i + 1) * m ≤ n * m := Int.mul_le_mul_of_nonneg_right (by omega) (by omega)
  rw [Int.add_mul] at h2
  unfold mem turned
  split <;> omega
/-- an index counted by the two remainders -/
theorem counted {m s : Int} (hm : 0 < m) : (s - blk m s) / (2 * m) + 1 + ((s - (2 * m + 1 - blk m s)) / (2 * m) + 1) - 1 = (s - 1) / m ∧ (s - blk m s) % (2 * m) * ((s + blk m s - 1) % (2 * m)) = 0 := by
  have d1 := Int.emod_add_mul_ediv (s - 1) m
  have n1 := Int.emod_nonneg (s - 1) (b := m) (by omega)
  have l1 := Int.emod_lt_of_pos (s - 1) hm
  unfold blk turned
  generalize (s - 1) / m = r at *
  generalize (s - 1) % m = c at *
  have key : ∀ q t x : Int, 0 ≤ t → t < 2 * m → x = t + q * (2 * m) → x / (2 * m) = q ∧ x % (2 * m) = t := fun q t x h0 h1 e => by
    rw [e, Int.add_mul_ediv_right _ _ (by omega), Int.add_mul_emod_self_right, Int.ediv_eq_zero_of_lt h0 h1, Int.emod_eq_of_lt h0 h1]
    omega
  have hr := Int.emod_add_mul_ediv r 2
  split
  · rename_i hc
    have er : r = 2 * (r / 2) := by omega
    generalize r / 2 = q at *
    subst er
    have e : m * (2 * q) = q * (2 * m) := by rw [Int.mul_comm m, Int.mul_assoc, Int.mul_left_comm]
    rw [e] at d1
    have a := key q 0 (s - (c + 1)) (by omega) (by omega) (by omega)
    have b := key (q - 1) (2 * c + 1) (s - (2 * m + 1 - (c + 1))) (by omega) (by omega) (by rw [Int.sub_mul]; omega)
    rw [a.1, b.1, a.2, Int.zero_mul]
    omega
  · rename_i hc
    have er : r = 2 * (r / 2) + 1 := by omega
    generalize r / 2 = q at *
    subst er
    have e : m * (2 * q + 1) = q * (2 * m) + m := by rw [Int.mul_add, Int.mul_one, Int.mul_comm m, Int.mul_assoc, Int.mul_left_comm]
    rw [e] at d1
    have a := key q (2 * c + 1) (s - (m + 1 - (c + 1))) (by omega) (by omega) (by omega)
    have b := key q 0 (s - (2 * m + 1 - (m + 1 - (c + 1)))) (by omega) (by omega) (by omega)
    have d := key (q + 1) 0 (s + (m + 1 - (c + 1)) - 1) (by omega) (by omega) (by rw [Int.add_mul]; omega)
    rw [a.1, b.1, d.2, Int.mul_zero]
    omega
/-- the last seed of the list -/
def lst : Nat → Int
  | 0 => 1
  | d + 1 => 2 * p2 d + 1 - lst d
theorem lst_range : ∀ d : Nat, 1 ≤ lst d ∧ lst d ≤ p2 d
  | 0 => by simp [lst, p2]
  | d + 1 => by
    have ih := lst_range d
    have e : p2 ((d + 1 : Nat) : Int) = 2 * p2 d := by
      have := p2_succ (k := (d : Int)) (by omega)
      rw [← this]; congr 1
    simp only [lst]
    omega
theorem wy_lst {k : Int} (hk : 0 ≤ k) : ∀ r : Nat, (r : Int) ≤ k → wy k (lst k.toNat) r = lst (k.toNat - r) ∧ pl k (lst k.toNat) r = p2 r - 1
  | 0, _ => ⟨rfl, by simp [pl, p2]⟩
  | r + 1, hr => by
    obtain ⟨i1, i2⟩ := wy_lst hk r (by omega)
    have ej : k.toNat - r = (k.toNat - (r + 1)) + 1 := by omega
    have e1 : k - 1 - (r : Int) = ((k.toNat - (r + 1) : Nat) : Int) := by omega
    have e : p2 ((r + 1 : Nat) : Int) = 2 * p2 r := by
      have := p2_succ (k := (r : Int)) (by omega)
      rw [← this]; congr 1
    have ra := lst_range (k.toNat - (r + 1))
    have c : p2 (k - 1 - r) < wy k (lst k.toNat) r := by
      rw [i1, ej, e1]
      simp only [lst]
      omega
    simp only [wy, pl, fold1]
    rw [if_pos c, if_pos c, i2, e, i1, ej, e1]
    simp only [lst]
    omega
theorem seed_last {k : Int} (hk : 0 ≤ k) : seedAt k (p2 k - 1) = lst k.toNat ∧ placeOf k (lst k.toNat) = p2 k - 1 := by
  have h := (wy_lst hk k.toNat (by omega)).2
  have ra := lst_range k.toNat
  rw [show (k.toNat : Int) = k by omega] at h ra
  have hp : placeOf k (lst k.toNat) = p2 k - 1 := h
  refine ⟨?_, hp⟩
  rw [← hp]
  exact seed_place ra.1 ra.2 hk
end SC

set_option Elab.async false
set_option linter.all false
set_option maxHeartbeats 1000000
/-! The bracket as a list, its parts, their members in order. -/
namespace SC
open L2
/-- each seed by itself and its new partner -/
def ext (m : Int) (s : Int) : Nat → List Int
  | 0 => [s]
  | h + 1 => (ext m s h).flatMap fun x => [x, 2 * p2 (m + h) + 1 - x]
def brk (n : Nat) : List Int := ext 0 1 n
theorem ext_len (m s : Int) : ∀ h, (ext m s h).length = 2 ^ h
  | 0 => rfl
  | h + 1 => by
    have ih := ext_len m s h
    have key : ∀ l : List Int, (l.flatMap fun x => [x, 2 * p2 (m + h) + 1 - x]).length = 2 * l.length := fun l => by
      induction l with
      | nil => rfl
      | cons a r ih => simp only [List.flatMap_cons, List.length_append, List.length_cons, List.length_nil, ih]; omega
    rw [show ext m s (h + 1) = (ext m s h).flatMap fun x => [x, 2 * p2 (m + h) + 1 - x] from rfl, key, ih, Nat.pow_succ, Nat.mul_comm]
theorem ext_two (m s : Int) : ∀ a b, ext m s (a + b) = (ext m s a).flatMap fun x => ext (m + a) x b
  | a, 0 => by
    show ext m s a = _
    simp only [ext]
    induction ext m s a with
    | nil => rfl
    | cons x r ih => rw [List.flatMap_cons, ← ih]; rfl
  | a, b + 1 => by
    have ih := ext_two m s a b
    show (ext m s (a + b)).flatMap (fun x => [x, 2 * p2 (m + ((a + b : Nat) : Int)) + 1 - x]) = _
    rw [ih, List.flatMap_assoc]
    congr 1
    funext x
    show _ = (ext (m + a) x b).flatMap fun y => [y, 2 * p2 (m + a + b) + 1 - y]
    rw [show m + ((a + b : Nat) : Int) = m + a + b by omega]
theorem blk_mirror {m x n : Int} (hm : 0 < m) : blk m (2 * (n * m) + 1 - x) = blk m x := by
  have d1 := Int.emod_add_mul_ediv (x - 1) m
  have n1 := Int.emod_nonneg (x - 1) (b := m) (by omega)
  have l1 := Int.emod_lt_of_pos (x - 1) hm
  unfold blk turned
  generalize (x - 1) / m = r at *
  generalize (x - 1) % m = c at *
  have e : 2 * (n * m) + 1 - x - 1 = (m - 1 - c) + (2 * n - r - 1) * m := by
    rw [Int.sub_mul, Int.sub_mul, Int.mul_assoc, Int.one_mul, ← Int.mul_comm m r]
    omega
  have e1 : (2 * (n * m) + 1 - x - 1) / m = 2 * n - r - 1 := by
    rw [e, Int.add_mul_ediv_right _ _ (by omega), Int.ediv_eq_zero_of_lt (by omega) (by omega), Int.zero_add]
  have e2 : (2 * (n * m) + 1 - x - 1) % m = m - 1 - c := by
    rw [e, Int.add_mul_emod_self_right, Int.emod_eq_of_lt (by omega) (by omega)]
  rw [e1, e2]
  split <;> split <;> omega
theorem ext_in {m s : Int} (hm : 0 ≤ m) (h1 : 1 ≤ s) (h2 : s ≤ p2 m) : ∀ h : Nat, ∀ x ∈ ext m s h, (1 ≤ x ∧ x ≤ p2 (m + h)) ∧ blk (p2 m) x = s
  | 0, x, hx => by
    simp only [ext, List.mem_cons, List.not_mem_nil, or_false] at hx
    subst hx
    refine ⟨⟨h1, by simpa using h2⟩, blk_top h1 h2⟩
  | h + 1, x, hx => by
    simp only [ext, List.mem_flatMap, List.mem_cons, List.not_mem_nil, or_false] at hx
    obtain ⟨y, hy, hx⟩ := hx
    obtain ⟨r, b⟩ := ext_in hm h1 h2 h y hy
    have e : p2 (m + ((h + 1 : Nat) : Int)) = 2 * p2 (m + h) := by
      rw [← p2_succ (by omega)]
      congr 1
      omega
    have e2 : p2 (m + h) = p2 h * p2 m := by rw [Int.add_comm, p2_add (by omega) hm]
    rcases hx with rfl | rfl
    · exact ⟨⟨r.1, by omega⟩, b⟩
    · refine ⟨⟨by omega, by omega⟩, ?_⟩
      rw [e2, blk_mirror (p2_pos m), b]
theorem ext_nd {m s : Int} (hm : 0 ≤ m) (h1 : 1 ≤ s) (h2 : s ≤ p2 m) : ∀ h : Nat, (ext m s h).Nodup
  | 0 => by simp [ext]
  | h + 1 => by
    have ih := ext_nd hm h1 h2 h
    have ra := ext_in hm h1 h2 h
    simp only [ext]
    generalize ext m s h = l at ih ra
    induction l with
    | nil => simp
    | cons a r il =>
      rw [List.flatMap_cons]
      have i2 := il (List.nodup_cons.mp ih).2 (fun x hx => ra x (List.mem_cons_of_mem _ hx))
      have na := (List.nodup_cons.mp ih).1
      have ea := (ra a (List.mem_cons_self ..)).1
      rw [List.nodup_append]
      refine ⟨?_, i2, fun x hx y hy => ?_⟩
      · simp only [List.nodup_cons, List.mem_cons, List.not_mem_nil, or_false, not_false_iff, List.nodup_nil, and_true]
        omega
      · simp only [List.mem_flatMap, List.mem_cons, List.not_mem_nil, or_false] at hx hy
        obtain ⟨z, hz, hy⟩ := hy
        have ez := (ra z (List.mem_cons_of_mem _ hz)).1
        have nz : a ≠ z := fun q => na (q ▸ hz)
        omega
/-- the members in ascending order -/
def mems (m b : Int) (n : Nat) : List Int := (List.range n).map fun i : Nat => mem m b (i : Int)
theorem mems_len (m b : Int) (n : Nat) : (mems m b n).length = n := by simp [mems]
theorem mems_at {m b : Int} {n : Nat} {j : Int} (h0 : 0 ≤ j) (h : j < n) : atI ((mems m b n).map V.int) j = some (.int (mem m b j)) := by
  obtain ⟨k, rfl⟩ := Int.eq_ofNat_of_zero_le h0
  refine atI_nat ?_
  unfold mems
  rw [List.map_map, List.getElem?_map, List.getElem?_range (by omega)]
  rfl
theorem mems_last {m b : Int} {n : Nat} (h : 0 < n) : atI ((mems m b n).map V.int) (-1) = some (.int (mem m b ((n : Int) - 1))) := by
  obtain ⟨k, rfl⟩ : ∃ k, n = k + 1 := ⟨n - 1, by omega⟩
  unfold mems
  rw [List.range_succ, List.map_append, List.map_append]
  rw [show (((k + 1 : Nat) : Int) - 1) = (k : Int) by omega]
  exact atI_last _ _
theorem mem_zero {m b : Int} : mem m b 0 = b := by
  unfold mem turned
  simp
theorem pow_p2 {h : Int} (h0 : 0 ≤ h) : ((2 ^ h.toNat : Nat) : Int) = p2 h := by
  unfold p2
  simp
theorem rgc_pow {m c : Nat} (hm : 0 < m) (hc : 0 < c) (hm2 : m ≤ 2 ^ 5) (hc2 : c ≤ 2 ^ 5) : RgC 0 ((m * c : Nat) : Int) (c : Int) m := by
  have e : ((m * c : Nat) : Int) = (m : Int) * (c : Int) := by push_cast; rfl
  have e2 : ((m : Int) * (c : Int) - 0 - 1) / (c : Int) + 1 = m := by
    rw [show (m : Int) * (c : Int) - 0 - 1 = ((c : Int) - 1) + ((m : Int) - 1) * (c : Int) by rw [Int.sub_mul]; omega, Int.add_mul_ediv_right _ _ (by omega), Int.ediv_eq_zero_of_lt (by omega) (by omega)]
    omega
  have e3 : (0 : Int) < (m : Int) * (c : Int) := Int.mul_pos (by omega) (by omega)
  have e4 : m * c ≤ 2 ^ 5 * 2 ^ 5 := Nat.mul_le_mul hm2 hc2
  have sz : PySem.Builtin.Range.rangeSize 0 ((m * c : Nat) : Int) (c : Int) = m := by
    unfold PySem.Builtin.Range.rangeSize
    rw [if_pos (by omega), e, if_pos e3, e2]
  refine ⟨by omega, by omega, ?_, sz⟩
  unfold PySem.Builtin.Range.small
  rw [sz]
  simp only [PySem.Builtin.Range.rangeFitsLong, Bool.and_eq_true, Bool.or_eq_true, decide_eq_true_eq, beq_iff_eq, if_pos (show (c : Int) > 0 by omega)]
  omega
theorem cut_part {xs : List V} {lo hi : Int} {a b : Nat} (ea : lo = (a : Int)) (eb : hi = (b : Int)) (h : a ≤ b) (hb : b ≤ xs.length) : cutV xs (some lo) (some hi) = (xs.drop a).take (b - a) := by
  subst ea eb
  unfold cutV
  rw [HT.sIx_nat, HT.sIx_nat]
  simp only [Nat.min_eq_left hb, Nat.min_eq_left (Nat.le_trans h hb)]
theorem idx_strict {m b x y : Int} (hm : 0 < m) (hx : blk m x = b) (hy : blk m y = b) (h : x < y) : (x - 1) / m < (y - 1) / m := by
  have h1 : (x - 1) / m ≤ (y - 1) / m := Int.ediv_le_ediv hm (by omega)
  have h2 : (x - 1) / m ≠ (y - 1) / m := fun e => by
    have a := mem_back (m := m) (s := x) hm
    have c := mem_back (m := m) (s := y) hm
    rw [hx, e] at a
    rw [hy] at c
    omega
  omega
/-- a rising list of as many numbers from lo on, below lo + their count, is that range -/
theorem rising_range : ∀ (l : List Int) (lo : Int), l.Pairwise (· < ·) → (∀ x ∈ l, lo ≤ x ∧ x < lo + l.length) → l = (List.range l.length).map fun i : Nat => lo + (i : Int)
  | [], lo, _, _ => rfl
  | a :: r, lo, hp, hb => by
    have hp2 := List.pairwise_cons.mp hp
    have ea : a = lo ∨ lo < a := by
      have := (hb a (List.mem_cons_self ..)).1
      omega
    have key : ∀ (l : List Int) (c : Int), l.Pairwise (· < ·) → (∀ x ∈ l, c < x) → ∀ d : Int, (∀ x ∈ l, x < d) → l ≠ [] → c + l.length < d := by
      intro l
      induction l with
      | nil => intro c _ _ d _ h; exact absurd rfl h
      | cons x t it =>
        intro c hp hc d hd _
        have q := List.pairwise_cons.mp hp
        have cx := hc x (List.mem_cons_self ..)
        by_cases ht : t = []
        · subst ht
          have := hd x (List.mem_cons_self ..)
          simp
          omega
        · have := it x q.2 q.1 d (fun y hy => hd y (List.mem_cons_of_mem _ hy)) ht
          simp
          omega
    have al : a = lo := by
      rcases ea with e | e
      · exact e
      · exfalso
        have := key (a :: r) lo hp (fun x hx => by
          rcases List.mem_cons.mp hx with rfl | hx
          · exact e
          · have := hp2.1 x hx; omega) (lo + ((a :: r).length : Int)) (fun x hx => (hb x hx).2) (by simp)
        omega
    subst al
    have ih := rising_range r (a + 1) hp2.2 (fun x hx => by
      have h1 := hp2.1 x hx
      have h2 := (hb x (List.mem_cons_of_mem _ hx)).2
      simp at h2
      omega)
    rw [List.length_cons, List.range_succ_eq_map, List.map_cons, List.map_map]
    congr 1
    · simp
    · conv => lhs; rw [ih]
      apply List.map_congr_left
      intro i _
      show a + 1 + (i : Int) = a + ((i + 1 : Nat) : Int)
      omega
/-- a part in order -/
theorem part_sorted {m s : Int} (hm : 0 ≤ m) (h1 : 1 ≤ s) (h2 : s ≤ p2 m) {h : Nat} {l : List Int} (hp : l.Perm (ext m s h)) (hs : l.Pairwise (· ≤ ·)) : l = mems (p2 m) s (2 ^ h) := by
  have mp := p2_pos m
  have nd : l.Nodup := (List.Perm.nodup_iff hp).mpr (ext_nd hm h1 h2 h)
  have inn : ∀ x ∈ l, (1 ≤ x ∧ x ≤ p2 (m + h)) ∧ blk (p2 m) x = s := fun x hx => ext_in hm h1 h2 h x (hp.mem_iff.mp hx)
  have len : l.length = 2 ^ h := by rw [hp.length_eq, ext_len]
  have st : l.Pairwise (· < ·) := by
    have q := hs.and nd
    refine q.imp ?_
    intro a b hab
    have := hab.1
    have := hab.2
    omega
  have e2 : p2 (m + h) = p2 h * p2 m := by rw [Int.add_comm, p2_add (by omega) hm]
  have e3 : p2 (h : Int) = ((2 ^ h : Nat) : Int) := by
    unfold p2
    simp
  have ri : (l.map fun x => (x - 1) / p2 m).Pairwise (· < ·) := by
    rw [List.pairwise_map]
    refine st.imp_of_mem ?_
    intro a b ha hb hab
    exact idx_strict mp (inn a ha).2 (inn b hb).2 hab
  have rr := rising_range (l.map fun x => (x - 1) / p2 m) 0 ri (fun x hx => by
    obtain ⟨y, hy, rfl⟩ := List.mem_map.mp hx
    have r := (inn y hy).1
    refine ⟨Int.ediv_nonneg (by omega) (by omega), ?_⟩
    rw [List.length_map, len, Int.zero_add, ← e3]
    exact Int.ediv_lt_of_lt_mul mp (by omega))
  rw [List.length_map, len] at rr
  have e : l = (l.map fun x => (x - 1) / p2 m).map fun i => mem (p2 m) s i := by
    rw [List.map_map]
    conv => lhs; rw [← List.map_id l]
    apply List.map_congr_left
    intro x hx
    have b := mem_back (m := p2 m) (s := x) mp
    rw [(inn x hx).2] at b
    exact b.symm
  rw [e, rr, List.map_map]
  unfold mems
  apply List.map_congr_left
  intro i _
  show mem (p2 m) s (0 + (i : Int)) = _
  rw [Int.zero_add]
/-- the list cut into parts of the same length -/
theorem cut_parts {f : Int → List Int} {z : Nat} : ∀ (l : List Int) (j : Nat) (x : Int), (∀ y, (f y).length = z) → l[j]? = some x → ((l.flatMap f).drop (j * z)).take z = f x
  | [], j, x, _, h => by simp at h
  | a :: r, 0, x, hz, h => by
    have e : a = x := Option.some.inj h
    subst e
    rw [List.flatMap_cons, Nat.zero_mul, List.drop_zero, List.take_append_of_le_length (by rw [hz]; exact Nat.le_refl _), ← hz a, List.take_length]
  | a :: r, j + 1, x, hz, h => by
    have ih := cut_parts r j x hz h
    have ej : (j + 1) * z = (f a).length + j * z := by rw [Nat.add_mul, hz]; omega
    rw [List.flatMap_cons, ej, List.drop_append]
    rw [List.drop_eq_nil_of_le (by omega), Nat.add_sub_cancel_left, List.nil_append]
    exact ih
theorem brk_len (n : Nat) : (brk n).length = 2 ^ n := ext_len 0 1 n
theorem brk_in (n : Nat) : ∀ x ∈ brk n, 1 ≤ x ∧ x ≤ p2 n := fun x hx => by
  have := (ext_in (m := 0) (s := 1) (by decide) (by decide) (by rw [p2_zero]; decide) n x hx).1
  simpa using this
/-- the part at j of the level h of the bracket of n rounds -/
theorem brk_part {n h j : Nat} (hn : h ≤ n) (hj : j < 2 ^ (n - h)) : ∃ s, (1 ≤ s ∧ s ≤ p2 ((n - h : Nat) : Int)) ∧ ((brk n).drop (j * 2 ^ h)).take (2 ^ h) = ext ((n - h : Nat) : Int) s h := by
  have hl : j < (brk (n - h)).length := by rw [brk_len]; exact hj
  refine ⟨(brk (n - h))[j], brk_in _ _ (List.getElem_mem hl), ?_⟩
  have e : brk n = (brk (n - h)).flatMap fun x => ext (0 + ((n - h : Nat) : Int)) x h := by
    have := ext_two 0 1 (n - h) h
    rw [show n - h + h = n by omega] at this
    exact this
  rw [e, Int.zero_add]
  exact cut_parts (f := fun x => ext ((n - h : Nat) : Int) x h) _ j _ (fun y => ext_len _ _ _) (List.getElem?_eq_getElem hl)
end SC

set_option Elab.async false
set_option linter.all false
set_option maxHeartbeats 1000000
/-! Meetings: triangular numbers, blocks, places. -/
namespace SC
open L2
/-! ### bits of natural numbers -/
theorem dvd_or {r a b : Nat} : (a ||| b) % 2 ^ r = 0 ↔ a % 2 ^ r = 0 ∧ b % 2 ^ r = 0 := by
  rw [Nat.or_mod_two_pow]
  constructor
  · intro h
    exact ⟨by have := Nat.left_le_or (n := a % 2 ^ r) (m := b % 2 ^ r); omega, by have := Nat.right_le_or (n := a % 2 ^ r) (m := b % 2 ^ r); omega⟩
  · rintro ⟨h1, h2⟩
    rw [h1, h2]
    rfl
theorem dvd_xor {r a b : Nat} : (a ^^^ b) % 2 ^ r = 0 ↔ a % 2 ^ r = b % 2 ^ r := by
  rw [Nat.xor_mod_two_pow]
  constructor
  · intro h
    have e : (a % 2 ^ r ^^^ b % 2 ^ r) ^^^ b % 2 ^ r = a % 2 ^ r := by rw [Nat.xor_assoc, Nat.xor_self, Nat.xor_zero]
    rw [h, Nat.zero_xor] at e
    exact e.symm
  · intro h
    rw [h, Nat.xor_self]
theorem and_pred : ∀ (x : Nat), 0 < x → ∃ v, x - (x &&& (x - 1)) = 2 ^ v ∧ ∀ r, x % 2 ^ r = 0 ↔ r ≤ v := by
  intro x
  induction x using Nat.strongRecOn with
  | ind x ih =>
    intro hx
    have h1 : (x &&& (x - 1)) / 2 = x / 2 &&& (x - 1) / 2 := Nat.and_div_two
    have h2 : (x &&& (x - 1)) % 2 = 0 := by
      have h3 := Nat.and_mod_two_eq_one (a := x) (b := x - 1)
      omega
    by_cases c : x % 2 = 1
    · refine ⟨0, ?_, fun r => ?_⟩
      · have e : (x - 1) / 2 = x / 2 := by omega
        rw [e, Nat.and_self] at h1
        have := Nat.and_le_left (n := x) (m := x - 1)
        show _ = 1
        omega
      · constructor
        · intro h
          by_cases z : r = 0
          · omega
          · exfalso
            obtain ⟨k, rfl⟩ : ∃ k, r = k + 1 := ⟨r - 1, by omega⟩
            have : x % 2 = 0 := by
              have d := Nat.dvd_of_mod_eq_zero h
              exact Nat.mod_eq_zero_of_dvd (Nat.dvd_trans ⟨2 ^ k, by rw [Nat.pow_succ, Nat.mul_comm]⟩ d)
            omega
        · intro h
          obtain rfl : r = 0 := by omega
          simp [Nat.mod_one]
    · obtain ⟨v, e1, e2⟩ := ih (x / 2) (by omega) (by omega)
      have e : (x - 1) / 2 = x / 2 - 1 := by omega
      rw [e] at h1
      refine ⟨v + 1, ?_, fun r => ?_⟩
      · rw [Nat.pow_succ, ← e1]
        have := Nat.and_le_left (n := x / 2) (m := x / 2 - 1)
        omega
      · cases r with
        | zero => simp [Nat.mod_one]
        | succ r =>
          have := e2 r
          rw [Nat.pow_succ, Nat.mul_comm, Nat.mod_mul]
          omega
/-! ### triangular numbers -/
def tri (s : Int) : Int := s * (s - 1) / 2
theorem tri_two (s : Int) : 2 * tri s = s * (s - 1) := by
  have h : s * (s - 1) % 2 = 0 := by
    rw [Int.mul_emod]
    have : s % 2 = 0 ∨ s % 2 = 1 := by omega
    rcases this with h | h
    · rw [h]; simp
    · rw [show (s - 1) % 2 = 0 by omega]; simp
  unfold tri
  omega
theorem tri_nn {s : Int} (h : 1 ≤ s) : 0 ≤ tri s := by
  have h1 := tri_two s
  have h2 : 0 ≤ s * (s - 1) := Int.mul_nonneg (by omega) (by omega)
  omega
theorem tri_diff (a b : Int) : 2 * (tri a - tri b) = (a - b) * (a + b - 1) := by
  have h1 := tri_two a
  have h2 := tri_two b
  have e : (a - b) * (a + b - 1) = a * (a - 1) - b * (b - 1) := by
    rw [Int.sub_mul, Int.mul_sub, Int.mul_sub, Int.mul_sub, Int.mul_sub, Int.mul_add, Int.mul_add, Int.mul_comm b a]
    omega
  omega
/-- an even power divides a product with one odd factor as it divides the other -/
theorem dvd_odd {x y : Int} (hy : y % 2 = 1) : ∀ j : Nat, (2 ^ j : Int) ∣ x * y → (2 ^ j : Int) ∣ x
  | 0, _ => ⟨x, by simp⟩
  | j + 1, h => by
    have h0 : (2 ^ j : Int) ∣ x * y := Int.dvd_trans ⟨2, by rw [Int.pow_succ]⟩ h
    obtain ⟨c, hc⟩ := dvd_odd hy j h0
    obtain ⟨d, hd⟩ := h
    rw [hc, Int.pow_succ, Int.mul_assoc, Int.mul_assoc] at hd
    have hp : (2 ^ j : Int) ≠ 0 := Int.ne_of_gt (Int.pow_pos (by decide))
    have e : c * y = 2 * d := Int.eq_of_mul_eq_mul_left hp hd
    have : c % 2 = 0 := by
      have q : c * y % 2 = 0 := by rw [e]; omega
      rw [Int.mul_emod, hy] at q
      omega
    refine ⟨c / 2, ?_⟩
    rw [hc, Int.pow_succ, Int.mul_assoc]
    congr 1
    omega
theorem tri_dvd {a b : Int} (j : Nat) : (2 ^ j : Int) ∣ tri a - tri b ↔ (2 ^ (j + 1) : Int) ∣ a - b ∨ (2 ^ (j + 1) : Int) ∣ a + b - 1 := by
  have td := tri_diff a b
  have up : (2 ^ j : Int) ∣ tri a - tri b ↔ (2 ^ (j + 1) : Int) ∣ (a - b) * (a + b - 1) := by
    rw [← td, Int.pow_succ, Int.mul_comm]
    exact (Int.mul_dvd_mul_iff_left (by decide)).symm
  rw [up]
  constructor
  · intro h
    by_cases c : (a + b - 1) % 2 = 1
    · exact .inl (dvd_odd c _ h)
    · rw [Int.mul_comm] at h
      exact .inr (dvd_odd (by omega) _ h)
  · rintro (h | h)
    · exact Int.dvd_trans h ⟨_, rfl⟩
    · exact Int.dvd_trans h ⟨_, Int.mul_comm _ _⟩
/-- blocks by remainders -/
theorem blk_eq {m a b : Int} (hm : 0 < m) : blk m a = blk m b ↔ 2 * m ∣ a - b ∨ 2 * m ∣ a + b - 1 := by
  have d1 := Int.emod_add_mul_ediv (a - 1) m
  have n1 := Int.emod_nonneg (a - 1) (b := m) (by omega)
  have l1 := Int.emod_lt_of_pos (a - 1) hm
  have d2 := Int.emod_add_mul_ediv (b - 1) m
  have n2 := Int.emod_nonneg (b - 1) (b := m) (by omega)
  have l2 := Int.emod_lt_of_pos (b - 1) hm
  unfold blk turned
  generalize (a - 1) / m = r at *
  generalize (a - 1) % m = c at *
  generalize (b - 1) / m = t at *
  generalize (b - 1) % m = e at *
  have key : ∀ (x : Int) (q : Int) (u : Int), x = u + q * (2 * m) → -(2 * m) < u → u < 2 * m → (2 * m ∣ x ↔ u = 0) := fun x q u hx h1 h2 => by
    rw [hx]
    constructor
    · rintro ⟨w, hw⟩
      have h3 : u = (w - q) * (2 * m) := by rw [Int.sub_mul, Int.mul_comm w]; omega
      by_cases z : w - q = 0
      · rw [z] at h3; omega
      · exfalso
        by_cases p : 0 < w - q
        · have := Int.mul_le_mul_of_nonneg_right (show 1 ≤ w - q by omega) (show 0 ≤ 2 * m by omega)
          omega
        · have := Int.mul_le_mul_of_nonneg_right (show w - q ≤ -1 by omega) (show 0 ≤ 2 * m by omega)
          omega
    · intro h
      exact ⟨q, by rw [h, Int.zero_add, Int.mul_comm]⟩
  have hr : r = 2 * (r / 2) + r % 2 := by omega
  have ht : t = 2 * (t / 2) + t % 2 := by omega
  have er : m * r = (r / 2) * (2 * m) + (r % 2) * m := by
    conv => lhs; rw [hr]
    rw [Int.mul_add, Int.mul_comm m (r % 2), Int.mul_comm m, Int.mul_assoc, Int.mul_left_comm]
  have et : m * t = (t / 2) * (2 * m) + (t % 2) * m := by
    conv => lhs; rw [ht]
    rw [Int.mul_add, Int.mul_comm m (t % 2), Int.mul_comm m, Int.mul_assoc, Int.mul_left_comm]
  have r2 : r % 2 = 0 ∨ r % 2 = 1 := by omega
  have t2 : t % 2 = 0 ∨ t % 2 = 1 := by omega
  generalize r / 2 = p at *
  generalize t / 2 = q at *
  rcases r2 with r2 | r2 <;> rcases t2 with t2 | t2 <;> rw [r2] at er <;> rw [t2] at et <;> simp only [r2, t2, if_true, if_false, show ¬ ((1 : Int) = 0) by decide]
  · rw [key (a - b) (p - q) (c - e) (by rw [Int.sub_mul]; omega) (by omega) (by omega), key (a + b - 1) (p + q) (c + e + 1) (by rw [Int.add_mul]; omega) (by omega) (by omega)]
    omega
  · rw [key (a - b) (p - q) (c - e - m) (by rw [Int.sub_mul]; omega) (by omega) (by omega), key (a + b - 1) (p + q + 1) (c + e + 1 - m) (by rw [Int.add_mul, Int.add_mul]; omega) (by omega) (by omega)]
    omega
  · rw [key (a - b) (p - q) (c - e + m) (by rw [Int.sub_mul]; omega) (by omega) (by omega), key (a + b - 1) (p + q + 1) (c + e + 1 - m) (by rw [Int.add_mul, Int.add_mul]; omega) (by omega) (by omega)]
    omega
  · rw [key (a - b) (p - q) (c - e) (by rw [Int.sub_mul]; omega) (by omega) (by omega), key (a + b - 1) (p + q + 1) (c + e + 1) (by rw [Int.add_mul, Int.add_mul]; omega) (by omega) (by omega)]
    omega
theorem tri_blk {a b : Int} (j : Nat) : (2 ^ j : Int) ∣ tri a - tri b ↔ blk (p2 j) a = blk (p2 j) b := by
  rw [tri_dvd, blk_eq (p2_pos _)]
  have e : (2 * p2 (j : Int) : Int) = 2 ^ (j + 1) := by
    unfold p2
    rw [Int.toNat_natCast, Int.pow_succ, Int.mul_comm]
  rw [e]
/-! ### the least common level -/
def dif (ss : List Int) (s0 : Int) : Nat := ss.foldl (fun d s => d ||| ((tri s).toNat ^^^ (tri s0).toNat)) 0
theorem dif_fold (s0 : Int) (h0 : 1 ≤ s0) (j : Nat) : ∀ (ss : List Int) (d : Nat), (∀ s ∈ ss, 1 ≤ s) → ((ss.foldl (fun d s => d ||| ((tri s).toNat ^^^ (tri s0).toNat)) d) % 2 ^ j = 0 ↔ d % 2 ^ j = 0 ∧ ∀ s ∈ ss, blk (p2 j) s = blk (p2 j) s0)
  | [], d, _ => by simp
  | s :: r, d, h => by
    have hs := h s (List.mem_cons_self ..)
    rw [List.foldl_cons, dif_fold s0 h0 j r _ (fun x hx => h x (List.mem_cons_of_mem _ hx)), dvd_or, dvd_xor]
    have e : (tri s).toNat % 2 ^ j = (tri s0).toNat % 2 ^ j ↔ (2 ^ j : Int) ∣ tri s - tri s0 := by
      have n1 := tri_nn hs
      have n2 := tri_nn h0
      obtain ⟨x, hx⟩ := Int.eq_ofNat_of_zero_le n1
      obtain ⟨y, hy⟩ := Int.eq_ofNat_of_zero_le n2
      rw [hx, hy, Int.toNat_natCast, Int.toNat_natCast, Int.dvd_iff_emod_eq_zero, ← Int.emod_eq_emod_iff_emod_sub_eq_zero]
      constructor
      · intro q
        exact_mod_cast q
      · intro q
        exact_mod_cast q
    rw [e]
    constructor
    · rintro ⟨⟨a, b⟩, c⟩
      refine ⟨a, fun x hx => ?_⟩
      rcases List.mem_cons.mp hx with rfl | hx
      · exact (tri_blk j).mp b
      · exact c x hx
    · rintro ⟨a, c⟩
      exact ⟨⟨a, (tri_blk j).mpr (c s (List.mem_cons_self ..))⟩, fun x hx => c x (List.mem_cons_of_mem _ hx)⟩
theorem dif_zero {ss : List Int} {s0 : Int} (h0 : 1 ≤ s0) (h : ∀ s ∈ ss, 1 ≤ s) (j : Nat) : dif ss s0 % 2 ^ j = 0 ↔ ∀ s ∈ ss, blk (p2 j) s = blk (p2 j) s0 := by
  unfold dif
  rw [dif_fold s0 h0 j ss 0 h]
  simp
/-- the lowest set bit's place -/
def lowAt (d : Nat) : Int := (PySem.Builtin.Int.intBits ((d - (d &&& (d - 1)) : Nat) : Int) : Int) - 1
theorem lowAt_spec {d : Nat} (h : 0 < d) : 0 ≤ lowAt d ∧ ∀ r : Nat, d % 2 ^ r = 0 ↔ (r : Int) ≤ lowAt d := by
  obtain ⟨v, e1, e2⟩ := and_pred d h
  have e : lowAt d = v := by
    unfold lowAt
    rw [e1]
    unfold PySem.Builtin.Int.intBits
    have hp : (2 : Nat) ^ v ≠ 0 := Nat.pos_iff_ne_zero.mp (Nat.pow_pos (by decide))
    rw [if_neg (by intro z; have z2 : ((2 ^ v : Nat) : Int) = 0 := eq_of_beq z; omega)]
    rw [Int.natAbs_natCast, Nat.log2_two_pow]
    omega
  rw [e]
  refine ⟨by omega, fun r => ?_⟩
  rw [e2]
  omega
def lev (k : Int) (ss : List Int) (s0 : Int) : Int := if dif ss s0 = 0 then 0 else k - lowAt (dif ss s0)
/-- the level is at most h exactly if all stand in one block of level h -/
theorem lev_le {k h : Int} {ss : List Int} {s0 : Int} (hk : 0 ≤ k) (h0 : 1 ≤ s0) (hs0 : s0 ≤ p2 k) (hs : ∀ s ∈ ss, 1 ≤ s ∧ s ≤ p2 k) (l0 : 0 ≤ h) (l1 : h ≤ k) : lev k ss s0 ≤ h ↔ ∀ s ∈ ss, blk (p2 (k - h)) s = blk (p2 (k - h)) s0 := by
  obtain ⟨j, hj⟩ := Int.eq_ofNat_of_zero_le (show 0 ≤ k - h by omega)
  have dz := dif_zero h0 (fun s x => (hs s x).1) j
  rw [hj, ← dz]
  unfold lev
  by_cases c : dif ss s0 = 0
  · rw [if_pos c, c]
    simp [l0]
  · rw [if_neg c, (lowAt_spec (by omega)).2 j]
    omega
theorem lev_range {k : Int} {ss : List Int} {s0 : Int} (hk : 0 ≤ k) (h0 : 1 ≤ s0) (hs0 : s0 ≤ p2 k) (hs : ∀ s ∈ ss, 1 ≤ s ∧ s ≤ p2 k) : 0 ≤ lev k ss s0 ∧ lev k ss s0 ≤ k := by
  obtain ⟨j, hj⟩ := Int.eq_ofNat_of_zero_le hk
  have dz := dif_zero h0 (fun s x => (hs s x).1)
  unfold lev
  by_cases c : dif ss s0 = 0
  · rw [if_pos c]
    omega
  · rw [if_neg c]
    have ls := lowAt_spec (d := dif ss s0) (by omega)
    refine ⟨?_, by omega⟩
    by_cases z : lowAt (dif ss s0) ≤ k
    · omega
    · exfalso
      have e1 := (dz j).mp ((ls.2 j).mpr (by omega))
      have e2 : ∀ s ∈ ss, s = s0 := fun s x => by
        have := e1 s x
        rw [← hj, blk_top (hs s x).1 (hs s x).2, blk_top h0 hs0] at this
        exact this
      have e3 : ∀ r, dif ss s0 % 2 ^ r = 0 := fun r => (dz r).mpr fun s x => by rw [e2 s x]
      have e4 := e3 (dif ss s0)
      rw [Nat.mod_eq_of_lt Nat.lt_two_pow_self] at e4
      exact c e4
/-- places by blocks -/
theorem pl_shift {k s : Int} (h1 : 1 ≤ s) (h2 : s ≤ p2 k) {r : Nat} (hr : (r : Int) ≤ k) : ∀ n : Nat, wy (k - r) (wy k s r) n = wy k s (r + n) ∧ pl k s (r + n) = pl k s r + p2 r * pl (k - r) (wy k s r) n
  | 0 => by simp [wy, pl]
  | n + 1 => by
    obtain ⟨i1, i2⟩ := pl_shift h1 h2 hr n
    have e : k - r - 1 - (n : Int) = k - 1 - ((r + n : Nat) : Int) := by omega
    have e2 : p2 ((r + n : Nat) : Int) = p2 r * p2 n := by rw [show ((r + n : Nat) : Int) = (r : Int) + n by omega, p2_add (by omega) (by omega)]
    constructor
    · show fold1 (p2 (k - r - 1 - n)) (wy (k - r) (wy k s r) n) = fold1 (p2 (k - 1 - ((r + n : Nat) : Int))) (wy k s (r + n))
      rw [i1, e]
    · show (if p2 (k - 1 - ((r + n : Nat) : Int)) < wy k s (r + n) then pl k s (r + n) + p2 ((r + n : Nat) : Int) else pl k s (r + n)) = pl k s r + p2 r * (if p2 (k - r - 1 - n) < wy (k - r) (wy k s r) n then pl (k - r) (wy k s r) n + p2 n else pl (k - r) (wy k s r) n)
      rw [i1, e]
      split
      · rw [i2, e2, Int.mul_add]
        omega
      · exact i2
theorem place_div {k s : Int} (hk : 0 ≤ k) (h1 : 1 ≤ s) (h2 : s ≤ p2 k) {h : Int} (l0 : 0 ≤ h) (l1 : h ≤ k) : placeOf k s / p2 h = placeOf (k - h) (blk (p2 (k - h)) s) := by
  obtain ⟨r, rfl⟩ := Int.eq_ofNat_of_zero_le l0
  obtain ⟨_, e⟩ := pl_shift h1 h2 l1 (k - r).toNat
  have ra := pl_range k s r
  have pp := p2_pos (r : Int)
  unfold placeOf
  rw [show k.toNat = r + (k - r).toNat by omega, e, ← wy_blk h1 h2 r l1, Int.add_mul_ediv_left _ _ (by omega), Int.ediv_eq_zero_of_lt ra.1 ra.2, Int.zero_add]
theorem place_eq {k a b : Int} (hk : 0 ≤ k) (a1 : 1 ≤ a) (a2 : a ≤ p2 k) (b1 : 1 ≤ b) (b2 : b ≤ p2 k) {h : Int} (l0 : 0 ≤ h) (l1 : h ≤ k) : placeOf k a / p2 h = placeOf k b / p2 h ↔ blk (p2 (k - h)) a = blk (p2 (k - h)) b := by
  rw [place_div hk a1 a2 l0 l1, place_div hk b1 b2 l0 l1]
  constructor
  · intro e
    have ra := blk_range (m := p2 (k - h)) (s := a) (p2_pos _)
    have rb := blk_range (m := p2 (k - h)) (s := b) (p2_pos _)
    have ea := seed_place (k := k - h) ra.1 ra.2 (by omega)
    have eb := seed_place (k := k - h) rb.1 rb.2 (by omega)
    rw [← ea, e, eb]
  · intro e
    rw [e]
theorem lev_same {k : Int} {ss : List Int} {s0 : Int} (hk : 0 ≤ k) (h0 : 1 ≤ s0) (hs0 : s0 ≤ p2 k) (hs : ∀ s ∈ ss, 1 ≤ s ∧ s ≤ p2 k) (e : ∀ s ∈ ss, s = s0) : lev k ss s0 = 0 := by
  have h1 := (lev_le hk h0 hs0 hs (Int.le_refl 0) hk).mpr fun s x => by rw [e s x]
  have h2 := lev_range hk h0 hs0 hs
  omega
theorem two_in {k a b : Int} (ha : 1 ≤ a ∧ a ≤ p2 k) (hb : 1 ≤ b ∧ b ≤ p2 k) : ∀ s ∈ [a, b], 1 ≤ s ∧ s ≤ p2 k := fun s hs => by
  simp only [List.mem_cons, List.not_mem_nil, or_false] at hs
  rcases hs with rfl | rfl
  · exact ha
  · exact hb
theorem lev_two {k a b h : Int} (hk : 0 ≤ k) (ha : 1 ≤ a ∧ a ≤ p2 k) (hb : 1 ≤ b ∧ b ≤ p2 k) (l0 : 0 ≤ h) (l1 : h ≤ k) : lev k [a, b] a ≤ h ↔ blk (p2 (k - h)) a = blk (p2 (k - h)) b := by
  rw [lev_le hk ha.1 ha.2 (two_in ha hb) l0 l1]
  constructor
  · intro z
    exact (z b (by simp)).symm
  · intro z s hs
    simp only [List.mem_cons, List.not_mem_nil, or_false] at hs
    rcases hs with rfl | rfl
    · rfl
    · exact z.symm
theorem lev_diff {k a b : Int} (hk : 0 ≤ k) (ha : 1 ≤ a ∧ a ≤ p2 k) (hb : 1 ≤ b ∧ b ≤ p2 k) (h : a ≠ b) : 1 ≤ lev k [a, b] a := by
  by_cases c : lev k [a, b] a ≤ 0
  · have := (lev_two hk ha hb (Int.le_refl 0) hk).mp c
    rw [Int.sub_zero, blk_top ha.1 ha.2, blk_top hb.1 hb.2] at this
    exact absurd this h
  · omega
/-- with one round more the same seeds meet one round later -/
theorem lev_more {k a b : Int} (hk : 0 ≤ k) (ha : 1 ≤ a ∧ a ≤ p2 k) (hb : 1 ≤ b ∧ b ≤ p2 k) (h : a ≠ b) : lev (k + 1) [b, a] b = lev k [a, b] a + 1 := by
  have up := p2_succ hk
  have ha' : 1 ≤ a ∧ a ≤ p2 (k + 1) := by omega
  have hb' : 1 ≤ b ∧ b ≤ p2 (k + 1) := by omega
  have r1 := lev_range hk ha.1 ha.2 (two_in ha hb)
  have r2 := lev_range (show 0 ≤ k + 1 by omega) hb'.1 hb'.2 (two_in hb' ha')
  have d2 := lev_diff (show 0 ≤ k + 1 by omega) hb' ha' (Ne.symm h)
  have e1 : ∀ x, 0 ≤ x → x ≤ k → (lev (k + 1) [b, a] b ≤ x + 1 ↔ lev k [a, b] a ≤ x) := fun x x0 x1 => by
    rw [lev_two hk ha hb x0 x1, lev_two (by omega) hb' ha' (by omega) (by omega), show k + 1 - (x + 1) = k - x by omega]
    exact eq_comm
  have a1 := (e1 _ r1.1 r1.2).mpr (Int.le_refl _)
  have a2 := (e1 (lev (k + 1) [b, a] b - 1) (by omega) (by omega)).mp (by omega)
  omega
/-- the least level of many is the greatest of the pairs' -/
theorem lev_max {k m : Int} {ss : List Int} {s0 : Int} (hk : 0 ≤ k) (h0 : 1 ≤ s0 ∧ s0 ≤ p2 k) (hs : ∀ s ∈ ss, 1 ≤ s ∧ s ≤ p2 k) (hm : ∃ s ∈ ss, m = lev k [s0, s] s0) (ha : ∀ s ∈ ss, lev k [s0, s] s0 ≤ m) : lev k ss s0 = m := by
  have r1 := lev_range hk h0.1 h0.2 hs
  obtain ⟨t, ht, rfl⟩ := hm
  have r2 := lev_range hk h0.1 h0.2 (two_in h0 (hs t ht))
  have e1 : lev k ss s0 ≤ lev k [s0, t] s0 := by
    rw [lev_le hk h0.1 h0.2 hs r2.1 r2.2]
    intro s x
    exact ((lev_two hk h0 (hs s x) r2.1 r2.2).mp (ha s x)).symm
  have e2 : lev k [s0, t] s0 ≤ lev k ss s0 := by
    rw [lev_two hk h0 (hs t ht) r1.1 r1.2]
    exact ((lev_le hk h0.1 h0.2 hs r1.1 r1.2).mp (Int.le_refl _) t ht).symm
  omega
/-- two seeds whose sum is one more than a power of two -/
theorem lev_sum {k t a : Int} (hk : 0 ≤ k) (t0 : 1 ≤ t) (t1 : t ≤ k) (a0 : 1 ≤ a) (a1 : a ≤ p2 t / 2) : lev k [a, p2 t + 1 - a] a = k - t + 1 := by
  have pt := p2_half (show 0 < t by omega)
  have pk := p2_le (k := t) (l := k) t1
  have ha : 1 ≤ a ∧ a ≤ p2 k := by omega
  have hb : 1 ≤ p2 t + 1 - a ∧ p2 t + 1 - a ≤ p2 k := by omega
  have e1 : lev k [a, p2 t + 1 - a] a ≤ k - t + 1 := by
    rw [lev_two hk ha hb (by omega) (by omega), blk_eq (p2_pos _)]
    right
    rw [show k - (k - t + 1) = t - 1 by omega, ← pt]
    exact ⟨1, by omega⟩
  have e2 : ¬ lev k [a, p2 t + 1 - a] a ≤ k - t := by
    rw [lev_two hk ha hb (by omega) (by omega), blk_eq (p2_pos _), show k - (k - t) = t by omega]
    rintro (⟨c, hc⟩ | ⟨c, hc⟩)
    · have e : a - (p2 t + 1 - a) = 2 * (p2 t * c) := by rw [hc, Int.mul_assoc]
      omega
    · have e : a + (p2 t + 1 - a) - 1 = p2 t * (2 * c) := by rw [hc, Int.mul_comm 2 (p2 t), Int.mul_assoc]
      have pp := p2_pos t
      have : (1 : Int) = 2 * c := by
        refine Int.eq_of_mul_eq_mul_left (Int.ne_of_gt pp) ?_
        omega
      omega
  omega
theorem getD_range {ss : List Int} {n : Nat} (h : ss.length = n) : ((List.range n).map fun j => ss.getD j 0) = ss := by
  apply List.ext_getElem
  · simp [h]
  · intro i h1 h2
    rw [List.getElem_map, List.getElem_range, List.getD_eq_getElem?_getD, List.getElem?_eq_getElem h2]
    rfl
end SC

set_option Elab.async false
set_option linter.all false
set_option maxRecDepth 100000
set_option maxHeartbeats 4000000
/-! Star defs, their calls; walks over tuples; scalar equality. -/
namespace SC
open PySem PySem.Spec PyProof.Rows L2 StX
def spStar (n : Nat) (sp : Sp) : Sp := fun vs H Q E => ∃ ws rest, vs = ws ++ rest ∧ ws.length = n ∧ rest.length ≤ sizeLine ∧ ∀ p, H p = Option.none → sp (ws ++ [V.ref p]) (upd H p (.tup rest)) Q E
section
variable {P : Program} {w : World} {K : PySem.W.Frag} {mg : Str → Option Value} {base : Heap}
theorem okStar {x qual : Str} {st : Stmt} {f : Addr} {fd : FuncData} {N ps : List Str} {pv : Str} {k : Nat} {sp : Sp} (F : Fun K x qual st f fd) (S : FnScope N (ps ++ [pv]) (defScope st))
    (hb : ∀ (kV doc pm : Value) (an : Option Addr) (cdv ct : Value) (us rest : List Value), us.length = ps.length → bindArgs (PySem.W.fnOf x qual (defArgs st) (defBody st) (defScope st) .none kV doc pm an cdv ct) ⟨us ++ rest, []⟩ = (newTuple rest >>= fun t => pure (ps.zip us ++ [(pv, t)])))
    (hbody : ∀ (cdv : Value) (A : Around) (outer : List Env) (s : Shared) (H : Hp) (vs : List V) (Q : VK) (E : XK), Room k (A.deeper (envOfC qual (defScope st) s.heap.objs.size f cdv)) → sp vs H Q E →
      ∃ t, PSs (cxOf CX0 P w K mg base N qual (defScope st) f cdv A outer s H E).nox (defBody st) t ∧ t { nx := fun _ H' => Q .non H', rt := Q } (start N vs) H) : FnR P w K mg base CX0 (k + 1) f (spStar ps.length sp) := by
  obtain ⟨oc, od, kV, doc, pm, an, cdv, ct, osl, rfl, lk, hcd⟩ := F.ex
  refine fn_star lk hcd S cxUp_none (hb kV doc pm an cdv ct) fun A outer s H vs Q E hr hsp => ?_
  obtain ⟨t, h, q⟩ := hbody cdv A outer s H vs Q E hr hsp
  exact ⟨t, h.nox, q⟩
/-- a promise by keywords alone -/
def FnRk (P : Program) (w : World) (K : PySem.W.Frag) (mg : Str → Option Value) (base : Heap) (CX : CXT) (k : Nat) (f : Addr) (ks : List Str) (sp : Sp) : Prop :=
  ∀ (A : Around) (outer : List Env) (s : Shared) (H : Hp) (ws : List Value) (zs : List V) (Q : VK) (E : XK), Room k A → Env0 P w K mg base A outer s H → Vals zs ws → zs.length = ks.length → sp zs H Q E →
    codeAny (model P w) A (.call (.ref f) ⟨[], ks.zip ws⟩) (CR CX outer P w H s Q E) s
def spStarK (idx : List Nat) (sp : Sp) : Sp := fun zs H Q E => ∀ p, H p = Option.none → sp (pickBy .non idx [] zs ++ [V.ref p]) (upd H p (.tup [])) Q E
theorem okStarK {x qual : Str} {st : Stmt} {f : Addr} {fd : FuncData} {N ps ks : List Str} {pv : Str} {k : Nat} {sp : Sp} (idx : List Nat) (hi : idx.length = ps.length) (F : Fun K x qual st f fd) (S : FnScope N (ps ++ [pv]) (defScope st))
    (hb : ∀ (kV doc pm : Value) (an : Option Addr) (cdv ct : Value) (ws : List Value), ws.length = ks.length → bindArgs (PySem.W.fnOf x qual (defArgs st) (defBody st) (defScope st) .none kV doc pm an cdv ct) ⟨[], ks.zip ws⟩ = (newTuple [] >>= fun t => pure (ps.zip (pickBy .none idx [] ws) ++ [(pv, t)])))
    (hbody : ∀ (cdv : Value) (A : Around) (outer : List Env) (s : Shared) (H : Hp) (vs : List V) (Q : VK) (E : XK), Room k (A.deeper (envOfC qual (defScope st) s.heap.objs.size f cdv)) → sp vs H Q E →
      ∃ t, PSs (cxOf CX0 P w K mg base N qual (defScope st) f cdv A outer s H E).nox (defBody st) t ∧ t { nx := fun _ H' => Q .non H', rt := Q } (start N vs) H) : FnRk P w K mg base CX0 (k + 1) f ks (spStarK idx sp) := by
  obtain ⟨oc, od, kV, doc, pm, an, cdv, ct, osl, rfl, lk, hcd⟩ := F.ex
  intro A outer s H ws zs Q E hr e0 r hl hsp
  have hn : H s.heap.objs.size = Option.none := e0.hok.fresh (Nat.le_refl _)
  refine run_bnd lk hcd S hr e0 (G := fun xs H2 => ∃ p, H p = Option.none ∧ xs = pickBy .non idx [] zs ++ [V.ref p] ∧ H2 = upd H p (.tup [])) (fun A' Ex Q' h => ?_) fun s2 H2 xs ⟨p, hp, ex, eH⟩ hr' => ?_
  · rw [hb kV doc pm an cdv ct ws (by rw [← r.length]; exact hl)]
    refine wpAny_bind (wpAny_newTuple (wpAny_pure ?_) (Nat.zero_le _))
    have new : ObjOk P w (upd H s.heap.objs.size (.tup [])) (s.heap.push ({ cls := .type "tuple", data := .seq ([] : List Value).toArray } : Obj)) s.heap.objs.size (.tup []) := ⟨Nat.zero_le _, [], .nil, ⟨_, Heap.get?_push_size _ rfl, rfl, _, rfl⟩⟩
    have un := un_laid (fs := frs outer) (s := s) (o := ({ cls := .type "tuple", data := .seq ([] : List Value).toArray } : Obj)) (u := .tup []) hn
    have r1 : Vals (pickBy .non idx [] zs) (pickBy .none idx [] ws) := vals_pick .nil r idx
    have l1 : (pickBy .none idx [] ws).length = ps.length := by rw [← hi]; simp [pickBy]
    have z := h _ _ (pickBy .non idx [] zs ++ [V.ref s.heap.objs.size]) (pickBy .none idx [] ws ++ [Value.ref s.heap.objs.size]) (env0_laid e0 new) un rfl (fun e s' z => False.elim z) (r1.append (.cons rfl .nil))
      (by rw [List.length_append, List.length_append, r1.length, l1] <;> rfl) ⟨_, hn, rfl, rfl⟩
    rw [List.zip_append l1.symm] at z
    exact z
  · subst ex eH
    obtain ⟨t, h, q⟩ := hbody cdv A outer s2 _ _ Q E hr' (hsp p hp)
    exact ⟨t, h.nox, q⟩
end
section
variable {X : Cx} {CX : CXT} {k : Nat} {f : Addr} {ks : List Str} {sp : Sp} {E : XK} {x : Str} {p pos : Pos} {e : Expr} {es : List Expr} {kws : List Keyword} {t tk : TA}
def tCallR (sp : Sp) (E : XK) (t : TA) : TE := fun σ H Q => t σ H fun vs H1 => sp vs H1 Q E
theorem pe_callR (F : FnR X.prog X.w X.K X.mg X.base CX k f sp) (hr : Room k X.A) (hg : Gl X x) (hm : X.mg x = some (.ref f)) (hk : PySem.W.keepIn X.K (.ref f) = true) (hx : Passes CX X E)
    (ha : PA X (e :: es) t) (hdb : (x == ("__debug__" : Str)) = false := by decide) (he : starEach (e :: es) X.env = (false, eval e X.env) :: starEach es X.env := by rfl) (hpl : (backTo pos (starEach es X.env)).any (·.1) = false := by rfl) :
    PE X (.Call (.Name x p) (e :: es) [] pos) (tCallR sp E t) := by
  refine ⟨fun pins s σ H Q I h => ?_⟩
  refine wpAny_Call_Name_kw (ld_glob I hg hm ?_ hdb)
  refine PySem.W.callWith_K (h₀ := X.base) I.ok.mod.kin hk (thn (ha.run pos pins s σ H _ I h) fun us s1 ⟨vs, H1, I1, r, q⟩ => ⟨I1.kIn, ?_⟩) he hpl
  exact wpAny_call (run_fnR F hr hx I1 r q)
def tCallRk (n : Nat) (sp : Sp) (E : XK) (tk : TA) : TE := fun σ H Q => tk σ H fun zs H1 => zs.length = n ∧ sp zs H1 Q E
theorem pe_callRk (F : FnRk X.prog X.w X.K X.mg X.base CX k f ks sp) (hr : Room k X.A) (hg : Gl X x) (hm : X.mg x = some (.ref f)) (hk : PySem.W.keepIn X.K (.ref f) = true) (hx : Passes CX X E)
    (hkw : PK X kws tk) (hall : (backToKw pos (keywordEach kws X.env)).all (·.1.isSome) = true := by rfl) (hks : (backToKw pos (keywordEach kws X.env)).filterMap (·.1) = ks := by rfl)
    (hdb : (x == ("__debug__" : Str)) = false := by decide) (hpl : ((backTo pos (starEach [] X.env)).any (·.1) || (backToKw pos (keywordEach kws X.env)).any (·.1.isNone)) = false := by rfl) :
    PE X (.Call (.Name x p) [] kws pos) (tCallRk ks.length sp E tk) := by
  refine ⟨fun pins s σ H Q I h => ?_⟩
  refine wpAny_Call_Name_kw (ld_glob I hg hm ?_ hdb)
  refine PySem.W.callWith_KW0 (h₀ := X.base) I.ok.mod.kin hk hall ?_ hpl
  refine thn (hkw.run pos pins s σ H _ I h) fun ws s2 ⟨zs, H2, I2, rz, l, q⟩ => ⟨I2.kIn, ?_⟩
  rw [hks]
  refine wpAny_call (codeAny_mono (F X.A X.stack s2 H2 ws zs Q E hr I2.env0 rz l q) fun r s' hq => ?_)
  cases r with
  | error e => exact hx pins σ H2 s2 e s' I2 hq
  | ok fl =>
    cases fl with
    | ret u => exact I2.after hq
    | next => exact False.elim hq
    | brk => exact False.elim hq
    | cont => exact False.elim hq
end
section
variable {K : PySem.W.Frag} {σ : L2.St} {H : Hp} {Q : VK} {t tk : TA} {te : TE} {sp : Sp} {E : XK} {n : Nat} {D : Ends} {tb : TS} {g : TG}
def CallRk (n : Nat) (sp : Sp) (E : XK) (zs : List V) (H : Hp) (Q : VK) : Prop := zs.length = n ∧ sp zs H Q E
theorem w_callR (k : t σ H fun vs H1 => sp vs H1 Q E) : tCallR sp E t σ H Q := k
theorem w_callRk (k : tk σ H fun zs H1 => CallRk n sp E zs H1 Q) : tCallRk n sp E tk σ H Q := k
theorem w_rk {zs : List V} (k : sp zs H Q E) (h : zs.length = n := by rfl) : CallRk n sp E zs H Q := ⟨h, k⟩
def Starred (K : PySem.W.Frag) (x : V) (H1 : Hp) (R : List V → Prop) : Prop := ∃ p xs, x = V.ref p ∧ (SqT K H1 p xs ∨ SqL K H1 p xs) ∧ R xs
theorem w_star {R : List V → Hp → Prop} (k : te σ H fun x H1 => Starred K x H1 fun xs => t σ H1 fun ys H2 => R (xs ++ ys) H2) : tStar K te t σ H R := k
theorem w_starT {p : Addr} {xs : List V} {R : List V → Prop} (h : SqT K H p xs) (k : R xs) : Starred K (.ref p) H R := ⟨p, xs, rfl, .inl h, k⟩
theorem w_bits (k : te σ H fun x H1 => ∃ i, x = .int i ∧ Q (.int (Builtin.Int.intBits i : Nat)) H1) : tBits te σ H Q := k
theorem w_ltup {a : Addr} {xs : List V} (hx : SqT K H a xs) (Pv : Nat → L2.St → Hp → Prop) (h0 : Pv 0 σ H) (hl : ∀ i σ' H', i ≤ xs.length → Pv i σ' H' → SqT K H' a xs)
    (hs : ∀ i x σ' H', xs[i]? = some x → Pv i σ' H' → g x σ' H' fun σ2 H2 => tb { D with nx := Pv (i + 1), ct := Pv (i + 1), bk := D.nx } σ2 H2) (hd : ∀ σ' H', Pv xs.length σ' H' → D.nx σ' H') :
    ∃ b, V.ref a = .ref b ∧ (∃ xs, SqT K H b xs) ∧ Loop (Itt K b) g tb D σ H := ⟨a, rfl, ⟨xs, hx⟩, for_tup Pv h0 hl hs hd⟩
end
theorem same_seqT {K : PySem.W.Frag} {H H' : Hp} {a : Addr} {xs : List V} (e : Sm H H') (h : SqT K H a xs) : SqT K H' a xs := by
  rcases h with (h | ⟨o, h⟩) | h
  · exact .inl (.inl (e _ _ h))
  · exact .inl (.inr ⟨o, e _ _ h⟩)
  · exact .inr h
/-! isinstance of a scalar against a new tuple of classes, one class -/
section
variable {K : PySem.W.Frag} {H : Hp} {Q : VK} {i : Int} {b : Bool} {p : Addr}
theorem w_isiT_i (h : H p = some (.tup [.ty "list", .ty "tuple"])) (k : Q (.bl false) H) : rIsiT K [.int i, .ref p] H Q :=
  ⟨_, _, _, _, _, false, rfl, h, .cons (.ty _) (.cons (.ty _) .nil), .base (.int i), kitAny_cons (kit_ty (b := "list") (r := false) (by decide +kernel)) (fun _ => kitAny_cons (kit_ty (b := "tuple") (r := false) (by decide +kernel)) (fun _ => kitAny_nil) (fun z => nomatch z)) (fun z => nomatch z), k⟩
theorem w_isiT_b (h : H p = some (.tup [.ty "list", .ty "tuple"])) (k : Q (.bl false) H) : rIsiT K [.bl b, .ref p] H Q :=
  ⟨_, _, _, _, _, false, rfl, h, .cons (.ty _) (.cons (.ty _) .nil), .base (.bl b), kitAny_cons (kit_ty (b := "list") (r := false) (by decide +kernel)) (fun _ => kitAny_cons (kit_ty (b := "tuple") (r := false) (by decide +kernel)) (fun _ => kitAny_nil) (fun z => nomatch z)) (fun z => nomatch z), k⟩
theorem w_isiT_l {a : Addr} {xs : List V} (ha : H a = some (.lst xs)) (h : H p = some (.tup [.ty "list", .ty "tuple"])) (k : Q (.bl true) H) : rIsiT K [.ref a, .ref p] H Q :=
  ⟨_, _, _, _, _, true, rfl, h, .cons (.ty _) (.cons (.ty _) .nil), .base (.lst ha), kitAny_cons (kit_ty (b := "list") (r := true) (by decide +kernel)) (fun z => nomatch z) (fun _ => rfl), k⟩
theorem w_isi_ll {a : Addr} {xs : List V} (ha : H a = some (.lst xs)) (k : Q (.bl true) H) : rIsi K [.ref a, .ty "list"] H Q := ⟨_, _, _, _, true, rfl, .ty _, .base (.lst ha), kit_ty (by decide +kernel), k⟩
theorem w_all {a : Addr} {bs : List Bool} (h : SqL K H a (bs.map V.bl)) (k : Q (.bl (bs.all id)) H) : rAll K [.ref a] H Q := ⟨a, bs, rfl, h, k⟩
theorem w_max {a : Addr} {ns : List Int} (h : SqL K H a (ns.map V.int)) (h0 : 0 < ns.length) (k : ∀ m, m ∈ ns → (∀ y, y ∈ ns → y ≤ m) → Q (.int m) H) : rMax K [.ref a] H Q := ⟨a, ns, rfl, h, h0, k⟩
theorem w_isi_bb (k : Q (.bl true) H) : rIsi K [.bl b, .ty "bool"] H Q := ⟨_, _, _, _, true, rfl, .ty _, .base (.bl b), kit_ty (by decide +kernel), k⟩
end
end SC

set_option Elab.async false
set_option linter.all false
set_option maxHeartbeats 1000000
/-! Dicts of ints, lists made of draws, the bracket as a list and its meetings. -/
namespace SC
open PySem PySem.Spec PyProof.Rows L2
section
variable {K : PySem.W.Frag} {σ : L2.St} {H : Hp} {Q : VK} {D : Ends} {ta : TA} {td ty tv te : TE} {a : Addr} {kvs : List (Key × V)} {x : Int} {v : V}
def rLenD : List V → Hp → VK → Prop := fun xs H Q => ∃ a kvs, xs = [V.ref a] ∧ H a = some (.dK kvs) ∧ Q (.int kvs.length) H
theorem c_lenD {X : Cx} : CallR X (.builtin "len") rLenD := call_lenD
theorem w_lenD (e : H a = some (.dK kvs)) (k : Q (.int kvs.length) H) : rLenD [.ref a] H Q := ⟨a, kvs, rfl, e, k⟩
theorem w_dnew (k : ∀ p H', Sm H H' → H p = none → H' p = some (.dK []) → Q (.ref p) H') : tDNewK σ H Q := fun p hp => k p _ (same_upd hp) hp upd_same
theorem w_sdput (k : tv σ H fun v H1 => td σ H1 fun x H2 => ty σ H2 fun y H3 => ∃ a H4, x = .ref a ∧ DPut H3 a y v H4 ∧ D.nx σ H4) : sDPut td ty tv D σ H := k
theorem w_put {R : Hp → Prop} (e : H a = some (.dK kvs)) (hl : kvs.length < 1000000) (k : R (upd H a (.dK (putK kvs (.inl x) v)))) : ∃ b H4, V.ref a = .ref b ∧ DPut H b (.int x) v H4 ∧ R H4 :=
  ⟨a, _, rfl, DPut.k (k := .inl x) e (Nat.lt_of_lt_of_le hl (by decide)), k⟩
theorem w_dget' (k : td σ H fun x H1 => ty σ H1 fun y H2 => ∃ a v, x = .ref a ∧ DGet H2 a y (some v) ∧ Q v H2) : tDGet td ty σ H Q := k
theorem w_get (e : H a = some (.dK kvs)) (hv : valV kvs (.inl x) = some v) (k : Q v H) : ∃ b u, V.ref a = .ref b ∧ DGet H b (.int x) (some u) ∧ Q u H :=
  ⟨a, v, rfl, by rw [← hv]; exact DGet.k (k := .inl x) e, k⟩
theorem w_glst {xs : List V} {n : Nat} {g : TGs} {R : L2.St → Hp → Prop} (h : SqL K H a xs) (hl : xs.length = n) (k : g xs σ H R) : gLst K n g (.ref a) σ H R := ⟨a, xs, rfl, h, hl, k⟩
/-- a comprehension over a range, by what holds after each turn -/
theorem w_lcrI {n : Int} {vs : List Nat} {j : Nat} (J : Nat → List V → Addr → Hp → Prop) (h1 : 0 ≤ n) (h2 : n ≤ 1000000) (hw : ∀ x, wipe ((wipe σ vs).set j (some x)) vs = wipe σ vs)
    (h0 : ∀ p H', Sm H H' → H p = none → H' p = some (.lst []) → J 0 [] p H')
    (he : ∀ (i : Nat) xs p H', (i : Int) < n → H p = none → xs.length = i → J i xs p H' → H' p = some (.lst xs) → ∀ R : VK, (∀ y H2, H2 p = some (.lst xs) → J (i + 1) (xs ++ [y]) p (upd H2 p (.lst (xs ++ [y]))) → R y H2) → te ((wipe σ vs).set j (some (.int (i : Int)))) H' R)
    (k : ∀ xs p H', H p = none → xs.length = n.toNat → J n.toNat xs p H' → H' p = some (.lst xs) → Q (.ref p) H') :
    ∃ m : Int, [V.int n] = [.int m] ∧ -(2 ^ 62) ≤ m ∧ m < 2 ^ 62 ∧ LcB (Itr 0 m.toNat) (gName j) tYes te vs σ H Q := by
  refine ⟨n, rfl, by omega, by omega, fun D hD => ?_⟩
  refine lc_range (lo := 0) (n := n.toNat) (fun i H' => ∃ xs, J i xs D H' ∧ H' D = some (.lst xs) ∧ xs.length = i) ⟨[], h0 D _ (same_upd hD) hD upd_same, upd_same, rfl⟩ (fun i H' hi p => ?_) (fun H' p => ?_)
  · obtain ⟨xs, hJ, hx, hl⟩ := p
    have e0 : (0 : Int) + (i : Int) = (i : Int) := Int.zero_add _
    show wipe ((wipe σ vs).set j (some (.int ((0 : Int) + (i : Int))))) vs = wipe σ vs ∧ te ((wipe σ vs).set j (some (.int ((0 : Int) + (i : Int))))) H' _
    rw [e0]
    refine ⟨hw _, he i xs D H' (by omega) hD hl hJ hx _ fun y H2 e2 j2 => ⟨_, e2, ?_, _, j2, upd_same, by simp [hl]⟩⟩
    exact Nat.lt_of_lt_of_le (show xs.length < 1000000 by omega) (by decide)
  · obtain ⟨xs, hJ, hx, hl⟩ := p
    exact k xs D H' hD hl hJ hx
end
/-! ### the bracket as a list -/
theorem brk_all : ∀ (n : Nat) (s : Int), 1 ≤ s → s ≤ p2 n → s ∈ brk n
  | 0, s, h1, h2 => by
    have e : p2 ((0 : Nat) : Int) = 1 := p2_zero
    have : s = 1 := by omega
    subst this
    exact List.mem_singleton.mpr rfl
  | n + 1, s, h1, h2 => by
    have e := p2_succ (k := (n : Int)) (by omega)
    have e2 : p2 ((n + 1 : Nat) : Int) = 2 * p2 n := by rw [Int.natCast_add]; exact e
    have ez : p2 (0 + (n : Int)) = p2 n := by rw [Int.zero_add]
    show s ∈ (ext 0 1 n).flatMap fun x => [x, 2 * p2 (0 + (n : Int)) + 1 - x]
    rw [List.mem_flatMap]
    by_cases c : s ≤ p2 n
    · exact ⟨s, brk_all n s h1 c, by simp⟩
    · refine ⟨2 * p2 n + 1 - s, brk_all n _ (by omega) (by omega), ?_⟩
      rw [ez]
      simp only [List.mem_cons, List.not_mem_nil, or_false]
      omega
theorem brk_nd (n : Nat) : (brk n).Nodup := ext_nd (m := 0) (s := 1) (by omega) (by omega) (by rw [p2_zero]; omega) n
theorem p2_nat (h : Nat) : p2 (h : Int) = ((2 ^ h : Nat) : Int) := by
  have := pow_p2 (h := (h : Int)) (by omega)
  rw [Int.toNat_natCast] at this
  exact this.symm
theorem brk_blk {n h i : Nat} {x : Int} (hn : h ≤ n) (hx : (brk n)[i]? = some x) : (brk (n - h))[i / 2 ^ h]? = some (blk (p2 ((n : Int) - h)) x) := by
  have hi : i < 2 ^ n := by
    have := (List.getElem?_eq_some_iff.mp hx).1
    rwa [brk_len] at this
  have en : 2 ^ n = 2 ^ (n - h) * 2 ^ h := by rw [← Nat.pow_add]; congr 1; omega
  have hq : i / 2 ^ h < 2 ^ (n - h) := by
    rw [Nat.div_lt_iff_lt_mul (Nat.pow_pos (by decide))]
    omega
  have hb : i / 2 ^ h < (brk (n - h)).length := by rw [brk_len]; exact hq
  have ex : (brk (n - h))[i / 2 ^ h]? = some (brk (n - h))[i / 2 ^ h] := List.getElem?_eq_getElem hb
  generalize hs : (brk (n - h))[i / 2 ^ h] = s at ex
  have hin := brk_in (n - h) s (by rw [← hs]; exact List.getElem_mem _)
  have ee : brk n = (brk (n - h)).flatMap fun y => ext (0 + ((n - h : Nat) : Int)) y h := by
    have := ext_two 0 1 (n - h) h
    rw [show n - h + h = n by omega] at this
    exact this
  have hc := cut_parts (f := fun y => ext (0 + ((n - h : Nat) : Int)) y h) (z := 2 ^ h) (brk (n - h)) (i / 2 ^ h) s (fun y => ext_len _ _ _) ex
  rw [← ee] at hc
  have hm : x ∈ ext (0 + ((n - h : Nat) : Int)) s h := by
    rw [← hc]
    have r := Nat.mod_lt i (Nat.pow_pos (n := h) (show 0 < 2 by decide))
    have e3 : ((brk n).drop (i / 2 ^ h * 2 ^ h)).take (2 ^ h) = ((brk n).drop (i / 2 ^ h * 2 ^ h)).take (2 ^ h) := rfl
    refine List.mem_of_getElem? (i := i % 2 ^ h) ?_
    rw [List.getElem?_take, if_pos r, List.getElem?_drop, Nat.div_add_mod']
    exact hx
  rw [Int.zero_add] at hm
  have bb := (ext_in (m := ((n - h : Nat) : Int)) (by omega) hin.1 hin.2 h x hm).2
  rw [show ((n : Int) - h) = ((n - h : Nat) : Int) by omega, bb]
  exact ex
theorem brk_inj {n i j : Nat} {x : Int} (h1 : (brk n)[i]? = some x) (h2 : (brk n)[j]? = some x) : i = j := by
  have hi := (List.getElem?_eq_some_iff.mp h1).1
  exact (List.getElem?_inj hi (brk_nd n)).mp (h1.trans h2.symm)
theorem brk_meet {n i j h : Nat} {a b : Int} (hi : (brk n)[i]? = some a) (hj : (brk n)[j]? = some b) (hh : h ≤ n) : lev n [a, b] a ≤ h ↔ (i : Int) / p2 h = (j : Int) / p2 h := by
  have ha := brk_in n a (List.mem_of_getElem? hi)
  have hb := brk_in n b (List.mem_of_getElem? hj)
  rw [lev_two (by omega) ha hb (by omega) (by omega), p2_nat h]
  have x1 := brk_blk hh hi
  have x2 := brk_blk hh hj
  constructor
  · intro e
    rw [e] at x1
    have := brk_inj x1 x2
    rw [← Int.natCast_ediv, ← Int.natCast_ediv, this]
  · intro e
    have e2 : i / 2 ^ h = j / 2 ^ h := by
      rw [← Int.natCast_ediv, ← Int.natCast_ediv] at e
      exact Int.ofNat.inj e
    rw [e2, x2] at x1
    exact (Option.some.inj x1).symm
/-- the place of each seed -/
def PD (n : Nat) (kvs : List (Key × V)) : Prop := kvs.length = 2 ^ n ∧ ∀ (i : Nat) x, (brk n)[i]? = some x → valV kvs (.inl x) = some (.int (i : Int))
theorem PD.at_ {n : Nat} {kvs : List (Key × V)} (h : PD n kvs) {a : Int} (ha : 1 ≤ a ∧ a ≤ p2 n) : ∃ i : Nat, (brk n)[i]? = some a ∧ valV kvs (.inl a) = some (.int (i : Int)) := by
  obtain ⟨i, hi⟩ := List.getElem?_of_mem (brk_all n a ha.1 ha.2)
  exact ⟨i, hi, h.2 i a hi⟩
/-- after d seeds -/
def PDn (n d : Nat) (kvs : List (Key × V)) : Prop := kvs.length = d ∧ (∀ (i : Nat) x, i < d → (brk n)[i]? = some x → valV kvs (.inl x) = some (.int (i : Int))) ∧ ∀ (i : Nat) x, d ≤ i → (brk n)[i]? = some x → valV kvs (.inl x) = none
theorem PDn.zero (n : Nat) : PDn n 0 [] := ⟨rfl, fun _ _ h => absurd h (Nat.not_lt_zero _), fun _ _ _ _ => rfl⟩
theorem PDn.put {n d : Nat} {kvs : List (Key × V)} {x : Int} (h : PDn n d kvs) (hx : (brk n)[d]? = some x) : PDn n (d + 1) (putK kvs (.inl x) (.int (d : Int))) := by
  obtain ⟨h1, h2, h3⟩ := h
  refine ⟨?_, fun i y hi hy => ?_, fun i y hi hy => ?_⟩
  · rw [putK_new _ (h3 d x (Nat.le_refl _) hx), List.length_append, h1]
    rfl
  · rw [valV_put]
    split
    · rename_i e
      have e := Sum.inl.inj e
      subst e
      rw [brk_inj hy hx]
    · rename_i e
      refine h2 i y ?_ hy
      by_cases z : i = d
      · subst z
        rw [hx] at hy
        exact absurd (by rw [Option.some.inj hy]) e
      · omega
  · rw [valV_put, if_neg, h3 i y (by omega) hy]
    intro e
    have e := Sum.inl.inj e
    subst e
    have := brk_inj hy hx
    omega
theorem PDn.done {n : Nat} {kvs : List (Key × V)} (h : PDn n (2 ^ n) kvs) : PD n kvs := ⟨h.1, fun i x hx => h.2.1 i x (by
  have := (List.getElem?_eq_some_iff.mp hx).1
  rwa [brk_len] at this) hx⟩
theorem lev_sym {k a b : Int} (hk : 0 ≤ k) (ha : 1 ≤ a ∧ a ≤ p2 k) (hb : 1 ≤ b ∧ b ≤ p2 k) : lev k [b, a] b = lev k [a, b] a := by
  have r1 := lev_range (k := k) (s0 := a) hk ha.1 ha.2 (two_in ha hb)
  have r2 := lev_range (k := k) (s0 := b) hk hb.1 hb.2 (two_in hb ha)
  have e : ∀ h, 0 ≤ h → h ≤ k → (lev k [b, a] b ≤ h ↔ lev k [a, b] a ≤ h) := fun h l0 l1 => by
    rw [lev_two hk hb ha l0 l1, lev_two hk ha hb l0 l1]
    exact ⟨Eq.symm, Eq.symm⟩
  have x1 := (e _ r1.1 r1.2).mpr (Int.le_refl _)
  have x2 := (e _ r2.1 r2.2).mp (Int.le_refl _)
  omega
/-- the level of a set, whoever is named first -/
theorem lev_any {k h a b : Int} {s t : List Int} (hk : 0 ≤ k) (hs : ∀ x ∈ s, 1 ≤ x ∧ x ≤ p2 k) (ha : a ∈ s) (hb : b ∈ t) (e : ∀ x, x ∈ s ↔ x ∈ t) (l0 : 0 ≤ h) (l1 : h ≤ k) : lev k s a ≤ h ↔ lev k t b ≤ h := by
  have ht : ∀ x ∈ t, 1 ≤ x ∧ x ≤ p2 k := fun x hx => hs x ((e x).mpr hx)
  rw [lev_le hk (hs a ha).1 (hs a ha).2 hs l0 l1, lev_le hk (ht b hb).1 (ht b hb).2 ht l0 l1]
  constructor
  · intro z x hx
    rw [z x ((e x).mpr hx), z b ((e b).mpr hb)]
  · intro z x hx
    rw [z x ((e x).mp hx), z a ((e a).mp ha)]
theorem lev_nil {k a : Int} : lev k [] a = 0 := by
  unfold lev dif
  simp
theorem lev_one {k a : Int} (hk : 0 ≤ k) (ha : 1 ≤ a ∧ a ≤ p2 k) : lev k [a] a = 0 :=
  lev_same hk ha.1 ha.2 (fun s hs => by rw [List.mem_singleton.mp hs]; exact ha) fun s hs => List.mem_singleton.mp hs
theorem six {xs : List V} {P : Int → Prop} (hl : xs.length = 6) (h : ∀ x ∈ xs, ∃ z, x = V.int z ∧ P z) : ∃ a b c d e f : Int, xs = [.int a, .int b, .int c, .int d, .int e, .int f] ∧ P a ∧ P b ∧ P c ∧ P d ∧ P e ∧ P f := by
  match xs, hl with
  | [x1, x2, x3, x4, x5, x6], _ =>
    obtain ⟨a, rfl, ha⟩ := h x1 (by simp)
    obtain ⟨b, rfl, hb⟩ := h x2 (by simp)
    obtain ⟨c, rfl, hc⟩ := h x3 (by simp)
    obtain ⟨d, rfl, hd⟩ := h x4 (by simp)
    obtain ⟨e, rfl, he⟩ := h x5 (by simp)
    obtain ⟨f, rfl, hf⟩ := h x6 (by simp)
    exact ⟨a, b, c, d, e, f, rfl, ha, hb, hc, hd, he, hf⟩
/-- a tuple of two seeds -/
def PairOk (n : Nat) (x : V) (H : Hp) : Prop := ∃ (q : Addr) (u v : Int), x = .ref q ∧ H q = some (.tup [.int u, .int v]) ∧ (1 ≤ u ∧ u ≤ p2 n) ∧ (1 ≤ v ∧ v ≤ p2 n)
theorem PairOk.go {n : Nat} {x : V} {H H' : Hp} (h : PairOk n x H) (g : ∀ q ys, H q = some (.tup ys) → H' q = some (.tup ys)) : PairOk n x H' := by
  obtain ⟨q, u, v, e, hq, hu, hv⟩ := h
  exact ⟨q, u, v, e, g _ _ hq, hu, hv⟩
theorem PairOk.same {n : Nat} {x : V} {H H' : Hp} (h : PairOk n x H) (g : Sm H H') : PairOk n x H' := h.go fun q ys e => g q _ e
theorem PairOk.kp {n : Nat} {x : V} {H H' : Hp} {a : Addr} {N : Int} (h : PairOk n x H) (s : Src a N H) (g : Kp a H H') : PairOk n x H' := h.go fun q ys e => g q _ (fun z => by
  subst z
  obtain ⟨_, _, _, z, _⟩ := s
  rw [z] at e
  cases e) e
theorem PairOk.upd {n : Nat} {x : V} {H : Hp} {p : Addr} {xs : List V} {o : HO} (h : PairOk n x H) (hp : H p = some (.lst xs)) : PairOk n x (upd H p o) := h.go fun q ys e => by
  rw [upd_ne]
  · exact e
  · intro z
    subst z
    rw [hp] at e
    cases e
theorem pickV {xs : List V} {r : Int} (h0 : 0 ≤ r) (h1 : r < (xs.length : Int)) : ∃ x, atI xs r = some x ∧ x ∈ xs := by
  have hl : r.toNat < xs.length := by omega
  refine ⟨xs[r.toNat], ?_, List.getElem_mem _⟩
  have := atI_nat (j := r.toNat) (List.getElem?_eq_getElem hl)
  rwa [Int.toNat_of_nonneg h0] at this
theorem cut2 {a b c d e f : V} : cutV [a, b, c, d, e, f] none (some 2) = [a, b] := rfl
theorem cut3 {a b c d e f : V} : cutV [a, b, c, d, e, f] none (some 3) = [a, b, c] := rfl
theorem cut4 {a b c d e f : V} : cutV [a, b, c, d, e, f] none (some 4) = [a, b, c, d] := rfl
theorem cut5 {a b c d e f : V} : cutV [a, b, c, d, e, f] none (some 5) = [a, b, c, d, e] := rfl
end SC

set_option Elab.async false
set_option linter.all false
set_option maxRecDepth 100000
set_option maxHeartbeats 4000000
/-! Values of any kind, what a check of one answers, errors without a text. -/
namespace SC
open PySem PySem.Spec PyProof.Rows L2
/-- what a caller may hand -/
inductive Kd (H : Hp) : V → Prop where
  | int (i : Int) : Kd H (.int i)
  | bl (b : Bool) : Kd H (.bl b)
  | non : Kd H .non
  | str (s : Str) : Kd H (.str s)
  | lst {a : Addr} {xs : List V} (e : H a = some (.lst xs)) : Kd H (.ref a)
  | tup {a : Addr} {xs : List V} (e : H a = some (.tup xs)) : Kd H (.ref a)
  | dic {a : Addr} {kvs : List (Key × V)} (e : H a = some (.dK kvs)) : Kd H (.ref a)
theorem Kd.same {H H' : Hp} {v : V} (h : Kd H v) (s : Sm H H') : Kd H' v := by
  cases h with
  | int i => exact .int i
  | bl b => exact .bl b
  | non => exact .non
  | str s => exact .str s
  | lst e => exact .lst (s _ _ e)
  | tup e => exact .tup (s _ _ e)
  | dic e => exact .dic (s _ _ e)
def isI : V → Bool
  | .int _ => true
  | _ => false
def iv : V → Int
  | .int i => i
  | _ => 0
def isB : V → Bool
  | .bl _ => true
  | _ => false
def inR (v : V) (l h : Int) : Bool := match v with
  | .int i => decide (l ≤ i ∧ i ≤ h)
  | _ => false
section
variable {K : PySem.W.Frag} {H : Hp} {Q : VK} {v : V}
theorem w_isInt (h : Kd H v) (k : Q (.bl (isI v || isB v)) H) : rIsi K [v, .ty "int"] H Q := by
  cases h with
  | int i => exact ⟨_, _, _, _, true, rfl, .ty _, .base (.int i), kit_ty (by decide +kernel), k⟩
  | bl b => exact ⟨_, _, _, _, true, rfl, .ty _, .base (.bl b), kit_ty (by decide +kernel), k⟩
  | non => exact ⟨_, _, _, _, false, rfl, .ty _, .base .non, kit_ty (by decide +kernel), k⟩
  | str s => exact ⟨_, _, _, _, false, rfl, .ty _, .base (.str s), kit_ty (by decide +kernel), k⟩
  | lst e => exact ⟨_, _, _, _, false, rfl, .ty _, .base (.lst e), kit_ty (by decide +kernel), k⟩
  | tup e => exact ⟨_, _, _, _, false, rfl, .ty _, .base (.tup e), kit_ty (by decide +kernel), k⟩
  | dic e => exact ⟨_, _, _, _, false, rfl, .ty _, .base (.dK e), kit_ty (by decide +kernel), k⟩
theorem w_isBool (h : Kd H v) (k : Q (.bl (isB v)) H) : rIsi K [v, .ty "bool"] H Q := by
  cases h with
  | int i => exact ⟨_, _, _, _, false, rfl, .ty _, .base (.int i), kit_ty (by decide +kernel), k⟩
  | bl b => exact ⟨_, _, _, _, true, rfl, .ty _, .base (.bl b), kit_ty (by decide +kernel), k⟩
  | non => exact ⟨_, _, _, _, false, rfl, .ty _, .base .non, kit_ty (by decide +kernel), k⟩
  | str s => exact ⟨_, _, _, _, false, rfl, .ty _, .base (.str s), kit_ty (by decide +kernel), k⟩
  | lst e => exact ⟨_, _, _, _, false, rfl, .ty _, .base (.lst e), kit_ty (by decide +kernel), k⟩
  | tup e => exact ⟨_, _, _, _, false, rfl, .ty _, .base (.tup e), kit_ty (by decide +kernel), k⟩
  | dic e => exact ⟨_, _, _, _, false, rfl, .ty _, .base (.dK e), kit_ty (by decide +kernel), k⟩
end
section
variable {X : Cx} {C : Addr} {bmB : List Value} {B newId initId : String}
/-- X(), X an own error without own __init__ -/
theorem pmk_own0 {x : Str} {p pos : Pos} (F : ExcBaseFacts B newId initId bmB) (q : PySem.W.excIn X.K C bmB newId = true) (gC : X.mg x = some (.ref C)) (kC : PySem.W.keepIn X.K (.ref C) = true) (r : Raises X (.ref C)) (hg : Gl X x)
    (hdb : (x == ("__debug__" : Str)) = false := by decide) : PMk X (.Call (.Name x p) [] [] pos) (fun _ H Q => Q (.ref C) none H) := by
  intro pins s σ H Q I h
  refine wpAny_Call_Name_kw (ld_glob I hg gC ?_ hdb)
  refine PySem.W.callWith_K0 I.kIn kC ?_
  show wpAny _ _ (call (.ref C) []) _ _ _
  obtain ⟨bm, N, nm, qn, bs, hdct, sn, sub, ab, col, dd, k0, k1, k2, k3, k5, mN, hC, hN, hni, T⟩ := exc_obj I.kIn q
  exact wpAny_call_exc_subT F T hC hN hni (fun h' e hm => mk_of I hm r h (I.hok.gone hm.new)) (Nat.zero_le _)
end
section
variable {σ : L2.St} {H : Hp} {Q : VK} {sp : Sp} {E : L2.St → XK} {t : TA} {C : Addr} {D : Ends}
theorem w_callS (k : t σ H fun vs H1 => sp vs H1 Q (E σ)) : tCallS sp E t σ H Q := k
end
/-! promises of checks -/
def SpIsI : Sp := fun vs H Q _ => ∃ v, vs = [v] ∧ Kd H v ∧ ∀ H', Sm H H' → Q (.bl (isI v)) H'
theorem w_isI {H : Hp} {Q : VK} {E : XK} {v : V} (h : Kd H v) (q : ∀ H', Sm H H' → Q (.bl (isI v)) H') : SpIsI ([v] ++ []) H Q E := ⟨v, rfl, h, q⟩
def SpBet : Sp := fun vs H Q _ => ∃ v l h, vs = [v, .int l, .int h] ∧ Kd H v ∧ ∀ H', Sm H H' → Q (.bl (inR v l h)) H'
theorem w_bet {H : Hp} {Q : VK} {E : XK} {v : V} {l h : Int} (hv : Kd H v) (q : ∀ H', Sm H H' → Q (.bl (inR v l h)) H') : SpBet ([v, .int l, .int h] ++ []) H Q E := ⟨v, l, h, rfl, hv, q⟩
/-- how a def ends: with a value, or with an error of the class at C -/
inductive Out where
  | val (v : V)
  | err (C : Addr)
def Out.to (o : Out) (Q : VK) (E : XK) (H : Hp) : Prop := match o with
  | .val v => Q v H
  | .err C => E (.ref C) none H
/-- any values of some form: the end that f says, all that was being left as it was -/
def SpOut (n : Nat) (pre : List V → Prop) (f : List V → Out) : Sp := fun vs H Q E => vs.length = n ∧ pre vs ∧ (∀ v ∈ vs, Kd H v) ∧ ∀ H', Sm H H' → (f vs).to Q E H'
theorem w_out {n : Nat} {pre : List V → Prop} {f : List V → Out} {vs : List V} {H : Hp} {Q : VK} {E : XK} (hp : pre vs) (hk : ∀ v ∈ vs, Kd H v) (q : ∀ H', Sm H H' → (f vs).to Q E H') (hl : vs.length = n := by rfl) : SpOut n pre f vs H Q E := ⟨hl, hp, hk, q⟩
theorem out_if {c : Bool} {C : Addr} {Q : VK} {E : XK} {H : Hp} {v : V} (h1 : c = true → Q v H) (h2 : c = false → E (.ref C) none H) : (if c = true then Out.val v else .err C).to Q E H := by
  cases c with
  | true => exact h1 rfl
  | false => exact h2 rfl
theorem out_yes {c : Bool} {C : Addr} {Q : VK} {E : XK} {H : Hp} {o : Out} (k : (if c = true then o else .err C).to Q E H) (e : c = true) : o.to Q E H := by
  subst e
  exact k
theorem out_no {c : Bool} {C : Addr} {Q : VK} {E : XK} {H : Hp} {o : Out} (k : (if c = true then o else .err C).to Q E H) (e : c = false) : E (.ref C) none H := by
  subst e
  exact k
theorem inR_int {v : V} {l h : Int} (e : inR v l h = true) : ∃ i, v = .int i ∧ l ≤ i ∧ i ≤ h := by
  cases v with
  | int i => exact ⟨i, rfl, of_decide_eq_true e⟩
  | _ => cases e
theorem w_ifn' {c : Bool} {A B : Prop} (h1 : c = false → A) (h2 : c = true → B) : if (!c) = true then A else B := by
  cases c with
  | true => exact h2 rfl
  | false => exact h1 rfl
theorem w_ifb {c : Bool} {A B : Prop} (h1 : c = true → A) (h2 : c = false → B) : if c = true then A else B := by
  cases c with
  | true => exact h1 rfl
  | false => exact h2 rfl
end SC

set_option Elab.async false
set_option linter.all false
set_option maxHeartbeats 1000000
/-! A cup and the cup of one round more: plain mathematics. -/
namespace SC
open L2
theorem place_double {m s : Int} (hm : 0 ≤ m) (h1 : 1 ≤ s) (h2 : s ≤ p2 (m + 1)) : placeOf (m + 1) s = 2 * placeOf m (fold1 (p2 m) s) + (if p2 m < s then 1 else 0) := by
  obtain ⟨_, e⟩ := pl_shift (k := m + 1) h1 h2 (r := 1) (by omega) m.toNat
  have e1 : m + 1 - 1 - ((0 : Nat) : Int) = m := by omega
  have w1 : wy (m + 1) s 1 = fold1 (p2 m) s := by
    show fold1 (p2 (m + 1 - 1 - ((0 : Nat) : Int))) s = _
    rw [e1]
  have l1 : pl (m + 1) s 1 = if p2 m < s then 1 else 0 := by
    show (if p2 (m + 1 - 1 - ((0 : Nat) : Int)) < s then 0 + p2 ((0 : Nat) : Int) else 0) = _
    rw [e1, show p2 ((0 : Nat) : Int) = 1 from p2_zero, Int.zero_add]
  have p1 : p2 ((1 : Nat) : Int) = 2 := by
    have := p2_succ (k := 0) (by omega)
    rw [p2_zero] at this
    exact this
  unfold placeOf
  rw [show (m + 1).toNat = 1 + m.toNat by omega, e, w1, l1, p1, show m + 1 - ((1 : Nat) : Int) = m by omega]
  omega
theorem place_low {m s : Int} (hm : 0 ≤ m) (h1 : 1 ≤ s) (h2 : s ≤ p2 m) : placeOf (m + 1) s = 2 * placeOf m s := by
  have e := p2_succ (k := m) hm
  rw [place_double hm h1 (by have := p2_pos m; omega), fold1, if_neg (by omega), if_neg (by omega)]
  omega
theorem place_mate {m s : Int} (hm : 0 ≤ m) (h1 : 1 ≤ s) (h2 : s ≤ p2 m) : placeOf (m + 1) (2 * p2 m + 1 - s) = 2 * placeOf m s + 1 := by
  have e := p2_succ (k := m) hm
  rw [place_double hm (by omega) (by omega), fold1, if_pos (by omega), if_pos (by omega), show 2 * p2 m + 1 - (2 * p2 m + 1 - s) = s by omega]
theorem seed_low {m s : Int} (hm : 0 ≤ m) (h1 : 1 ≤ s) (h2 : s ≤ p2 m) : seedAt (m + 1) (2 * placeOf m s) = s := by
  have e := p2_succ (k := m) hm
  rw [← place_low hm h1 h2]
  exact seed_place h1 (by omega) (by omega)
theorem seed_mate {m s : Int} (hm : 0 ≤ m) (h1 : 1 ≤ s) (h2 : s ≤ p2 m) : seedAt (m + 1) (2 * placeOf m s + 1) = 2 * p2 m + 1 - s := by
  have e := p2_succ (k := m) hm
  rw [← place_mate hm h1 h2]
  exact seed_place (by omega) (by omega) (by omega)
/-- a block and the two below it -/
theorem blk_below {m s : Int} (hm : 0 < m) (h1 : 1 ≤ s) : blk (2 * m) s = blk m s ∨ blk (2 * m) s = 2 * m + 1 - blk m s := by
  have e := blk_fold hm h1
  unfold fold1 at e
  split at e
  · right; omega
  · left; exact e.symm
theorem blk_above {m s : Int} (hm : 0 < m) (h1 : 1 ≤ s) : blk m s = blk (2 * m) s ∨ blk m s = 2 * m + 1 - blk (2 * m) s := by
  have e := blk_fold hm h1
  unfold fold1 at e
  split at e
  · right; exact e
  · left; exact e
/-- a member of a half is a member of the block -/
theorem half_in {m b x : Int} (hm : 0 < m) (hb : 1 ≤ b) (hb2 : b ≤ m) (h1 : 1 ≤ x) (hx : blk (2 * m) x = b ∨ blk (2 * m) x = 2 * m + 1 - b) : blk m x = b := by
  have e := blk_fold hm h1
  unfold fold1 at e
  split at e <;> omega
/-- the first members of the two halves: their places -/
theorem halves_low {n h b : Int} (h1 : 1 ≤ h) (h2 : h ≤ n) (hb : 1 ≤ b) (hb2 : b ≤ p2 (n - h)) : placeOf n b / p2 (h - 1) = 2 * placeOf (n - h) b ∧ placeOf n b / p2 h = placeOf (n - h) b := by
  have up := p2_succ (k := n - h) (by omega)
  have le := p2_le (k := n - h + 1) (l := n) (by omega)
  have e1 := place_div (k := n) (s := b) (h := h - 1) (by omega) hb (by omega) (by omega) (by omega)
  have e2 := place_div (k := n) (s := b) (h := h) (by omega) hb (by omega) (by omega) (by omega)
  rw [show n - (h - 1) = n - h + 1 by omega, blk_top hb (by omega), place_low (by omega) hb hb2] at e1
  rw [blk_top hb hb2] at e2
  exact ⟨e1, e2⟩
theorem halves_high {n h b : Int} (h1 : 1 ≤ h) (h2 : h ≤ n) (hb : 1 ≤ b) (hb2 : b ≤ p2 (n - h)) : placeOf n (2 * p2 (n - h) + 1 - b) / p2 (h - 1) = 2 * placeOf (n - h) b + 1 ∧ placeOf n (2 * p2 (n - h) + 1 - b) / p2 h = placeOf (n - h) b := by
  have up := p2_succ (k := n - h) (by omega)
  have le := p2_le (k := n - h + 1) (l := n) (by omega)
  have e1 := place_div (k := n) (s := 2 * p2 (n - h) + 1 - b) (h := h - 1) (by omega) (by omega) (by omega) (by omega) (by omega)
  have e2 := place_div (k := n) (s := 2 * p2 (n - h) + 1 - b) (h := h) (by omega) (by omega) (by omega) (by omega) (by omega)
  rw [show n - (h - 1) = n - h + 1 by omega, blk_top (by omega) (by omega), place_mate (by omega) hb hb2] at e1
  have mi := blk_mirror (m := p2 (n - h)) (x := b) (n := 1) (p2_pos _)
  rw [Int.one_mul] at mi
  rw [mi, blk_top hb hb2] at e2
  exact ⟨e1, e2⟩
/-- the rule of the triangular numbers -/
theorem tri_rule {a b j : Int} (hj : 0 ≤ j) : (tri a - tri b) % p2 j = 0 ↔ blk (p2 j) a = blk (p2 j) b := by
  obtain ⟨n, rfl⟩ := Int.eq_ofNat_of_zero_le hj
  rw [← tri_blk n, show p2 (n : Int) = 2 ^ n by unfold p2; simp]
  exact ⟨Int.dvd_of_emod_eq_zero, Int.emod_eq_zero_of_dvd⟩
end SC

set_option Elab.async false
set_option linter.all false
set_option maxRecDepth 100000
set_option maxHeartbeats 4000000
/-! Steps that find their own facts: chains of heaps by what stands in the context. -/
namespace SC
open PySem PySem.Spec PyProof.Rows L2
theorem same_at {A H : Hp} {p : Addr} {o : HO} [NT o] (s : Sm A H) (h : A p = some o) : H p = some o := s _ _ h
theorem kp_at {a : Addr} {A H : Hp} {p : Addr} {o : HO} [NT o] (g : Kp a A H) (n : p ≠ a) (h : A p = some o) : H p = some o := g _ _ n h
theorem upd_at {A : Hp} {p q : Addr} {o u : HO} (n : p ≠ q) (h : A p = some o) : upd A q u p = some o := by rw [upd_ne n]; exact h
theorem ne_new {H : Hp} {p q : Addr} {o : HO} (h : H p = some o) (hq : H q = none) : p ≠ q := ne_of_none h hq
theorem src_ne {a p : Addr} {N : Int} {H : Hp} (s : Src a N H) (hp : H p = none) : p ≠ a := s.ne hp
theorem same_src {a : Addr} {N : Int} {H H' : Hp} (g : Sm H H') (s : Src a N H) : Src a N H' := s.same g
theorem big_abs0 {b : Int} (h0 : 0 ≤ b) (h : b < BIG) : b.natAbs < 2 ^ 2000 := by
  by_cases z : b = 0
  · subst z
    exact Nat.pow_pos (by decide)
  · exact big_abs (by omega) h
theorem same_seq {K : PySem.W.Frag} {H H' : Hp} {a : Addr} {xs : List V} (e : Sm H H') (h : SqL K H a xs) : SqL K H' a xs := e.seq h
theorem sq_of {K : PySem.W.Frag} {H : Hp} {a : Addr} {xs : List V} (h : H a = some (.lst xs)) : SqL K H a xs := .inl (.inl h)
theorem sqT_of {K : PySem.W.Frag} {H : Hp} {a : Addr} {xs : List V} (h : H a = some (.tup xs)) : SqT K H a xs := .inl (.inl h)
theorem cdivB {i b : Int} (h0 : 0 < b) (h : b < BIG) : CDivW i b := wide_div h0 (big_abs h0 h) (by decide) (by decide)
theorem cmulB {i j : Int} (h0 : 0 ≤ i) (h : i < BIG) (j0 : 0 ≤ j) (hj : j < BIG) : CMulX i j := mulx_ok (a := 2000) (b := 2000) (big_abs0 h0 h) (big_abs0 j0 hj) (by decide)
/-- how many of the seeds 1 to l are in group b -/
def cnt (m b l : Int) : Int := if turned m (l / m) b ≤ l % m then l / m + 1 else l / m
end SC
namespace SC
open PySem PySem.Spec PyProof.Rows L2
theorem wide_lim {b : Int} (h : b ≤ 10 ^ 300) : b < BIG := Int.lt_of_le_of_lt h (by decide +kernel)
/-- repr of a bool -/
def rReprB : List V → Hp → VK → Prop := fun xs H Q => ∃ b : Bool, xs = [.bl b] ∧ Q (.str (if b then "True" else "False")) H
theorem c_reprB {X : Cx} : CallR X (.builtin "repr") rReprB := by
  intro pins s σ H xs us Q I r h
  obtain ⟨i, rfl, q⟩ := h
  obtain ⟨u, rfl, r1⟩ := vals1 r
  cases r1
  exact PySem.P.repr_of_bool ⟨.str _, H, I.tok _, ⟨_, rfl⟩, q⟩
theorem w_reprB {H : Hp} {Q : VK} {b : Bool} (k : Q (.str (if b then "True" else "False")) H) : rReprB [.bl b] H Q := ⟨b, rfl, k⟩
theorem w_eqS {H : Hp} {Q : VK} {x y : Str} (k : Q (.bl (decide (x = y))) H) : rEq (.str x) (.str y) H Q := ⟨rfl, by
  have e : decide (V.str x = V.str y) = decide (x = y) := by simp
  rw [e]; exact k⟩
theorem dp_bools {K : PySem.W.Frag} {H : Hp} : ∀ ns : List Bool, DpAll K H (ns.map V.bl) (ns.map PyData.bool)
  | [] => .nil
  | n :: ns => .cons (.bl n) (dp_bools ns)
theorem lay_bools : ∀ ns : List Bool, PyData.canLayAll0 (ns.map PyData.bool) = true
  | [] => rfl
  | n :: ns => by simp only [List.map_cons, PyData.canLayAll0, PyData.canLay0, lay_bools ns, Bool.and_self]
theorem dep_bools : ∀ ns : List Bool, PyData.depthAll (ns.map PyData.bool) ≤ 1
  | [] => by simp [PyData.depthAll]
  | n :: ns => by
    have := dep_bools ns
    simp only [List.map_cons, PyData.depthAll, PyData.depth]
    omega
theorem shaped_bools (ns : List Bool) : SeqAt.shaped (.list (ns.map PyData.bool)) = true := by
  unfold SeqAt.shaped
  have h1 := lay_bools ns
  have h2 := dep_bools ns
  rw [Bool.and_eq_true]
  refine ⟨by simpa only [PyData.canLay0] using h1, decide_eq_true ?_⟩
  simp only [PyData.depth]
  omega
theorem w_neLb {K : PySem.W.Frag} {H : Hp} {Q : VK} {p q : Addr} (xs ys : List Bool) (h1 : SqL K H p (xs.map V.bl)) (h2 : SqL K H q (ys.map V.bl)) (e : xs = ys) (k : Q (.bl false) H) : rNeD K (.ref p) (.ref q) H Q := by
  subst e
  exact w_neDs (.lst h1 (dp_bools xs)) (.lst h2 (dp_bools xs)) (shaped_bools xs) k
/-- the sum of the first seeds of a group -/
def gsum (m b c : Int) : Int := c / 2 * (2 * m * (c / 2) + 1) + (if c % 2 = 1 then mem m b (c - 1) else 0)
theorem gsum_step {m b c : Int} : gsum m b (c + 1) - gsum m b c = mem m b c := by
  unfold gsum mem turned
  by_cases h : c % 2 = 0
  · have e1 : (c + 1) / 2 = c / 2 := by omega
    rw [e1, if_pos (show (c + 1) % 2 = 1 by omega), if_neg (show ¬ c % 2 = 1 by omega), if_pos h, show c + 1 - 1 = c by omega, if_pos h]
    omega
  · have e1 : (c + 1) / 2 = c / 2 + 1 := by omega
    rw [e1, if_neg (show ¬ (c + 1) % 2 = 1 by omega), if_pos (show c % 2 = 1 by omega), if_neg h, if_pos (show (c - 1) % 2 = 0 by omega)]
    obtain ⟨q, rfl⟩ : ∃ q, c = 2 * q + 1 := ⟨c / 2, by omega⟩
    rw [show (2 * q + 1) / 2 = q by omega]
    grind
theorem gsum_even {m b h : Int} : gsum m b (2 * h) = h * (2 * m * h + 1) := by
  unfold gsum
  rw [if_neg (by omega), show 2 * h / 2 = h by omega]
  omega
theorem gsum_bound {m b c : Int} (h0 : 0 ≤ m) (hm : m ≤ 10 ^ 41) (b1 : 1 ≤ b) (bm : b ≤ m) (c0 : 0 ≤ c) (hc : c ≤ 10 ^ 41) : 0 ≤ gsum m b c ∧ gsum m b c ≤ 10 ^ 130 := by
  have g1 : 0 ≤ m * (c / 2) := Int.mul_nonneg h0 (by omega)
  have g2 : m * (c / 2) ≤ 10 ^ 41 * 10 ^ 41 := Int.mul_le_mul hm (by omega) (by omega) (by decide)
  have g3 : 0 ≤ c / 2 * (2 * m * (c / 2) + 1) := Int.mul_nonneg (by omega) (by rw [Int.mul_assoc]; omega)
  have g4 : c / 2 * (2 * m * (c / 2) + 1) ≤ 10 ^ 41 * (10 ^ 83) := Int.mul_le_mul (by omega) (by rw [Int.mul_assoc]; omega) (by rw [Int.mul_assoc]; omega) (by decide)
  have g5 : -1 ≤ c - 1 := by omega
  unfold gsum mem turned
  by_cases h : c % 2 = 1
  · have g6 : 0 ≤ (c - 1) * m := Int.mul_nonneg (by omega) h0
    have g7 : (c - 1) * m ≤ 10 ^ 41 * 10 ^ 41 := Int.mul_le_mul (by omega) hm h0 (by decide)
    rw [if_pos h, if_pos (by omega)]
    omega
  · rw [if_neg h]
    omega
end SC
namespace SC
open PySem PySem.Spec PyProof.Rows L2
section
variable {K : PySem.W.Frag} {H : Hp} {Q : VK} {a b : Bool} {p : Addr}
theorem w_isB (k : Q (.bl (decide (a = b))) H) : rIsB (.bl a) (.bl b) H Q := ⟨a, b, rfl, rfl, k⟩
theorem w_isnotB (k : Q (.bl (!decide (a = b))) H) : rNotB (.bl a) (.bl b) H Q := ⟨a, b, rfl, rfl, k⟩
theorem w_isN {x : V} (k : Q (.bl (decide (x = .non))) H) : rIsN x .non H Q := ⟨rfl, k⟩
theorem w_isnotN {x : V} (k : Q (.bl (!decide (x = .non))) H) : rNotN x .non H Q := ⟨rfl, k⟩
theorem inV_int {x : Int} : ∀ ns : List Int, inV (.int x) (ns.map V.int) = decide (x ∈ ns)
  | [] => rfl
  | n :: ns => by
    have ih := inV_int (x := x) ns
    simp only [List.map_cons, inV, List.any_cons] at ih ⊢
    rw [ih]
    by_cases h : x = n
    · subst h
      simp [eqV]
    · simp [eqV, h, Ne.symm h]
theorem flat_ints : ∀ ns : List Int, (ns.map V.int).all flatV = true
  | [] => rfl
  | n :: ns => by
    simp only [List.map_cons, List.all_cons, flat_ints ns, Bool.and_true]
    rfl
theorem w_inI (ns : List Int) {x : Int} (h : SqL K H p (ns.map V.int)) (k : Q (.bl (decide (x ∈ ns))) H) : rIn K false (.int x) (.ref p) H Q :=
  ⟨p, _, rfl, .inl h, rfl, flat_ints ns, by rw [inV_int]; exact k⟩
theorem w_ninI (ns : List Int) {x : Int} (h : SqL K H p (ns.map V.int)) (k : Q (.bl (!decide (x ∈ ns))) H) : rIn K true (.int x) (.ref p) H Q :=
  ⟨p, _, rfl, .inl h, rfl, flat_ints ns, by rw [inV_int]; exact k⟩
end
theorem w_newZ {H : Hp} {Q : VK} {xs : List V} (hz : xs.length ≤ 1000000) (k : ∀ p H', Sm H H' → H p = none → H' p = some (.lst xs) → Q (.ref p) H') : NewL xs H Q := w_new k hz
theorem w_newTZ {H : Hp} {Q : VK} {xs : List V} (hz : xs.length ≤ 1000000) (k : ∀ p H', Sm H H' → H p = none → H' p = some (.tup xs) → Q (.ref p) H') : NewT xs H Q := w_newT k hz
theorem src_upd {a p : Addr} {N : Int} {H : Hp} {o : HO} (h : p ≠ a) (s : Src a N H) : Src a N (upd H p o) := s.upd h
theorem ne_src {a p : Addr} {N : Int} {H : Hp} (hp : H p = none) (s : Src a N H) : p ≠ a := s.ne hp
theorem ne_new' {H : Hp} {p q : Addr} {o : HO} (hq : H q = none) (h : H p = some o) : p ≠ q := ne_of_none h hq
theorem ifNT {A B : Prop} (h : B) : if (!true) = true then A else B := iteF' rfl h
theorem ifNF {A B : Prop} (h : A) : if (!false) = true then A else B := iteT' rfl h
end SC

set_option Elab.async false
set_option linter.all false
set_option maxRecDepth 100000
set_option maxHeartbeats 4000000
/-! repr of lists: promises of defs around which no repr is under way, down from the law's own call. -/
namespace SC
open PySem PySem.Spec PyProof.Rows L2 StX
/-- a def's promise, told for arounds in which no repr is under way -/
def FnG (P : Program) (w : World) (K : PySem.W.Frag) (mg : Str → Option Value) (base : Heap) (CX : CXT) (k : Nat) (f : Addr) (fd : FuncData) (ps : List Str) (sp : Sp) : Prop :=
  (∀ vs H Q E, sp vs H Q E → vs.length = ps.length) ∧
  ∀ (A : Around) (outer : List Env) (s : Shared) (H : Hp) (args : Args) (us : List Value) (vs : List V) (Q : VK) (E : XK), A.guards = some [] → Room k A → Env0 P w K mg base A outer s H → BindsTo s fd args (ps.zip us) → Vals vs us → sp vs H Q E →
    codeAny (model P w) A (.call (.ref f) args) (CR CX outer P w H s Q E) s
section
variable {P : Program} {w : World} {K : PySem.W.Frag} {mg : Str → Option Value} {base : Heap}
theorem okG {x qual : Str} {st : Stmt} {f : Addr} {fd : FuncData} {N ps : List Str} {k : Nat} {sp : Sp} (F : Fun K x qual st f fd) (S : FnScope N ps (defScope st)) (len : ∀ vs H Q E, sp vs H Q E → vs.length = ps.length)
    (hbody : ∀ (cdv : Value) (A : Around) (outer : List Env) (s : Shared) (H : Hp) (vs : List V) (Q : VK) (E : XK), (A.deeper (envOfC qual (defScope st) s.heap.objs.size f cdv)).guards = some [] → Room k (A.deeper (envOfC qual (defScope st) s.heap.objs.size f cdv)) → sp vs H Q E →
      ∃ t, PSs (cxOf CX0 P w K mg base N qual (defScope st) f cdv A outer s H E).nox (defBody st) t ∧ t { nx := fun _ H' => Q .non H', rt := Q } (start N vs) H) : FnG P w K mg base CX0 (k + 1) f fd ps sp := by
  obtain ⟨oc, od, kV, doc, pm, an, cdv, ct, osl, rfl, lk, hcd⟩ := F.ex
  refine ⟨len, fun A outer s H args us vs Q E hg hr e0 hb r hsp => ?_⟩
  refine run_bnd lk hcd S hr e0 (G := fun xs H2 => xs = vs ∧ H2 = H) (fun A' Ex Q' h => ?_) fun s2 H2 xs ⟨e1, e2⟩ hr' => ?_
  · exact hb _ _ _ _ (h s H vs us e0 .refl rfl (fun _ _ z => z) r (len _ _ _ _ hsp) ⟨rfl, rfl⟩)
  · subst e1 e2
    obtain ⟨t, h, q⟩ := hbody cdv A outer s2 _ _ Q E (by simpa [Around.deeper] using hg) hr' hsp
    exact ⟨t, h.nox, q⟩
end
section
variable {X : Cx} {CX : CXT} {k : Nat} {f : Addr} {fd : FuncData} {ps : List Str} {sp : Sp} {ds : List Value} {dvs : List V} {E : XK} {x : Str} {p pos : Pos} {e : Expr} {es : List Expr} {t : TA}
/-- repr of a list or a tuple of plain data -/
def rReprD (K : PySem.W.Frag) : List V → Hp → VK → Prop := fun xs H Q => ∃ (a : Addr) (d : PyData), xs = [.ref a] ∧ Dp K H (.ref a) d ∧ d.showable = true ∧ d.hasDict = false ∧ d.depth ≤ 60 ∧ d.shown.length ≤ sizeLine ∧ Q (.str d.shown) H
theorem call_reprD (hg : X.A.guards = some []) (hu : X.A.units + 64 < cLine) : CallR X (.builtin "repr") (rReprD X.K) := by
  intro pins s σ H xs us Q I r h
  obtain ⟨a, d, rfl, hd, sh, nd, hz, hl, q⟩ := h
  obtain rfl := Vals.ref1 r
  obtain ⟨as, rd⟩ := Dp.reads I d _ _ hd (show RelV (.ref a) (.ref a) from rfl)
  exact PySem.repr_of_reads' rd sh (fun z => by rw [nd] at z; cases z) hg (by omega) (fun _ _ e => e) (fun h' u tk hk => ⟨.str d.shown, H, I.kept hk, ⟨u, rfl⟩, q⟩) hl
theorem w_repr {K : PySem.W.Frag} {H : Hp} {Q : VK} {a : Addr} {d : PyData} (h : Dp K H (.ref a) d) (h1 : d.showable = true) (h2 : d.hasDict = false) (h3 : d.depth ≤ 60) (h4 : d.shown.length ≤ sizeLine) (k : Q (.str d.shown) H) : rReprD K [.ref a] H Q := ⟨a, d, rfl, h, h1, h2, h3, h4, k⟩
end
section
variable {X : Cx} {CX : CXT} {k : Nat} {f : Addr} {fd : FuncData} {ps : List Str} {sp : Sp} {E : XK} {x : Str} {p pos : Pos} {e : Expr} {es : List Expr} {t : TA}
/-- f(e, ..), f's promise told for arounds in which no repr is under way -/
theorem pe_callG (F : FnG X.prog X.w X.K X.mg X.base CX k f fd ps sp) (hgd : X.A.guards = some []) (hr : Room k X.A) (hg : Gl X x) (hm : X.mg x = some (.ref f)) (hk : PySem.W.keepIn X.K (.ref f) = true) (hb : Binds X.K fd ps []) (hx : Passes CX X E)
    (ha : PA X (e :: es) t) (hdb : (x == ("__debug__" : Str)) = false := by decide) (he : starEach (e :: es) X.env = (false, eval e X.env) :: starEach es X.env := by rfl) (hpl : (backTo pos (starEach es X.env)).any (·.1) = false := by rfl) :
    PE X (.Call (.Name x p) (e :: es) [] pos) (tCall sp [] E t) := by
  refine ⟨fun pins s σ H Q I h => ?_⟩
  refine wpAny_Call_Name_kw (ld_glob I hg hm ?_ hdb)
  refine PySem.W.callWith_K (h₀ := X.base) I.ok.mod.kin hk (thn (ha.run pos pins s σ H _ I h) fun us s1 ⟨vs, H1, I1, r, q⟩ => ⟨I1.kIn, ?_⟩) he hpl
  have q' : sp vs H1 Q E := by simpa using q
  have hl : us.length = ps.length := by rw [← r.length]; exact F.1 _ _ _ _ q'
  have b := hb s1 us I1.kIn (by rw [List.append_nil]; exact hl)
  rw [List.append_nil] at b
  refine wpAny_call (codeAny_mono (F.2 X.A X.stack s1 H1 ⟨us, []⟩ us vs Q E hgd hr I1.env0 b r q') fun r s' hq => ?_)
  match r, hq with
  | .error e, hq => exact hx pins σ H1 s1 e s' I1 hq
  | .ok (.ret u), hq => exact I1.after hq
  | .ok .next, hq => exact False.elim hq
  | .ok .brk, hq => exact False.elim hq
  | .ok .cont, hq => exact False.elim hq
end
/-! ### the law's own call -/
/-- what the law may see of the heap: its script, unless the top made that very list -/
def scriptHp (K : PySem.W.Frag) (a : Addr) (o : HO) : Hp := fun b => if b = a ∧ (K.lookup a).isNone = true then some o else none
theorem scriptHp_some {K : PySem.W.Frag} {a b : Addr} {o u : HO} (h : scriptHp K a o b = some u) : b = a ∧ u = o ∧ K.lookup a = none := by
  unfold scriptHp at h
  split at h
  · rename_i c
    exact ⟨c.1, (Option.some.inj h).symm, Option.isNone_iff_eq_none.mp c.2⟩
  · cases h
theorem law_runG {P : Program} {w : World} {K : PySem.W.Frag} {mg mb : Str → Option Value} {k : Nat} {fa a : Addr} {fd : FuncData} {x : Str} {sp : Sp} {s₁ : Shared} {vs : List Value} {ns : List Int}
    (KX : K.In s₁.heap) (hns : s₁.heap.Ns mainGlobals mg) (hb : s₁.heap.Ns builtinsNs mb) (hbb : ∀ x : Str, x ≠ "__name__" → mb x = bootBuiltins x) (hlim : s₁.heap.NoLimit) (hg : s₁.gens = #[])
    (ha : s₁.heap.get? a = some { cls := .type "list", data := .seq vs.toArray }) (hi : IntsAre vs ns) (hl : ns.length ≤ sizeLine) (hr : Room k callerA)
    (F : ∀ base : Heap, K.In base → base.Ns mainGlobals mg → FnG P w K mg base CX0 k fa fd [x] sp) (hbind : ∀ (s : Shared) (u : Value), BindsTo s fd ⟨[u], []⟩ [(x, u)])
    (hsp : ∀ H : Hp, Only H → SqL K H a (ns.map V.int) → sp [.ref a] H (fun v _ => v = .bl true) fun _ _ _ => False) :
    codeAny (model P w) callerA (.call (.ref fa) ⟨[.ref a], []⟩) (fun r s' => r = .ok (.ret (.bool true)) ∧ OldK s₁.heap s'.heap ∧ s'.os = s₁.os ∧ AllBare s'.gens) s₁ := by
  have rv := vals_ints hi
  have hlen := hi.length
  generalize eo : HO.frz { cls := .type "list", data := .seq vs.toArray } (.lst (ns.map V.int)) = fz
  generalize eH : scriptHp K a fz = H
  have only : Only H := fun b => by
    rw [← eH]
    unfold scriptHp
    split
    · exact .inr ⟨_, _, by rw [← eo]⟩
    · exact .inl rfl
  have sees : ∀ {b : Addr} {u : HO}, H b = some u → b = a ∧ u = fz ∧ K.lookup a = none := fun h => scriptHp_some (by rw [eH]; exact h)
  have seq : SqL K H a (ns.map V.int) := by
    cases hk : K.lookup a with
    | none => exact .inl (.inr ⟨{ cls := .type "list", data := .seq vs.toArray }, by rw [← eH, eo]; exact if_pos ⟨rfl, by rw [hk]; rfl⟩⟩)
    | some o =>
      have e := KX a o hk
      rw [ha] at e
      cases e
      exact .inr ⟨_, vs.toArray, _, hk, rfl, rfl, rfl, by rw [List.size_toArray, hlen]; exact hl, by simpa using rv⟩
  have ok : HOk P w H s₁.heap := fun b u h => by
    obtain ⟨rfl, rfl, _⟩ := sees h
    rw [← eo]
    exact ⟨ha, by rw [List.length_map]; exact hl, vs, _, rv, ha⟩
  -- objects with a dict's data, and the top's own objects, are not hidden
  have free : ∀ {b : Addr} {o : Obj}, s₁.heap.get? b = some o → (∀ xs n, o.data ≠ .seq xs n) ∨ K.lookup b = some o → H b = none := fun {b o} e c => by
    cases q : H b with
    | none => rfl
    | some u =>
      obtain ⟨rfl, _, hk⟩ := sees q
      rcases c with c | c
      · rw [ha] at e
        cases e
        exact absurd rfl (c _ _)
      · rw [hk] at c
        cases c
  have ns_ : ∀ {b : Addr} {m : Str → Option Value}, s₁.heap.Ns b m → (hidT s₁.heap H).Ns b m := fun ⟨o, es, ep, e, d, r⟩ => ⟨o, es, ep, hidT_get e (free e (.inl fun xs n z => by rw [d] at z; cases z)), d, r⟩
  have inb : K.In (hidT s₁.heap H) := fun b o e => hidT_get (KX b o e) (free (KX b o e) (.inr e))
  have md : Mod K mg (hidT s₁.heap H) := ⟨inb, ns_ hns, ⟨mb, ns_ hb, hbb⟩, let ⟨mc, h1, h2⟩ := hlim; ⟨mc, ns_ h1, h2⟩⟩
  have e0 : Env0 P w K mg (hidT s₁.heap H) callerA [] s₁ H := ⟨rfl, md, fun b o e => of_hidT e, Nat.le_of_eq (hidT_size _ _), trivial, fun b hb => absurd (show b ∈ ([] : List Addr) from hb) (by simp), ok, .of_eq hg⟩
  refine codeAny_mono ((F _ inb (ns_ hns)).2 callerA [] s₁ H ⟨[.ref a], []⟩ [.ref a] [.ref a] _ _ rfl hr e0 (hbind s₁ (.ref a)) (.cons rfl .nil) (hsp H only seq)) fun r s' h => ?_
  match r, h with
  | .error e, h => exact False.elim h
  | .ok .next, h => exact False.elim h
  | .ok .brk, h => exact False.elim h
  | .ok .cont, h => exact False.elim h
  | .ok (.ret u), h =>
    obtain ⟨v, H', os, bare, un, ok', rel, ev⟩ := h
    subst ev
    obtain rfl : u = Value.bool true := rel
    refine ⟨rfl, OldK.of_keep fun b o e => ?_, os, bare⟩
    cases q : H b with
    | none => exact un.keep b o e q (by simp [frs]) (by simp)
    | some u =>
      obtain ⟨rfl, rfl, _⟩ := sees q
      rw [ha] at e
      cases e
      rw [← eo] at q
      exact (ok' b _ (un.frzs b _ _ q)).1
theorem walk_ofG {l : PySem.W.OpenLaw} {n k : Nat} {q : Program} {loose : List Str} {XP : (Str → Option Value) → Heap → Prop} {YP : World → Heap → Prop} {d : DefRec} {K : Params → PySem.W.Frag} {sp : World → Sp} {x : Str}
    (hn : l.most = some n) (hn2 : n ≤ sizeLine) (hdf : d.params.defaults = []) (hr : Room k callerA) (hY : ∀ (w : World) (h : Heap), YP w h → (K w.params).In h)
    (F : ∀ (w : World) (mg : Str → Option Value) (fa : Addr) (h : Heap), (K w.params).In h → h.Ns mainGlobals mg → mg d.name = some (.ref fa) →
      ∃ fd : FuncData, (∀ (s : Shared) (u : Value), BindsTo s fd ⟨[u], []⟩ [(x, u)]) ∧ ∀ base : Heap, (K w.params).In base → base.Ns mainGlobals mg → FnG l.prog w (K w.params) mg base CX0 k fa fd [x] (sp w))
    (hsp : ∀ (w : World) (H : Hp) (a : Addr) (ns : List Int), ns.length ≤ n → Only H → SqL (K w.params) H a (ns.map V.int) → sp w [.ref a] H (fun v _ => v = .bl true) fun _ _ _ => False) :
    PySem.W.WalkO q loose XP YP l.row.toRowW d [] (fun f vs => PySem.call f vs) := by
  refine Att.attach_call hn hdf fun w s₀ s₁ mg mb fa o pm cd doc a vs ns G Y ho hd hcd hmg hobj hints hlen hg => ?_
  obtain ⟨fd, hb, hF⟩ := F w mg fa _ (hY w _ Y) G.T.g hmg
  exact law_runG (hY w _ Y) G.T.g G.T.b G.T.builtins G.T.nolimit hg hobj hints (Nat.le_trans hlen hn2) hr hF hb fun H hO hS => hsp w H a ns hlen hO hS
end SC

set_option Elab.async false
set_option linter.all false
set_option maxRecDepth 100000
set_option maxHeartbeats 4000000
/-! Comprehensions with a test, sums, None; seeds counted. -/
namespace SC
open PySem PySem.Spec PyProof.Rows L2
section
variable {K : PySem.W.Frag} {σ : L2.St} {H : Hp} {Q : VK} {ta : TA} {tl te : TE} {vs : List Nat} {j : Nat} {g : TG} {tt : TT}
theorem w_lcr2F {l n : Int} (pf : Nat → Bool) (f : Nat → V) (h0 : -1000000 ≤ l) (h1 : l ≤ n) (h2 : n ≤ 1000000) (h3 : n - l ≤ 1000000) (hw : ∀ x, wipe ((wipe σ vs).set j (some x)) vs = wipe σ vs)
    (ht : ∀ (i : Nat) H', l + (i : Int) < n → Sm H H' → ∀ R : Bool → Hp → Prop, (∀ H2, Sm H' H2 → R (pf i) H2) → tt ((wipe σ vs).set j (some (.int (l + (i : Int))))) H' R)
    (he : ∀ (i : Nat) H', l + (i : Int) < n → pf i = true → Sm H H' → ∀ R : VK, (∀ H2, Sm H' H2 → R (f i) H2) → te ((wipe σ vs).set j (some (.int (l + (i : Int))))) H' R)
    (k : ∀ p H', Sm H H' → H p = none → H' p = some (.lst (((List.range (n - l).toNat).filter pf).map f)) → Q (.ref p) H') :
    ∃ i m : Int, [V.int l, V.int n] = [.int i, .int m] ∧ (-(2 ^ 62) ≤ i ∧ i < 2 ^ 62 ∧ -(2 ^ 62) ≤ m ∧ m < 2 ^ 62) ∧ LcB (Itr i (m - i).toNat) (gName j) tt te vs σ H Q := by
  refine ⟨l, n, rfl, ⟨by omega, by omega, by omega, by omega⟩, fun D hD => ?_⟩
  refine lc_range (lo := l) (n := (n - l).toNat) (fun i H' => Sm H H' ∧ H' D = some (.lst (((List.range i).filter pf).map f))) ⟨same_upd hD, upd_same⟩ (fun i H' hi p => ?_) (fun H' p => k D H' p.1 hD p.2)
  show wipe ((wipe σ vs).set j (some (.int (l + (i : Int))))) vs = wipe σ vs ∧ tt ((wipe σ vs).set j (some (.int (l + (i : Int))))) H' _
  refine ⟨hw _, ht i H' (by omega) p.1 _ fun H2 s2 => ?_⟩
  have rs : (List.range (i + 1)).filter pf = (List.range i).filter pf ++ (if pf i = true then [i] else []) := by
    rw [List.range_succ, List.filter_append]
    congr 1
    by_cases c : pf i = true
    · rw [if_pos c, List.filter_cons_of_pos c, List.filter_nil]
    · rw [if_neg c, List.filter_cons_of_neg c, List.filter_nil]
  by_cases c : pf i = true
  · rw [if_pos c]
    refine he i H2 (by omega) c (p.1.trans s2) _ fun H3 s3 => ⟨_, s3 _ _ (s2 _ _ p.2), ?_, sm_upd ((p.1.trans s2).trans s3) hD, ?_⟩
    · rw [List.length_map]
      have := List.length_filter_le pf (List.range i)
      rw [List.length_range] at this
      exact Nat.lt_of_lt_of_le (show _ < 1000000 by omega) (by decide)
    · rw [upd_same, rs, if_pos c, List.map_append]
      rfl
  · rw [if_neg c]
    refine ⟨p.1.trans s2, ?_⟩
    rw [rs, if_neg c, List.append_nil]
    exact s2 _ _ p.2
theorem w_lclF {a : Addr} {xs : List V} (pf : V → Bool) (f : V → V) (hs : SqL K H a xs) (hz : xs.length ≤ 1000000) (hw : ∀ x, wipe ((wipe σ vs).set j (some x)) vs = wipe σ vs)
    (ht : ∀ (i : Nat) x H', xs[i]? = some x → Sm H H' → ∀ R : Bool → Hp → Prop, (∀ H2, Sm H' H2 → R (pf x) H2) → tt ((wipe σ vs).set j (some x)) H' R)
    (he : ∀ (i : Nat) x H', xs[i]? = some x → pf x = true → Sm H H' → ∀ R : VK, (∀ H2, Sm H' H2 → R (f x) H2) → te ((wipe σ vs).set j (some x)) H' R)
    (k : ∀ p H', Sm H H' → H p = none → H' p = some (.lst ((xs.filter pf).map f)) → Q (.ref p) H') :
    ∃ b, V.ref a = .ref b ∧ (∃ xs, SqL K H b xs) ∧ LcB (Itl K b) (gName j) tt te vs σ H Q := by
  refine ⟨a, rfl, ⟨xs, hs⟩, fun D hD => ?_⟩
  refine lc_list (xs := xs) (fun i H' => Sm H H' ∧ H' D = some (.lst (((xs.take i).filter pf).map f))) ⟨same_upd hD, by rw [List.take_zero]; exact upd_same⟩ (fun i H' _ p => p.1.seq hs) (fun i x H' hi p => ?_) (fun H' p => k D H' p.1 hD (by have := p.2; rwa [List.take_length] at this))
  show wipe ((wipe σ vs).set j (some x)) vs = wipe σ vs ∧ tt ((wipe σ vs).set j (some x)) H' _
  have rs : (xs.take (i + 1)).filter pf = (xs.take i).filter pf ++ (if pf x = true then [x] else []) := by
    rw [List.take_add_one, hi, List.filter_append]
    congr 1
    by_cases c : pf x = true
    · rw [if_pos c]
      exact List.filter_cons_of_pos c
    · rw [if_neg c]
      exact List.filter_cons_of_neg c
  refine ⟨hw _, ht i x H' hi p.1 _ fun H2 s2 => ?_⟩
  by_cases c : pf x = true
  · rw [if_pos c]
    refine he i x H2 hi c (p.1.trans s2) _ fun H3 s3 => ⟨_, s3 _ _ (s2 _ _ p.2), ?_, sm_upd ((p.1.trans s2).trans s3) hD, ?_⟩
    · rw [List.length_map]
      have h1 := List.length_filter_le pf (xs.take i)
      have h2 := (List.getElem?_eq_some_iff.mp hi).1
      rw [List.length_take] at h1
      exact Nat.lt_of_lt_of_le (show _ < 1000000 by omega) (by decide)
    · rw [upd_same, rs, if_pos c, List.map_append]
      rfl
  · rw [if_neg c]
    refine ⟨p.1.trans s2, ?_⟩
    rw [rs, if_neg c, List.append_nil]
    exact s2 _ _ p.2
end
def rInt1 : List V → Hp → VK → Prop := fun xs H Q => (∃ i, xs = [.int i] ∧ Q (.int i) H) ∨ ∃ k, xs = [.bl k] ∧ Q (.int (if k then 1 else 0)) H
theorem c_int1 {X : Cx} : CallR X (.type "int") rInt1 := call_int1
section
variable {K : PySem.W.Frag} {H : Hp} {Q : VK} {a p : Addr} {b : Bool} {i : Int} {v : V} {d : PyData}
theorem w_intB (k : Q (.int (if b then 1 else 0)) H) : rInt1 [.bl b] H Q := .inr ⟨b, rfl, k⟩
theorem w_intI (k : Q (.int i) H) : rInt1 [.int i] H Q := .inl ⟨i, rfl, k⟩
theorem w_sum (ns : List Int) (h : SqL K H a (ns.map V.int)) (k : Q (.int ns.sum) H) : rSum K [.ref a] H Q := ⟨a, ns, rfl, h, k⟩
theorem w_min (ns : List Int) (h : SqL K H a (ns.map V.int)) (h0 : 0 < ns.length) (k : ∀ m, m ∈ ns → (∀ y, y ∈ ns → m ≤ y) → Q (.int m) H) : rMin K [.ref a] H Q := ⟨a, ns, rfl, h, h0, k⟩
theorem w_isi_n (k : Q (.bl false) H) : rIsi K [.non, .ty "bool"] H Q := ⟨_, _, _, _, false, rfl, .ty _, .base .non, kit_ty (by decide +kernel), k⟩
theorem w_isiT_n (h : H p = some (.tup [.ty "list", .ty "tuple"])) (k : Q (.bl false) H) : rIsiT K [.non, .ref p] H Q :=
  ⟨_, _, _, _, _, false, rfl, h, .cons (.ty _) (.cons (.ty _) .nil), .base .non, kitAny_cons (kit_ty (b := "list") (r := false) (by decide +kernel)) (fun _ => kitAny_cons (kit_ty (b := "tuple") (r := false) (by decide +kernel)) (fun _ => kitAny_nil) (fun z => nomatch z)) (fun z => nomatch z), k⟩
theorem w_eqN (k : Q (.bl true) H) : rEq .non .non H Q := ⟨rfl, by simpa using k⟩
/-- a list of ints and the empty list -/
theorem w_ne0 (ns : List Int) {q : Addr} (h1 : SqL K H p (ns.map V.int)) (h2 : H q = some (.lst [])) (k : Q (.bl (decide (ns ≠ []))) H) : rNeD K (.ref p) (.ref q) H Q := by
  refine ⟨_, _, .lst h1 (dp_ints ns), .lst (.inl (.inl h2)) .nil, shaped_ints ns, shaped_ints [], ?_⟩
  cases ns with
  | nil =>
    rw [show PyData.eqv (.list (([] : List Int).map PyData.int)) (.list []) = true from eqv_ints []]
    simpa using k
  | cons n r =>
    have e : PyData.eqv (.list ((n :: r).map PyData.int)) (.list []) = false := by rfl
    rw [e]
    simpa using k
end
/-! how many of the seeds 1 to l stand in a block -/
theorem cnt_halves {m b l : Int} (hm : 0 < m) (b1 : 1 ≤ b) (b2 : b ≤ m) : cnt (2 * m) b l + cnt (2 * m) (2 * m + 1 - b) l = cnt m b l := by
  have d1 := Int.emod_add_mul_ediv l (2 * m)
  have n1 := Int.emod_nonneg l (b := 2 * m) (by omega)
  have l1 := Int.emod_lt_of_pos l (b := 2 * m) (by omega)
  generalize hq : l / (2 * m) = q at d1
  generalize ht : l % (2 * m) = t at d1 n1 l1
  unfold cnt turned
  rw [hq, ht]
  by_cases c : t < m
  · have e1 : l / m = 2 * q := by
      rw [← d1, show t + 2 * m * q = t + (2 * q) * m by rw [Int.mul_comm 2 m, Int.mul_assoc, Int.mul_comm m], Int.add_mul_ediv_right _ _ (by omega), Int.ediv_eq_zero_of_lt n1 c]
      omega
    have e2 : l % m = t := by
      rw [← d1, show t + 2 * m * q = t + (2 * q) * m by rw [Int.mul_comm 2 m, Int.mul_assoc, Int.mul_comm m], Int.add_mul_emod_self_right, Int.emod_eq_of_lt n1 c]
    rw [e1, e2]
    repeat' split
    all_goals omega
  · have e1 : l / m = 2 * q + 1 := by
      rw [← d1, show t + 2 * m * q = (t - m) + (2 * q + 1) * m by rw [Int.mul_comm 2 m, Int.mul_assoc, Int.mul_comm m, Int.add_mul]; omega, Int.add_mul_ediv_right _ _ (by omega), Int.ediv_eq_zero_of_lt (by omega) (by omega)]
      omega
    have e2 : l % m = t - m := by
      rw [← d1, show t + 2 * m * q = (t - m) + (2 * q + 1) * m by rw [Int.mul_comm 2 m, Int.mul_assoc, Int.mul_comm m, Int.add_mul]; omega, Int.add_mul_emod_self_right, Int.emod_eq_of_lt (by omega) (by omega)]
    rw [e1, e2]
    repeat' split
    all_goals omega
theorem cnt_one {l : Int} : cnt 1 1 l = l := by
  unfold cnt turned
  have e : l % 1 = 0 := by omega
  rw [e, show l / 1 = l by omega]
  split <;> split at * <;> omega
theorem cnt_nn {m b l : Int} (hm : 0 < m) (hl : 0 ≤ l) : 0 ≤ cnt m b l := by
  unfold cnt
  have := Int.ediv_nonneg (a := l) (b := m) hl (by omega)
  split <;> omega
/-- of the first row: the seed itself -/
theorem cnt_top {m b l : Int} (hm : 0 < m) (b1 : 1 ≤ b) (bl : b ≤ l) (lm : l ≤ m) : cnt m b l = 1 := by
  unfold cnt turned
  by_cases c : l = m
  · subst c
    rw [Int.ediv_self (by omega), Int.emod_self, if_neg (show ¬ (1 : Int) % 2 = 0 by decide), if_neg (by omega)]
  · rw [Int.ediv_eq_zero_of_lt (a := l) (b := m) (by omega) (by omega), Int.emod_eq_of_lt (a := l) (b := m) (by omega) (by omega), if_pos (show (0 : Int) % 2 = 0 by decide), if_pos bl]
    omega
theorem cnt_full {m b n : Int} (hm : 0 < m) (b1 : 1 ≤ b) (b2 : b ≤ m) : cnt m b (n * m) = n := by
  unfold cnt turned
  rw [Int.mul_ediv_cancel _ (by omega), Int.mul_emod_left]
  split <;> split at * <;> omega
/-- one player more -/
theorem cnt_more {m b l : Int} (hm : 0 < m) (b1 : 1 ≤ b) (b2 : b ≤ m) (hl : 0 ≤ l) : cnt m b (l + 1) - cnt m b l = if blk m (l + 1) = b then 1 else 0 := by
  have d1 := Int.emod_add_mul_ediv l m
  have n1 := Int.emod_nonneg l (b := m) (by omega)
  have l1 := Int.emod_lt_of_pos l hm
  generalize hq : l / m = q at d1
  generalize ht : l % m = t at d1 n1 l1
  have ec : l + 1 - 1 = l := by omega
  unfold cnt blk turned
  rw [ec, hq, ht]
  by_cases c : t + 1 < m
  · have e1 : (l + 1) / m = q := by
      rw [← d1, show t + m * q + 1 = (t + 1) + q * m by rw [Int.mul_comm]; omega, Int.add_mul_ediv_right _ _ (by omega), Int.ediv_eq_zero_of_lt (by omega) c]
      omega
    have e2 : (l + 1) % m = t + 1 := by
      rw [← d1, show t + m * q + 1 = (t + 1) + q * m by rw [Int.mul_comm]; omega, Int.add_mul_emod_self_right, Int.emod_eq_of_lt (by omega) c]
    rw [e1, e2]
    repeat' split
    all_goals omega
  · have e1 : (l + 1) / m = q + 1 := by
      rw [← d1, show t + m * q + 1 = 0 + (q + 1) * m by rw [Int.mul_comm, Int.add_mul]; omega, Int.add_mul_ediv_right _ _ (by omega), Int.zero_ediv]
      omega
    have e2 : (l + 1) % m = 0 := by
      rw [← d1, show t + m * q + 1 = 0 + (q + 1) * m by rw [Int.mul_comm, Int.add_mul]; omega, Int.add_mul_emod_self_right, Int.zero_emod]
    rw [e1, e2]
    repeat' split
    all_goals omega
/-- the other half of the block of level t around a seed -/
def oth (k t s : Int) : Int := p2 (k - t + 1) + 1 - blk (p2 (k - t + 1)) s
theorem oth_range {k t s : Int} : 1 ≤ oth k t s ∧ oth k t s ≤ p2 (k - t + 1) := by
  have := blk_range (m := p2 (k - t + 1)) (s := s) (p2_pos _)
  unfold oth
  omega
theorem cnt_level {k t s l : Int} (t0 : 1 ≤ t) (t1 : t ≤ k) (hs : 1 ≤ s) : cnt (p2 (k - t + 1)) (blk (p2 (k - t + 1)) s) l + cnt (p2 (k - t + 1)) (oth k t s) l = cnt (p2 (k - t)) (blk (p2 (k - t)) s) l := by
  have M0 := p2_pos (k - t)
  have e := p2_succ (k := k - t) (by omega)
  have br := blk_range (m := p2 (k - t)) (s := s) M0
  have h := cnt_halves (m := p2 (k - t)) (b := blk (p2 (k - t)) s) (l := l) M0 br.1 br.2
  have f := blk_below (m := p2 (k - t)) (s := s) M0 hs
  unfold oth
  rw [e]
  rcases f with f | f
  · rw [f]
    exact h
  · rw [f, show 2 * p2 (k - t) + 1 - (2 * p2 (k - t) + 1 - blk (p2 (k - t)) s) = blk (p2 (k - t)) s by omega]
    omega
/-- the new player meets the seed in round t -/
theorem oth_meets {k t a b : Int} (hk : 0 ≤ k) (t0 : 1 ≤ t) (t1 : t ≤ k) (ha : 1 ≤ a ∧ a ≤ p2 k) (hb : 1 ≤ b ∧ b ≤ p2 k) : blk (p2 (k - t + 1)) b = oth k t a ↔ t = lev k [a, b] a := by
  have M0 := p2_pos (k - t)
  have e := p2_succ (k := k - t) (by omega)
  have h1 := lev_two hk ha hb (h := t) (by omega) t1
  have h2 := lev_two hk ha hb (h := t - 1) (by omega) (by omega)
  rw [show k - (t - 1) = k - t + 1 by omega] at h2
  have fa := blk_fold (m := p2 (k - t)) (s := a) M0 ha.1
  have fb := blk_fold (m := p2 (k - t)) (s := b) M0 hb.1
  have ra := blk_range (m := p2 (k - t + 1)) (s := a) (p2_pos _)
  have rb := blk_range (m := p2 (k - t + 1)) (s := b) (p2_pos _)
  rw [← e] at fa fb
  unfold fold1 at fa fb
  unfold oth
  by_cases c : blk (p2 (k - t)) a = blk (p2 (k - t)) b
  · have q1 := h1.mpr c
    by_cases c2 : blk (p2 (k - t + 1)) a = blk (p2 (k - t + 1)) b
    · have q2 := h2.mpr c2
      omega
    · have q2 : ¬ lev k [a, b] a ≤ t - 1 := fun z => c2 (h2.mp z)
      split at fa <;> split at fb <;> omega
  · have q1 : ¬ lev k [a, b] a ≤ t := fun z => c (h1.mp z)
    split at fa <;> split at fb <;> omega
end SC
namespace SC
open PySem PySem.Spec PyProof.Rows L2
theorem cnt_pos {m b l : Int} (hm : 0 < m) (b1 : 1 ≤ b) (b2 : b ≤ m) (hl : 0 ≤ l) : 0 < SC.cnt m b l ↔ b ≤ l := by
  have q0 := Int.ediv_nonneg (a := l) (b := m) hl (by omega)
  by_cases c : l < m
  · unfold SC.cnt turned
    rw [Int.ediv_eq_zero_of_lt (a := l) (b := m) (by omega) (by omega), Int.emod_eq_of_lt (a := l) (b := m) (by omega) (by omega), if_pos (show (0 : Int) % 2 = 0 by decide)]
    split <;> omega
  · have q1 : 1 ≤ l / m := by
      have := Int.ediv_le_ediv (a := m) (b := l) hm (by omega)
      rwa [Int.ediv_self (by omega)] at this
    unfold SC.cnt
    split <;> omega
/-- the head of a rising list is its least item -/
theorem head_least {x : Int} {r : List Int} (h : (x :: r).Pairwise (· < ·)) : ∀ y ∈ x :: r, x ≤ y := fun y hy => by
  rcases List.mem_cons.mp hy with rfl | hy
  · omega
  · have := (List.pairwise_cons.mp h).1 y hy
    omega
theorem rising_filter (n : Nat) (pf : Nat → Bool) : (((List.range n).filter pf).map fun i : Nat => 1 + (i : Int)).Pairwise (· < ·) := by
  rw [List.pairwise_map]
  refine (List.Pairwise.filter pf List.pairwise_lt_range).imp ?_
  intro a b h
  omega
end SC

set_option Elab.async false
set_option linter.all false
set_option maxRecDepth 100000
set_option maxHeartbeats 4000000
/-! Parts of the bracket's list: their least seed, how many of them are players. -/
namespace SC
open PySem PySem.Spec PyProof.Rows L2
theorem mem_le {m b i l : Int} (hm : 0 < m) (b1 : 1 ≤ b) (b2 : b ≤ m) (i0 : 0 ≤ i) (l0 : 0 ≤ l) : mem m b i ≤ l ↔ i < SC.cnt m b l := by
  have d1 := Int.emod_add_mul_ediv l m
  have n1 := Int.emod_nonneg l (b := m) (by omega)
  have l1 := Int.emod_lt_of_pos l hm
  have q0 := Int.ediv_nonneg (a := l) (b := m) l0 (by omega)
  unfold SC.cnt
  generalize l / m = r at *
  generalize l % m = t at *
  have tr : ∀ x : Int, 1 ≤ turned m x b ∧ turned m x b ≤ m := fun x => by unfold turned; split <;> omega
  have ti := tr i
  rw [Int.mul_comm] at d1
  unfold mem
  by_cases c : i < r
  · have h2 : (i + 1) * m ≤ r * m := Int.mul_le_mul_of_nonneg_right (by omega) (by omega)
    rw [Int.add_mul] at h2
    split <;> omega
  · by_cases c2 : i = r
    · subst c2
      split <;> omega
    · have h2 : (r + 1) * m ≤ i * m := Int.mul_le_mul_of_nonneg_right (by omega) (by omega)
      rw [Int.add_mul] at h2
      split <;> omega
theorem cnt_le {m b n l : Int} (hm : 0 < m) (b1 : 1 ≤ b) (b2 : b ≤ m) (n0 : 0 ≤ n) (l0 : 0 ≤ l) (h : l ≤ n * m) : SC.cnt m b l ≤ n := by
  by_cases c : n < SC.cnt m b l
  · have := (mem_le hm b1 b2 n0 l0).mpr c
    unfold mem turned at this
    split at this <;> omega
  · omega
theorem filter_lt (c : Nat) : ∀ N : Nat, ((List.range N).filter fun i : Nat => decide ((i : Int) < (c : Int))).length = min N c
  | 0 => by simp
  | N + 1 => by
    have ih := filter_lt c N
    rw [List.range_succ, List.filter_append, List.length_append, ih]
    by_cases h : (N : Int) < c
    · rw [List.filter_cons_of_pos (by simpa using h)]
      simp only [List.filter_nil, List.length_cons, List.length_nil]
      omega
    · rw [List.filter_cons_of_neg (by simpa using h)]
      simp only [List.filter_nil, List.length_nil]
      omega
theorem ext_perm {m s : Int} (hm : 0 ≤ m) (h1 : 1 ≤ s) (h2 : s ≤ p2 m) (h : Nat) : (mems (p2 m) s (2 ^ h)).Perm (ext m s h) := by
  have pm : ((ext m s h).mergeSort (fun a b => decide (a ≤ b))).Perm (ext m s h) := List.mergeSort_perm _ _
  have so : ((ext m s h).mergeSort (fun a b => decide (a ≤ b))).Pairwise (· ≤ ·) := by
    have := List.pairwise_mergeSort (le := fun a b : Int => decide (a ≤ b)) (fun a b c x y => by simp only [decide_eq_true_eq] at *; omega) (fun a b => by simp only [Bool.or_eq_true, decide_eq_true_eq]; omega) (ext m s h)
    exact this.imp fun x => of_decide_eq_true x
  rw [← part_sorted hm h1 h2 pm so]
  exact pm
theorem ext_count {m s l : Int} (hm : 0 ≤ m) (h1 : 1 ≤ s) (h2 : s ≤ p2 m) (h : Nat) (l0 : 0 ≤ l) (hl : l ≤ p2 h * p2 m) : (((ext m s h).filter fun x => decide (x ≤ l)).length : Int) = SC.cnt (p2 m) s l := by
  have mp := p2_pos m
  have e := ((ext_perm hm h1 h2 h).filter fun x => decide (x ≤ l)).length_eq
  rw [← e]
  unfold mems
  rw [List.filter_map, List.length_map]
  have c0 := cnt_nn (b := s) mp l0
  have cl := cnt_le mp h1 h2 (n := p2 h) (Int.le_of_lt (p2_pos _)) l0 hl
  obtain ⟨c, hc⟩ := Int.eq_ofNat_of_zero_le c0
  have fe : (List.range (2 ^ h)).filter ((fun x => decide (x ≤ l)) ∘ fun i : Nat => mem (p2 m) s (i : Int)) = (List.range (2 ^ h)).filter fun i : Nat => decide ((i : Int) < (c : Int)) := by
    refine List.filter_congr fun i _ => ?_
    show decide (mem (p2 m) s (i : Int) ≤ l) = decide ((i : Int) < (c : Int))
    rw [← hc]
    exact decide_eq_decide.mpr (mem_le mp h1 h2 (by omega) l0)
  rw [fe, filter_lt, hc]
  rw [hc, p2_nat] at cl
  omega
theorem ext_has (m s : Int) : ∀ h : Nat, s ∈ ext m s h
  | 0 => by simp [ext]
  | h + 1 => by
    simp only [ext, List.mem_flatMap, List.mem_cons, List.not_mem_nil, or_false]
    exact ⟨s, ext_has m s h, .inl rfl⟩
theorem ext_least {m s : Int} (hm : 0 ≤ m) (h1 : 1 ≤ s) (h2 : s ≤ p2 m) {h : Nat} : ∀ x ∈ ext m s h, s ≤ x := fun x hx => by
  obtain ⟨r, b⟩ := ext_in hm h1 h2 h x hx
  have mp := p2_pos m
  have q0 := Int.ediv_nonneg (a := x - 1) (b := p2 m) (by omega) (by omega)
  have e := mem_back (m := p2 m) (s := x) mp
  rw [b] at e
  rw [← e]
  unfold mem turned
  by_cases c : (x - 1) / p2 m = 0
  · rw [c]
    simp
  · have h2 : 1 * p2 m ≤ (x - 1) / p2 m * p2 m := Int.mul_le_mul_of_nonneg_right (by omega) (by omega)
    split <;> omega
theorem brk_cut {n h j : Nat} {s : Int} (hn : h ≤ n) (hs : (brk (n - h))[j]? = some s) : ((brk n).drop (j * 2 ^ h)).take (2 ^ h) = ext ((n - h : Nat) : Int) s h := by
  have e : brk n = (brk (n - h)).flatMap fun x => ext (0 + ((n - h : Nat) : Int)) x h := by
    have := ext_two 0 1 (n - h) h
    rw [show n - h + h = n by omega] at this
    exact this
  rw [e, Int.zero_add]
  exact cut_parts (f := fun x => ext ((n - h : Nat) : Int) x h) _ j _ (fun y => ext_len _ _ _) hs
theorem flat2 (c : Int) : ∀ (l : List Int) (q : Nat) (x : Int), l[q]? = some x → (l.flatMap fun x => [x, c - x])[2 * q]? = some x ∧ (l.flatMap fun x => [x, c - x])[2 * q + 1]? = some (c - x)
  | [], q, x, h => by simp at h
  | a :: r, 0, x, h => by
    have e : a = x := Option.some.inj h
    subst e
    exact ⟨rfl, rfl⟩
  | a :: r, q + 1, x, h => by
    have ih := flat2 c r q x h
    rw [show 2 * (q + 1) = 2 * q + 1 + 1 by omega, show 2 * q + 1 + 1 + 1 = (2 * q + 1) + 1 + 1 by omega]
    simp only [List.flatMap_cons, List.cons_append, List.nil_append, List.getElem?_cons_succ]
    exact ih
theorem brk_two {k q : Nat} {x : Int} (h : (brk k)[q]? = some x) : (brk (k + 1))[2 * q]? = some x ∧ (brk (k + 1))[2 * q + 1]? = some (2 * p2 k + 1 - x) := by
  have e : brk (k + 1) = (brk k).flatMap fun x => [x, 2 * p2 k + 1 - x] := by
    show (ext 0 1 k).flatMap (fun x => [x, 2 * p2 (0 + (k : Int)) + 1 - x]) = _
    rw [Int.zero_add]
    rfl
  rw [e]
  exact flat2 (2 * p2 k + 1) _ q x h
/-- the neighbour in the list -/
theorem brk_sib {k i : Nat} {x : Int} (h : (brk (k + 1))[i]? = some x) : (brk (k + 1))[if i % 2 = 0 then i + 1 else i - 1]? = some (p2 ((k + 1 : Nat) : Int) + 1 - x) := by
  have hi : i < 2 ^ (k + 1) := by
    have := (List.getElem?_eq_some_iff.mp h).1
    rwa [brk_len] at this
  have hq : i / 2 < 2 ^ k := by rw [Nat.pow_succ] at hi; omega
  obtain ⟨y, hy⟩ : ∃ y, (brk k)[i / 2]? = some y := ⟨_, List.getElem?_eq_getElem (by rw [brk_len]; exact hq)⟩
  have t := brk_two hy
  have ep : p2 ((k + 1 : Nat) : Int) = 2 * p2 k := by
    have := p2_succ (k := (k : Int)) (by omega)
    rw [← this]; congr 1
  rw [ep]
  by_cases c : i % 2 = 0
  · rw [if_pos c]
    rw [show 2 * (i / 2) = i by omega] at t
    have e : x = y := Option.some.inj (h.symm.trans t.1)
    rw [e]
    exact t.2
  · rw [if_neg c]
    rw [show 2 * (i / 2) + 1 = i by omega] at t
    have e : x = 2 * p2 k + 1 - y := Option.some.inj (h.symm.trans t.2)
    rw [e, show 2 * p2 k + 1 - (2 * p2 k + 1 - y) = y by omega, show i - 1 = 2 * (i / 2) by omega]
    exact t.1
theorem filter_not (p : Int → Bool) : ∀ l : List Int, (l.filter p).length + (l.filter fun x => !p x).length = l.length
  | [] => rfl
  | a :: r => by
    have ih := filter_not p r
    by_cases c : p a = true
    · rw [List.filter_cons_of_pos c, List.filter_cons_of_neg (by simp [c])]
      simp only [List.length_cons]
      omega
    · rw [List.filter_cons_of_neg c, List.filter_cons_of_pos (by simpa using c)]
      simp only [List.length_cons]
      omega
/-- how many matches of a round have two players -/
theorem brk_both (k : Nat) {p : Int} (hp : 0 ≤ p) : (((brk k).filter fun x => decide (2 * p2 k + 1 - x ≤ p)).length : Int) = max 0 (min (p2 k) (p - p2 k)) := by
  have P0 := p2_pos (k : Int)
  have e1 : ((brk k).filter fun x => decide (2 * p2 k + 1 - x ≤ p)) = (brk k).filter fun x => !decide (x ≤ min (p2 k) (max 0 (2 * p2 k - p))) := by
    refine List.filter_congr fun x hx => ?_
    have r := brk_in k x hx
    by_cases c : 2 * p2 k + 1 - x ≤ p
    · rw [decide_eq_true c, decide_eq_false (by omega)]
      rfl
    · rw [decide_eq_false c, decide_eq_true (by omega)]
      rfl
  have c1 := ext_count (m := 0) (s := 1) (l := min (p2 k) (max 0 (2 * p2 k - p))) (by decide) (by decide) (by rw [p2_zero]; decide) k (by omega) (by rw [p2_zero]; omega)
  rw [p2_zero, cnt_one] at c1
  have f := filter_not (fun x => decide (x ≤ min (p2 k) (max 0 (2 * p2 k - p)))) (brk k)
  rw [brk_len] at f
  have pn := p2_nat k
  rw [e1]
  unfold brk at f ⊢
  omega
/-- all matches of the rounds 1 to d -/
theorem both_sum {k p : Int} (hp : 1 ≤ p) (hk : p ≤ p2 k) : ∀ d : Nat, (d : Int) ≤ k → ((List.range d).map fun i : Nat => max 0 (min p (p2 (k - (1 + (i : Int)) + 1)) - p2 (k - (1 + (i : Int)) + 1) / 2)).sum = p - min p (p2 (k - d))
  | 0, _ => by
    rw [show k - ((0 : Nat) : Int) = k by omega]
    simp
    omega
  | d + 1, hd => by
    have ih := both_sum hp hk d (by omega)
    have e := p2_half (k := k - d) (by omega)
    have ph := p2_pos (k - d - 1)
    rw [List.range_succ, List.map_append, List.sum_append, ih]
    simp only [List.map_cons, List.map_nil, List.sum_cons, List.sum_nil]
    rw [show k - (1 + (d : Int)) + 1 = k - d by omega, show k - ((d + 1 : Nat) : Int) = k - d - 1 by omega]
    omega
end SC
namespace SC
open PySem PySem.Spec PyProof.Rows L2
def BmL (K : PySem.W.Frag) (T : String) (r : V → List V → Hp → VK → Prop) (t : TA) (σ : L2.St) (x : V) (H : Hp) (Q : VK) : Prop := tyV K T x H ∧ t σ H fun xs H2 => r x xs H2 Q
section
variable {K : PySem.W.Frag} {σ : L2.St} {H : Hp} {Q : VK} {to : TE} {t : TA} {T : String} {r : V → List V → Hp → VK → Prop} {p : Addr} {xs : List V}
theorem w_bm (k : to σ H fun x H1 => BmL K T r t σ x H1 Q) : tBM K T r to t σ H Q := k
theorem w_bml (h : SqL K H p xs) (k : t σ H fun ys H2 => r (.ref p) ys H2 Q) : BmL K "list" r t σ (.ref p) H Q := ⟨.inl ⟨rfl, _, h⟩, k⟩
theorem w_index (ns : List Int) {x : Int} {j : Nat} (h : SqL K H p (ns.map V.int)) (hj : ns[j]? = some x) (hn : ns.Nodup) (k : Q (.int (j : Nat)) H) : rIndex K (.ref p) [.int x] H Q := by
  refine ⟨p, _, .int x, j, .int x, rfl, rfl, h, rfl, flat_ints ns, by rw [List.getElem?_map, hj]; rfl, by simp [eqV], fun m z' hm hz => ?_, k⟩
  obtain ⟨z, ez, rfl⟩ := at_int hz
  have hne : z ≠ x := fun e => by
    subst e
    have h1 := (List.getElem?_eq_some_iff.mp ez).1
    have := (List.getElem?_inj h1 hn).mp (ez.trans hj.symm)
    omega
  simp [eqV, hne]
end
theorem rgc_pow13 {m c : Nat} (hm : 0 < m) (hc : 0 < c) (hm2 : m ≤ 2 ^ 13) (hc2 : c ≤ 2 ^ 13) : RgC 0 ((m * c : Nat) : Int) (c : Int) m := by
  have e : ((m * c : Nat) : Int) = (m : Int) * (c : Int) := by push_cast; rfl
  have e2 : ((m : Int) * (c : Int) - 0 - 1) / (c : Int) + 1 = m := by
    rw [show (m : Int) * (c : Int) - 0 - 1 = ((c : Int) - 1) + ((m : Int) - 1) * (c : Int) by rw [Int.sub_mul]; omega, Int.add_mul_ediv_right _ _ (by omega), Int.ediv_eq_zero_of_lt (by omega) (by omega)]
    omega
  have e3 : (0 : Int) < (m : Int) * (c : Int) := Int.mul_pos (by omega) (by omega)
  have e4 : m * c ≤ 2 ^ 13 * 2 ^ 13 := Nat.mul_le_mul hm2 hc2
  have sz : PySem.Builtin.Range.rangeSize 0 ((m * c : Nat) : Int) (c : Int) = m := by
    unfold PySem.Builtin.Range.rangeSize
    rw [if_pos (by omega), e, if_pos e3, e2]
  refine ⟨by omega, by omega, ?_, sz⟩
  unfold PySem.Builtin.Range.small
  rw [sz]
  simp only [PySem.Builtin.Range.rangeFitsLong, Bool.and_eq_true, Bool.or_eq_true, decide_eq_true_eq, beq_iff_eq, if_pos (show (c : Int) > 0 by omega)]
  omega
end SC

set_option Elab.async false
set_option linter.all false
set_option maxRecDepth 100000
set_option maxHeartbeats 4000000
/-! Seeds dealt one by one: lists of lists, enumerate, the sums of a group. -/
namespace SC
open PySem PySem.Spec PyProof.Rows L2
section
variable {K : PySem.W.Frag} {σ : L2.St} {H : Hp} {Q : VK} {D : Ends} {ta : TA} {tb : TS} {g : TG} {a : Addr} {xs : List V}
theorem w_forE (k : ta σ H fun vs H1 => ∃ a xs, vs = [V.ref a] ∧ SqL K H1 a xs ∧ Loop (Ite K a) g tb D σ H1) : tFor (iEnum K ta) g tb D σ H := k
theorem w_enum (hx : SqL K H a xs) (Pv : Nat → L2.St → Hp → Prop) (h0 : Pv 0 σ H) (hl : ∀ i σ' H', i ≤ xs.length → Pv i σ' H' → SqL K H' a xs)
    (hs : ∀ (i : Nat) x σ' H', xs[i]? = some x → Pv i σ' H' → ∀ T, H' T = none → g (.ref T) σ' (upd H' T (.tup [.int (i : Int), x])) fun σ2 H2 => tb { D with nx := Pv (i + 1), ct := Pv (i + 1), bk := D.nx } σ2 H2) (hd : ∀ σ' H', Pv xs.length σ' H' → D.nx σ' H') :
    ∃ b ys, [V.ref a] = [V.ref b] ∧ SqL K H b ys ∧ Loop (Ite K b) g tb D σ H := by
  refine ⟨a, xs, rfl, hx, fun i m σ' H' => m = xs.length - i ∧ i ≤ xs.length ∧ Pv i σ' H', ⟨xs.length, by simp, Nat.zero_le _, h0⟩, ?_⟩
  rintro i m σ' H' ⟨rfl, hi, p⟩
  have q := hl i σ' H' hi p
  by_cases c : i < xs.length
  · refine .inr ⟨⟨xs, xs[i], q, List.getElem?_eq_getElem c⟩, Pv (i + 1), fun σ2 H2 p2 => ⟨xs.length - (i + 1), by omega, rfl, c, p2⟩, fun v H2 y => ?_⟩
    obtain ⟨T, x, rfl, hT, rfl, hat⟩ := y
    exact hs i x σ' H' (hat xs q) p T hT
  · have e : i = xs.length := by omega
    subst e
    exact .inl ⟨⟨xs, q, Nat.le_refl _⟩, hd _ _ p⟩
theorem w_append {p : Addr} {y : V} (h : H p = some (.lst xs)) (hz : xs.length < 1000000) (k : Q .non (upd H p (.lst (xs ++ [y])))) : rAppend (.ref p) [y] H Q := ⟨p, xs, y, rfl, rfl, h, Nat.lt_of_lt_of_le hz (by decide), k⟩
end
theorem cut_take {xs : List V} {n : Nat} (h : n ≤ xs.length) : cutV xs none (some (n : Int)) = xs.take n := by
  unfold cutV
  rw [HT.sIx_nat]
  have e0 : HT.sIx xs.length 0 none = 0 := rfl
  rw [e0]
  simp [Nat.min_eq_left h]
/-! the deal -/
def dhr (m d : Int) : Int := blk m (d + 1) - 1
def dsp (m d : Int) : Int := if d / m % 2 = 0 then 1 else -1
theorem deal_next {m d : Int} (hm : 0 < m) (hd : 0 ≤ d) : (dhr m d + dsp m d = -1 ∨ dhr m d + dsp m d = m → dhr m (d + 1) = dhr m d ∧ dsp m (d + 1) = 0 - dsp m d) ∧ (¬ (dhr m d + dsp m d = -1 ∨ dhr m d + dsp m d = m) → dhr m (d + 1) = dhr m d + dsp m d ∧ dsp m (d + 1) = dsp m d) := by
  have d1 := Int.emod_add_mul_ediv d m
  have n1 := Int.emod_nonneg d (b := m) (by omega)
  have l1 := Int.emod_lt_of_pos d hm
  unfold dhr dsp blk turned
  rw [show d + 1 - 1 = d by omega, show d + 1 + 1 - 1 = d + 1 by omega]
  generalize d / m = r at *
  generalize hc : d % m = c at *
  by_cases z : c + 1 < m
  · have e1 : (d + 1) / m = r := by
      rw [← d1, show c + m * r + 1 = (c + 1) + r * m by rw [Int.mul_comm]; omega, Int.add_mul_ediv_right _ _ (by omega), Int.ediv_eq_zero_of_lt (by omega) z]
      omega
    have e2 : (d + 1) % m = c + 1 := by
      rw [← d1, show c + m * r + 1 = (c + 1) + r * m by rw [Int.mul_comm]; omega, Int.add_mul_emod_self_right, Int.emod_eq_of_lt (by omega) z]
    rw [e1, e2]
    by_cases p : r % 2 = 0
    · simp only [if_pos p]
      refine ⟨fun h => ⟨?_, ?_⟩, fun h => ⟨?_, ?_⟩⟩ <;> first | exact True.intro | omega
    · simp only [if_neg p]
      refine ⟨fun h => ⟨?_, ?_⟩, fun h => ⟨?_, ?_⟩⟩ <;> first | exact True.intro | omega
  · have e1 : (d + 1) / m = r + 1 := by
      rw [← d1, show c + m * r + 1 = 0 + (r + 1) * m by rw [Int.mul_comm, Int.add_mul]; omega, Int.add_mul_ediv_right _ _ (by omega), Int.zero_ediv]
      omega
    have e2 : (d + 1) % m = 0 := by
      rw [← d1, show c + m * r + 1 = 0 + (r + 1) * m by rw [Int.mul_comm, Int.add_mul]; omega, Int.add_mul_emod_self_right, Int.zero_emod]
    rw [e1, e2]
    by_cases p : r % 2 = 0
    · simp only [if_pos p, if_neg (show ¬ (r + 1) % 2 = 0 by omega)]
      refine ⟨fun h => ⟨?_, ?_⟩, fun h => ⟨?_, ?_⟩⟩ <;> first | exact True.intro | omega
    · simp only [if_neg p, if_pos (show (r + 1) % 2 = 0 by omega)]
      refine ⟨fun h => ⟨?_, ?_⟩, fun h => ⟨?_, ?_⟩⟩ <;> first | exact True.intro | omega
theorem dhr_range {m d : Int} (hm : 0 < m) : 0 ≤ dhr m d ∧ dhr m d < m := by
  have := blk_range (m := m) (s := d + 1) hm
  unfold dhr
  omega
theorem cnt_at {m l : Int} (hm : 0 < m) (hl : 0 ≤ l) : mem m (blk m (l + 1)) (SC.cnt m (blk m (l + 1)) l) = l + 1 := by
  have mb := mem_back (m := m) (s := l + 1) hm
  rw [show l + 1 - 1 = l by omega] at mb
  have e : SC.cnt m (blk m (l + 1)) l = l / m := by
    have n1 := Int.emod_nonneg l (b := m) (by omega)
    unfold SC.cnt blk turned
    rw [show l + 1 - 1 = l by omega]
    generalize l / m = r
    generalize l % m = c at *
    by_cases p : r % 2 = 0
    · simp only [if_pos p]
      rw [if_neg (by omega)]
    · simp only [if_neg p]
      rw [if_neg (by omega)]
  rw [e]
  exact mb
/-- F is a list of m lists, the groups of the first k seeds -/
structure Parts (H : Hp) (F : Addr) (as : List Addr) (m : Nat) (k : Int) : Prop where
  len : as.length = m
  nd : as.Nodup
  fn : F ∉ as
  top : H F = some (.lst (as.map V.ref))
  item : ∀ (i : Nat) a, as[i]? = some a → H a = some (.lst ((mems m ((i : Int) + 1) (SC.cnt m ((i : Int) + 1) k).toNat).map V.int))
theorem Parts.same {H H' : Hp} {F : Addr} {as : List Addr} {m : Nat} {k : Int} (h : Parts H F as m k) (e : Sm H H') : Parts H' F as m k :=
  ⟨h.len, h.nd, h.fn, e _ _ h.top, fun i a ha => e _ _ (h.item i a ha)⟩
theorem Parts.get {H : Hp} {F : Addr} {as : List Addr} {m : Nat} {k : Int} (h : Parts H F as m k) {j : Int} (h0 : 0 ≤ j) (h1 : j < m) : ∃ a, a ∈ as ∧ atI (as.map V.ref) j = some (.ref a) ∧ H a = some (.lst ((mems m (j + 1) (SC.cnt m (j + 1) k).toNat).map V.int)) ∧ as[j.toNat]? = some a := by
  obtain ⟨n, rfl⟩ := Int.eq_ofNat_of_zero_le h0
  have hn : n < as.length := by rw [h.len]; omega
  refine ⟨as[n], List.getElem_mem hn, atI_nat (by rw [List.getElem?_map, List.getElem?_eq_getElem hn]; rfl), h.item n _ (List.getElem?_eq_getElem hn), ?_⟩
  rw [Int.toNat_natCast]
  exact List.getElem?_eq_getElem hn
theorem Parts.put {H : Hp} {F a : Addr} {as : List Addr} {m : Nat} {k : Int} (h : Parts H F as m k) (k0 : 0 ≤ k) (m0 : 0 < m) (ha : as[(dhr m k).toNat]? = some a) :
    Parts (upd H a (.lst ((mems m (dhr m k + 1) (SC.cnt m (dhr m k + 1) k).toNat).map V.int ++ [.int (k + 1)]))) F as m (k + 1) := by
  have am := List.mem_of_getElem? ha
  have r := dhr_range (m := (m : Int)) (d := k) (by omega)
  refine ⟨h.len, h.nd, h.fn, ?_, fun i b hb => ?_⟩
  · rw [upd_ne (fun z => h.fn (by rw [z]; exact am))]
    exact h.top
  · have hi : i < m := by
      have := (List.getElem?_eq_some_iff.mp hb).1
      rwa [h.len] at this
    have cm := cnt_more (m := (m : Int)) (b := (i : Int) + 1) (l := k) (by omega) (by omega) (by omega) k0
    have c0 := cnt_nn (m := (m : Int)) (b := (i : Int) + 1) (l := k) (by omega) k0
    by_cases z : i = (dhr m k).toNat
    · have ei : (i : Int) = dhr m k := by omega
      have : a = b := Option.some.inj (ha.symm.trans (z ▸ hb))
      subst this
      rw [upd_same]
      have bk : blk m (k + 1) = (i : Int) + 1 := by
        rw [ei]
        unfold dhr
        omega
      rw [if_pos bk] at cm
      have ca := cnt_at (m := (m : Int)) (l := k) (by omega) k0
      rw [bk] at ca
      rw [← ei, show (SC.cnt m ((i : Int) + 1) (k + 1)).toNat = (SC.cnt m ((i : Int) + 1) k).toNat + 1 by omega]
      unfold mems
      rw [List.range_succ, List.map_append, List.map_append]
      simp only [List.map_cons, List.map_nil]
      rw [show (((SC.cnt m ((i : Int) + 1) k).toNat : Nat) : Int) = SC.cnt m ((i : Int) + 1) k by omega, ca]
    · have hne : b ≠ a := fun e => by
        subst e
        have hi2 := (List.getElem?_eq_some_iff.mp hb).1
        exact z ((List.getElem?_inj hi2 h.nd).mp (hb.trans ha.symm))
      rw [upd_ne hne, h.item i b hb]
      have bk : ¬ blk m (k + 1) = (i : Int) + 1 := fun e => z (by
        unfold dhr
        omega)
      rw [if_neg bk] at cm
      rw [show SC.cnt m ((i : Int) + 1) (k + 1) = SC.cnt m ((i : Int) + 1) k by omega]
theorem mems_sum (m b : Int) : ∀ n : Nat, (mems m b n).sum = gsum m b n
  | 0 => by
    have := gsum_even (m := m) (b := b) (h := 0)
    simp only [mems, List.range_zero, List.map_nil, List.sum_nil]
    simpa using this.symm
  | n + 1 => by
    have ih := mems_sum m b n
    have gs := gsum_step (m := m) (b := b) (c := (n : Int))
    unfold mems at ih ⊢
    rw [List.range_succ, List.map_append, List.sum_append, ih]
    simp only [List.map_cons, List.map_nil, List.sum_cons, List.sum_nil]
    rw [show ((n + 1 : Nat) : Int) = (n : Int) + 1 by omega]
    omega
theorem mems_take (m b : Int) (n k : Nat) (h : k ≤ n) : (mems m b n).take k = mems m b k := by
  unfold mems
  rw [← List.map_take, List.take_range, Nat.min_eq_left h]
theorem le_mulR {l m : Int} (hl : 0 ≤ l) (hm : 1 ≤ m) : l ≤ l * m := by
  have := Int.mul_le_mul_of_nonneg_left hm hl
  omega
theorem mems_nd {m b : Int} (hm : 0 < m) (b1 : 1 ≤ b) (b2 : b ≤ m) (n : Nat) : (mems m b n).Nodup := by
  unfold mems List.Nodup
  rw [List.pairwise_map]
  refine List.pairwise_lt_range.imp ?_
  intro x y h e
  have h1 := (mem_parts (i := (x : Int)) hm b1 b2).1
  have h2 := (mem_parts (i := (y : Int)) hm b1 b2).1
  rw [e] at h1
  omega
theorem mems_get (m b : Int) {n i : Nat} (h : i < n) : (mems m b n)[i]? = some (mem m b i) := by
  unfold mems
  rw [List.getElem?_map, List.getElem?_range h]
  rfl
/-- seeds of one group share one of the other draw exactly if its number divides -/
theorem refine_rule {m o : Int} (hm : 0 < m) (ho : 0 < o) : (m % o = 0 → ∀ a b : Int, blk m a = blk m b → blk o a = blk o b) ∧ (blk o (2 * m) = blk o 1 → m % o = 0) := by
  constructor
  · intro h a b e
    have d : 2 * o ∣ 2 * m := Int.mul_dvd_mul_left 2 (Int.dvd_of_emod_eq_zero h)
    rw [blk_eq hm] at e
    rw [blk_eq ho]
    rcases e with e | e
    · exact .inl (Int.dvd_trans d e)
    · exact .inr (Int.dvd_trans d e)
  · intro e
    rw [blk_eq ho] at e
    rcases e with ⟨k, hk⟩ | ⟨k, hk⟩
    · exfalso
      rw [Int.mul_assoc] at hk
      omega
    · rw [Int.mul_assoc] at hk
      exact Int.emod_eq_zero_of_dvd ⟨k, by omega⟩
theorem w_neS {H : Hp} {Q : VK} {x y : Str} (k : Q (.bl (decide (x ≠ y))) H) : rNe (.str x) (.str y) H Q := ⟨rfl, by
  have e : (!decide (V.str x = V.str y)) = decide (x ≠ y) := by simp
  rw [e]; exact k⟩
theorem dget_of {H : Hp} {a : Addr} {kvs : List (Key × V)} {x : Int} {v : V} (e : H a = some (.dK kvs)) (hv : valV kvs (.inl x) = some v) : DGet H a (.int x) (some v) := by
  rw [← hv]
  exact DGet.k (k := .inl x) e
end SC

set_option Elab.async false
set_option linter.all false
set_option maxRecDepth 100000
set_option maxHeartbeats 4000000
/-! A generator expression inside any(..), all(..): its element is read by the hand layer, in the generator's own frame. -/
namespace SC
open PySem PySem.Spec PyProof.Rows L2 GenW GxR

/-- where the element runs: the generator's frame over the def's -/
abbrev gxc (X : Cx) (B : Around) (s : Shared) (H : Hp) (ce : Env) (fp : List Addr) (pn : List (Addr × Obj)) : Cx :=
  { X with A := B, s_0 := s, H_0 := H, env := ce, outer := X.stack, stack := ce :: X.stack, ex := fp, fn := fun _ => false, calm := true, pn := pn, xe := fun _ _ => False }
abbrev gxe (X : Cx) (scope : Scope) (C : Addr) (cd : Value) : Env := genEnv scope (L2.cloFrom X.env.cells scope.names []) C cd builtinsNs X.env

theorem over_gx {B : Around} {elt : Expr} {gs : List Comprehension} {scope : Scope} {pos : Pos} {it acc : Value} {ce : Env} : B.over (.compLoop (.GeneratorExp elt gs scope pos) 0 it acc ce) [] = B.deeper ce := by
  first
    | rfl
    | (obtain ⟨hd, d, fr, gs, u⟩ := B
       simp [Around.over, Around.deeper, marksOver, frameCount, unitsOf, envsOf, guardsOf, pushEnvs, pushGuards, Code.envs, Code.env?, Code.isFrame, Code.guards, Code.isGuard, Code.weight, Code.frames, Code.isCreation, Code.isCaller, Code.cUnits]
       cases fr <;> rfl)

theorem inv_gens {X : Cx} {pins : List (Addr × Obj)} {σ : L2.St} {H : Hp} {s s' : Shared} (I : Inv X pins σ H s) (ho : s'.os = s.os) (hk : ∀ b o, s.heap.get? b = some o → s'.heap.get? b = some o) (hg : AllBare s'.gens) : Inv X pins σ H s' :=
  I.call' (ch := []) ho (Un.kept hk) (I.hok.kept hk) hg fun b hb => by simp at hb

section
variable {X : Cx} {pins : List (Addr × Obj)} {σ : L2.St} {H : Hp} {s : Shared}
/-- the generator has been made -/
theorem gx_start {scope : Scope} {own : List (Str × Nat)} {fp : List Addr} {B : Around} {cd it : Value} {a : Addr} {go : Obj} {h5 : Heap} {G : Array GenState} {tk : Nat}
    (I : Inv X pins σ H s) (ok : BlkOk X.N X.env.scope scope own) (hcell : ∀ y ∈ scope.names, y.2 ≠ .cell) (hN : X.N.Nodup) (hfp : ∀ b ∈ fp, FpOk X pins H b ∧ b < s.heap.objs.size)
    (hB : B.handled = none) (hBf : B.frames = some (gxe X scope s.heap.objs.size cd :: X.stack))
    (kp : ∀ b o, s.heap.get? b = some o → h5.get? b = some o) (hns : h5.Ns s.heap.objs.size (fun y => if y = (".0" : Str) then some it else none))
    (ha : h5.get? a = some go) (hal : s.heap.objs.size < a) (hgo : ∀ v, go.data ≠ .cell v) (hG : AllBare G) :
    Inv (gxc X B s H (gxe X scope s.heap.objs.size cd) fp [(a, go)]) [] (wipe σ (own.map (·.2))) H { s with heap := h5, gens := G, toks := tk } := by
  have hfree : ∀ y ∈ scope.names, y.2 = .free → ∃ c, X.env.cells.lookup y.1 = some c := fun y hy e => (ok.free y hy e).elim (fun q => I.ok.has _ (.inl q)) fun q => I.ok.has _ (.inr q)
  have cL : (gxe X scope s.heap.objs.size cd).locals = s.heap.objs.size := rfl
  have cF : (gxe X scope s.heap.objs.size cd).frame = some (gxe X scope s.heap.objs.size cd).locals := rfl
  have cm : ∀ {y c}, (gxe X scope s.heap.objs.size cd).cells.lookup y = some c → X.env.cells.lookup y = some c ∧ c < s.heap.objs.size := fun {y c} e => by
    have e1 : (L2.cloFrom X.env.cells scope.names []).lookup y = some c := e
    rcases cloFrom_mem (PySem.mem_of_lookup e1) with z | ⟨h1, h2⟩
    · cases z
    · obtain ⟨d, hd⟩ := hfree _ h1 rfl
      rw [hd] at h2
      have h3 : c = d := h2
      subst h3
      obtain ⟨v, q⟩ := I.cell _ _ hd
      exact ⟨hd, q.lt⟩
  have look : ∀ {y}, scope.names.lookup y = some .free → ∃ c, (gxe X scope s.heap.objs.size cd).cells.lookup y = some c ∧ X.env.cells.lookup y = some c := fun {y} hl => by
    obtain ⟨c, hc⟩ := mem_lookup (cloFrom_has (cells := X.env.cells) (acc := []) (PySem.mem_of_lookup hl))
    exact ⟨c, hc, (cm hc).1⟩
  have kO : ∀ y, (gxe X scope s.heap.objs.size cd).kindOf y = scope.names.lookup y := fun _ => rfl
  have nst : ∀ b, s.heap.objs.size ≤ b → b ∉ frs X.stack := fun b hb hm => by
    rcases List.mem_cons.mp (I.stkSub b hm) with z | z
    · have := I.lt
      rw [← z] at this
      exact absurd (Nat.lt_of_lt_of_le this hb) (Nat.lt_irrefl _)
    · exact I.nofs hb z
  have okG : (gxc X B s H (gxe X scope s.heap.objs.size cd) fp [(a, go)]).Ok := by
    refine ⟨I.ok.mod, ok.kind, I.ok.glob, rfl, Nat.le_refl _, fun y z c e1 e2 => I.ok.inj y z c (cm e1).1 (cm e2).1, fun y hy => ?_, fun y c z e => ?_, fun _ => hB, hBf, .inr ⟨rfl, cF⟩,
      fun b hb => ⟨?_, fun y c e => (hfp b hb).1.2.2.2.2.1 y c (cm e).1⟩, I.bs, Nat.le_trans I.ok.bsz I.sz, fun b o e hb => ?_, fun b hb z => ?_, I.stack, I.stkFree⟩
    · rcases hy with hy | hy
      · exact absurd rfl (hcell _ (PySem.mem_of_lookup ((kO y).symm.trans hy)))
      · obtain ⟨c, h1, _⟩ := look ((kO y).symm.trans hy)
        exact ⟨c, h1⟩
    · exact absurd (show false = true from z) Bool.false_ne_true
    · exact Nat.ne_of_lt (hfp b hb).2
    · rcases (hfp b hb).1.2.2.2.1 with z | z
      · exact I.ok.noex b o e z
      · exact absurd (Nat.lt_of_lt_of_le (Heap.lt_size e) (Nat.le_trans I.ok.bsz z)) (Nat.lt_irrefl _)
    · rcases List.mem_cons.mp (I.stkSub b z) with z | z
      · exact (hfp b hb).1.2.1 z
      · exact (hfp b hb).1.2.2.1 z
  refine ⟨okG, rfl, hG, Un.kept kp, ⟨_, hns, fun i y av e1 e2 e3 => ?_⟩, fun y c e => ?_, I.hok.fresh (Nat.le_refl _), fun y c e => I.freeC y c (cm e).1, fun p hp => ?_, I.hok.kept kp, by rw [wipe_length]; exact I.len⟩
  · obtain ⟨e2, hne⟩ := wipe_some e2
    have no : ∀ k, scope.names.lookup y = some k → ¬ (k = .local ∨ k = .cell) := fun k hk hh => by
      rcases ok.own _ (PySem.mem_of_lookup hk) hh with z | z
      · obtain ⟨p, hp, hpy⟩ := List.mem_map.mp z
        have e4 := ok.ix p hp
        have e5 : p.1 = y := hpy
        rw [e5] at e4
        exact hne (List.mem_map.mpr ⟨p, hp, nodup_ix hN e4 e1⟩)
      · exact z (List.mem_of_getElem? e1)
    have hfr : scope.names.lookup y = some .free := by
      have e3 : Vis scope y := e3
      rcases e3 with q | q | q
      · exact absurd (.inl rfl) (no _ q)
      · exact absurd (.inr rfl) (no _ q)
      · exact q
    obtain ⟨m, hn, hl⟩ := I.loc
    have hvis : Vis X.env.scope y := (ok.free _ (PySem.mem_of_lookup hfr) rfl).elim (fun q => .inr (.inl q)) fun q => .inr (.inr q)
    obtain ⟨u, r, q⟩ := hl i y av e1 e2 hvis
    obtain ⟨c, h1, h2⟩ := look hfr
    refine ⟨u, r, .inr ⟨.inr ((kO y).trans hfr), c, h1, ?_⟩⟩
    rcases q with ⟨q, _⟩ | ⟨_, c', e', z⟩
    · have q : X.env.scope.names.lookup y = some .local := q
      rcases ok.free _ (PySem.mem_of_lookup hfr) rfl with q' | q' <;> rw [show X.env.scope.names.lookup y = _ from q'] at q <;> cases q
    · rw [h2] at e'; cases e'
      exact z.keeps kp
  · obtain ⟨v, z⟩ := I.cell y c (cm e).1
    exact ⟨v, z.keeps kp⟩
  · have e : p = (a, go) := by
      have hp : p ∈ [(a, go)] ++ [] := hp
      simpa using hp
    subst e
    exact ⟨ha, I.hok.fresh (Nat.le_of_lt hal), Nat.ne_of_gt hal, nst a (Nat.le_of_lt hal), hgo⟩
end

/-- it sleeps with an item out -/
def GxY (Z : Cx) (σw : L2.St) (fp : List Addr) (tn : Nat → Heap → Prop) (W : Nat → Nat → Hp → Prop) (Out : Nat → Nat → V → Hp → Prop) : Protocol := fun _ _ v s kap =>
  ∃ (i m : Nat) (y : V) (H : Hp), RelV y v ∧ Inv Z [] σw H s ∧ tn (i + 1) s.heap ∧ (∀ b ∈ fp, H b = none) ∧ Out i m y H ∧
    ∀ s' H' m', Inv Z [] σw H' s' → tn (i + 1) s'.heap → (∀ b ∈ fp, H' b = none) → m' < m → W (i + 1) m' H' → kap (.send .none) s'
def GxE (Z : Cx) (σw : L2.St) (Fin : Nat → Nat → Hp → Prop) : GenEnd := fun _ _ r s => ((r = .ok (.ret .none) ∨ r = .ok .next) ∧ ∃ i m H, Inv Z [] σw H s ∧ Fin i m H) ∨ ∃ e, r = .error e ∧ False

section
variable {Z : Cx} {B : Around} {elt iter tg : Expr} {scope : Scope} {pos : Pos} {it : Addr} {fp : List Addr} {tn : Nat → Heap → Prop} {J : It} {g : TG} {te : TE} {σ : L2.St} {vs : List Nat} {W : Nat → Nat → Hp → Prop} {Out : Nat → Nat → V → Hp → Prop} {Fin : Nat → Nat → Hp → Prop}
theorem gx_seg (hA : B.deeper Z.env = Z.A) (hc : Z.calm = true) (hex : Z.ex = fp) (hpn : ∀ p ∈ Z.pn, p.1 ∉ fp) (hxe : Z.xe = fun _ _ => False) (hco : Z.env.scope.isCoroutine = false)
    (T : Turn Z.prog Z.w Z.K tg J fp it tn) (pg : PG Z tg g) (pe : PE Z elt te)
    (turn : ∀ i m H, W i m H → (J.stop i H ∧ Fin i m H) ∨ (J.go i H ∧ ∀ x H', J.yld i H x H' → g x (wipe σ vs) H' fun σ2 H2 => wipe σ2 vs = wipe σ vs ∧ te σ2 H2 fun y H4 => Out i m y H4)) :
    ∀ (n m i : Nat) (s₀ s : Shared) (H : Hp), m < n → Inv Z [] (wipe σ vs) H s → tn i s.heap → (∀ b ∈ fp, H b = none) → W i m H →
      Seg (model Z.prog Z.w) B (GxE Z (wipe σ vs) Fin) (GxY Z (wipe σ vs) fp tn W Out) n s₀ (.compLoop (.GeneratorExp elt [⟨tg, iter, [], 0⟩] scope pos) 0 (.ref it) .none Z.env)
        ((model Z.prog Z.w).den (.compLoop (.GeneratorExp elt [⟨tg, iter, [], 0⟩] scope pos) 0 (.ref it) .none Z.env)) [] s := by
  have stat : ∀ {σ' : L2.St} {H' : Hp} {s' : Shared}, Inv Z [] σ' H' s' → (∀ b ∈ fp, H' b = none) → ∀ b ∈ fp, FpOk Z [] H' b := fun {σ' H' s'} I' hn b hb => by
    have hb' : b ∈ Z.ex := by rw [hex]; exact hb
    refine ⟨hn b hb, (I'.ok.exf b hb').1, I'.ok.exfs b hb', .inl hb', fun x c e => (I'.ok.exf b hb').2 x c e, fun p hp z => ?_⟩
    rw [List.append_nil] at hp
    exact hpn p hp (z ▸ hb)
  intro n
  induction n with
  | zero => intro m i s₀ s H hm; exact absurd hm (Nat.not_lt_zero _)
  | succ n ih =>
    intro m i s₀ s H hm I st fr w
    show Seg _ B _ _ _ s₀ _ ((compTurn (.GeneratorExp elt [⟨tg, iter, [], 0⟩] scope pos) 0 (.ref it) .none Z.env).onRaise (leaving Z.env)) [] s
    rw [compTurn_gen, Sem.onRaise_eq_wrap]
    refine seg_bind_wrap (wpAny_standAt ?_)
    refine seg_bind_wrap ?_
    rw [over_gx, hA]
    rcases turn i m H w with ⟨stop, qq⟩ | ⟨go, step⟩
    · refine wpAny_mono (T.done Z rfl rfl rfl hc i [] s _ H (fun _ _ => False) I (stat I fr) st stop) (fun r s1 h1 => ?_) fun _ _ z => z.elim
      obtain ⟨hr, I1⟩ := h1
      subst hr
      exact seg_end (.ok .next) (.inl ⟨.inr rfl, i, m, H, I1, qq⟩)
    · refine wpAny_mono (T.item Z rfl rfl rfl hc i [] s _ H (fun _ _ => False) I (stat I fr) st go) (fun r s1 h1 => ?_) fun _ _ z => z.elim
      obtain ⟨u, hr, h2⟩ := h1
      subst hr
      refine seg_bind_wrap ?_
      rw [over_gx, hA]
      refine wpAny_mono h2 (fun _ s2 h3 => ?_) fun _ _ z => z.elim
      obtain ⟨x, H2, I2, r2, y2, st2, n2⟩ := h3
      have I2' := I2.pinned (stat I2 n2) (T.obj _ _ st2)
      refine seg_bind_wrap ?_
      rw [over_gx, hA]
      have pgr := pg.run _ s2 _ H2 x u _ I2' r2 (step x H2 y2)
      rw [hxe] at pgr
      refine wpAny_mono pgr (fun _ s3 h4 => ?_) fun _ _ z => z.elim
      obtain ⟨σ3, H3, I3, hw3, q3⟩ := h4
      refine seg_bind_wrap (wpAny_tests_nil ?_)
      simp only [if_true]
      have hy : ∀ v, yieldOut Z.env v = yieldValue v := fun v => by simp only [yieldOut, hco, Bool.false_eq_true, if_false]
      simp only [hy]
      rw [Sem.bind_eq_wrap', Sem.bind_eq_wrap', Sem.wrap_wrap, Sem.wrap_wrap]
      refine seg_wrap ?_
      rw [over_gx, hA]
      have per := pe.run _ s3 σ3 H3 _ I3 q3
      rw [hxe] at per
      refine wpAny_mono per (fun v s4 h5 => ?_) fun _ _ z => z.elim
      obtain ⟨y, H4, I4, r4, out⟩ := h5
      have pin' : ∀ b ∈ fp, ∀ o, s2.heap.get? b = some o → s4.heap.get? b = some o ∧ H4 b = none := fun b hb o e =>
        let z := I4.pin (b, o) (List.mem_append_right _ (List.mem_append_right _ (mem_pinsAt hb e)))
        ⟨z.1, z.2.1⟩
      have hl : (wipe σ vs).length = σ3.length := by rw [← hw3, wipe_length]
      refine seg_at (seg_yield rfl rfl rfl ⟨i, m, y, H4, r4, (I4.unpinned (pins := [])).weak hl (fun j v e => ?_), T.keep _ _ _ st2 fun b hb o e => (pin' b hb o e).1, fun b hb => ?_, out, fun s'' H'' m'' I'' st'' fr'' hm'' w'' => ?_⟩)
      · rw [← hw3] at e
        exact (wipe_some e).1
      · obtain ⟨o, e, _⟩ := T.obj _ _ st2 b hb
        exact (pin' b hb o e).2
      · exact seg_again rfl (ih m'' (i + 1) s'' s'' H'' (by omega) I'' st'' fr'' w'')
theorem gx_seg0 {n : Nat} {s₀ s : Shared} (st : tn 0 s.heap) (T : Turn Z.prog Z.w Z.K tg J fp it tn)
    (loop : Seg (model Z.prog Z.w) B (GxE Z (wipe σ vs) Fin) (GxY Z (wipe σ vs) fp tn W Out) n s₀ (.compLoop (.GeneratorExp elt [⟨tg, iter, [], 0⟩] scope pos) 0 (.ref it) .none Z.env)
        ((model Z.prog Z.w).den (.compLoop (.GeneratorExp elt [⟨tg, iter, [], 0⟩] scope pos) 0 (.ref it) .none Z.env)) [] s) :
    Seg (model Z.prog Z.w) B (GxE Z (wipe σ vs) Fin) (GxY Z (wipe σ vs) fp tn W Out) n s₀ (.compStart (.GeneratorExp elt [⟨tg, iter, [], 0⟩] scope pos) 0 (.ref it) .none Z.env)
        ((model Z.prog Z.w).den (.compStart (.GeneratorExp elt [⟨tg, iter, [], 0⟩] scope pos) 0 (.ref it) .none Z.env)) [] s := by
  show Seg _ B _ _ _ s₀ _ ((compStart (.GeneratorExp elt [⟨tg, iter, [], 0⟩] scope pos) 0 (.ref it) .none Z.env).onRaise (leaving Z.env)) [] s
  unfold compStart
  rw [Sem.onRaise_eq_wrap]
  show Seg _ B _ _ _ s₀ _ ((ask >>= _).wrap _ _ _ _) [] s
  refine seg_bind_wrap (wpAny_askSetting ?_)
  split
  · exact seg_again rfl loop
  · first
      | exact seg_bind_wrap (wpAny_rule (seg_bind_wrap (wpAny_standAt (seg_bind_wrap (T.self _ 0 s _ _ st (seg_again rfl loop))))))
      | (refine seg_bind_wrap (wpAny_rule ?_); show Seg _ B _ _ _ s₀ _ ((standAt iter.pos >>= _).wrap _ _ _ _) [] s; exact seg_bind_wrap (wpAny_standAt (seg_bind_wrap (T.self _ 0 s _ _ st (seg_again rfl loop)))))
end

section
variable {Z : Cx} {σw : L2.St} {fp : List Addr} {tn : Nat → Heap → Prop} {W : Nat → Nat → Hp → Prop} {Out : Nat → Nat → V → Hp → Prop} {Fin : Nat → Nat → Hp → Prop} {A : Around} {R : Result → Shared → Prop} {a : Addr} {g : Nat} {go : Obj}
theorem genSz {s : Shared} {g : Nat} {gs : GenState} (h : s.gens[g]? = some gs) : g < s.gens.size := (Array.getElem?_eq_some_iff.mp h).1
/-- all(g): the items are bools -/
theorem all_turns (hh : A.handled = none) (hd : A.depth < recursionLimit) (hpn : (a, go) ∈ Z.pn) (hgo : ∀ h : Heap, h.get? a = some go → h.IsGen a g) (Qf : Hp → Prop)
    (hout : ∀ i m y H, Out i m y H → ∃ b, y = .bl b ∧ (b = true → ∃ m', m' < m ∧ W (i + 1) m' H) ∧ (b = false → Qf H))
    (hRt : ∀ i m H s, Fin i m H → Inv Z [] σw H s → R (.ok (.ret (.bool true))) s) (hRf : ∀ H s, Qf H → Inv Z [] σw H s → R (.ok (.ret (.bool false))) s) :
    ∀ (n : Nat) (s : Shared), s.heap.IsGen a g → s.heap.NoLimit → (∃ gs, s.gens[g]? = some gs ∧ gs.Goes (model Z.prog Z.w) A.in1.in1 (GxE Z σw Fin) (GxY Z σw fp tn W Out) n (.send .none) (s.setGen g .running)) →
      codeAny (model Z.prog Z.w) A (.builtin "all.loop" ⟨[.ref a], []⟩) R s := by
  intro n
  induction n with
  | zero =>
    intro s hg hl ⟨gs, hgs, hgo'⟩
    have hgl := genSz hgs
    refine codeAny_builtin F.entry_all_loop ?_
    rw [Around.under_plainId F.plain_all_loop _]
    show wpAny _ A.in1 (pyNext (.ref a) >>= _) _ _ s
    refine wpAny_bind (next_genG (A := A.in1) hh hl hd hg hgs hgo' (fun v s1 gs' hb hv => ?_) (fun s1 hp h' hk => ?_) fun e s1 he => he.elim)
    · obtain ⟨i, m, y, H, rv, I, st, fr, out, hk⟩ := hv
      obtain ⟨b, rfl, hbt, hbf⟩ := hout i m y H out
      obtain rfl : v = Value.bool b := rv
      refine wpAny_bind (wpAny_holding (wpAny_truthy_bool (wpAny_bind (wpAny_letGo ?_))))
      cases b with
      | true =>
        obtain ⟨m', hm, w'⟩ := hbt rfl
        exact (hk _ H m' I st fr hm w').elim
      | false =>
        simp only [Bool.false_eq_true, if_false]
        exact wpAny_bind (wpAny_rule (wpAny_pure (hRf H _ (hbf rfl) (inv_gens I rfl (fun _ _ e => e) (allBare_setGen I.bare hb)))))
    · obtain ⟨i, m, H, I, q⟩ := hp
      exact wpAny_bind (wpAny_rule (wpAny_pure (hRt i m H _ q (inv_gens I rfl hk (allBare_setGen I.bare rfl)))))
  | succ n ih =>
    intro s hg hl ⟨gs, hgs, hgo'⟩
    have hgl := genSz hgs
    refine codeAny_builtin F.entry_all_loop ?_
    rw [Around.under_plainId F.plain_all_loop _]
    show wpAny _ A.in1 (pyNext (.ref a) >>= _) _ _ s
    refine wpAny_bind (wpAny_gsz (n := g + 1) hgl (next_genG (A := A.in1) hh hl hd hg hgs hgo' (fun v s1 gs' hb hv => ?_) (fun s1 hp h' hk => ?_) fun e s1 he => he.elim))
    · intro hsz
      obtain ⟨i, m, y, H, rv, I, st, fr, out, hk⟩ := hv
      obtain ⟨b, rfl, hbt, hbf⟩ := hout i m y H out
      obtain rfl : v = Value.bool b := rv
      refine wpAny_bind (wpAny_holding (wpAny_truthy_bool (wpAny_bind (wpAny_letGo ?_))))
      have I2 : Inv Z [] σw H (s1.setGen g gs') := inv_gens I rfl (fun _ _ e => e) (allBare_setGen I.bare hb)
      cases b with
      | true =>
        obtain ⟨m', hm, w'⟩ := hbt rfl
        have hsz1 : g < s1.gens.size := by
          rw [setGen_size] at hsz; omega
        have I3 : Inv Z [] σw H ((s1.setGen g gs').setGen g .running) := inv_gens I2 rfl (fun _ _ e => e) (allBare_setGen I2.bare rfl)
        simp only [if_true]
        refine wpAny_pure ⟨plainId_quiet F.plain_all_loop _, ih (s1.setGen g gs') (hgo _ (I2.pin (a, go) (List.mem_append_left _ hpn)).1) I2.nolimit ⟨gs', setGen_at hsz1, ?_⟩⟩
        exact hk _ H m' I3 st fr hm w'
      | false =>
        simp only [Bool.false_eq_true, if_false]
        exact wpAny_bind (wpAny_rule (wpAny_pure (hRf H _ (hbf rfl) I2)))
    · intro _
      obtain ⟨i, m, H, I, q⟩ := hp
      exact wpAny_bind (wpAny_rule (wpAny_pure (hRt i m H _ q (inv_gens I rfl hk (allBare_setGen I.bare rfl)))))
/-- any(g): the items are bools -/
theorem any_turns (hh : A.handled = none) (hd : A.depth < recursionLimit) (hpn : (a, go) ∈ Z.pn) (hgo : ∀ h : Heap, h.get? a = some go → h.IsGen a g) (Qt : Hp → Prop)
    (hout : ∀ i m y H, Out i m y H → ∃ b, y = .bl b ∧ (b = false → ∃ m', m' < m ∧ W (i + 1) m' H) ∧ (b = true → Qt H))
    (hRf : ∀ i m H s, Fin i m H → Inv Z [] σw H s → R (.ok (.ret (.bool false))) s) (hRt : ∀ H s, Qt H → Inv Z [] σw H s → R (.ok (.ret (.bool true))) s) :
    ∀ (n : Nat) (s : Shared), s.heap.IsGen a g → s.heap.NoLimit → (∃ gs, s.gens[g]? = some gs ∧ gs.Goes (model Z.prog Z.w) A.in1.in1 (GxE Z σw Fin) (GxY Z σw fp tn W Out) n (.send .none) (s.setGen g .running)) →
      codeAny (model Z.prog Z.w) A (.builtin "any.loop" ⟨[.ref a], []⟩) R s := by
  intro n
  induction n with
  | zero =>
    intro s hg hl ⟨gs, hgs, hgo'⟩
    have hgl := genSz hgs
    refine codeAny_builtin F.entry_any_loop ?_
    rw [Around.under_plainId F.plain_any_loop _]
    show wpAny _ A.in1 (pyNext (.ref a) >>= _) _ _ s
    refine wpAny_bind (next_genG (A := A.in1) hh hl hd hg hgs hgo' (fun v s1 gs' hb hv => ?_) (fun s1 hp h' hk => ?_) fun e s1 he => he.elim)
    · obtain ⟨i, m, y, H, rv, I, st, fr, out, hk⟩ := hv
      obtain ⟨b, rfl, hbt, hbf⟩ := hout i m y H out
      obtain rfl : v = Value.bool b := rv
      refine wpAny_bind (wpAny_holding (wpAny_truthy_bool (wpAny_bind (wpAny_letGo ?_))))
      cases b with
      | false =>
        obtain ⟨m', hm, w'⟩ := hbt rfl
        exact (hk _ H m' I st fr hm w').elim
      | true =>
        simp only [if_true]
        exact wpAny_bind (wpAny_rule (wpAny_pure (hRt H _ (hbf rfl) (inv_gens I rfl (fun _ _ e => e) (allBare_setGen I.bare hb)))))
    · obtain ⟨i, m, H, I, q⟩ := hp
      exact wpAny_bind (wpAny_rule (wpAny_pure (hRf i m H _ q (inv_gens I rfl hk (allBare_setGen I.bare rfl)))))
  | succ n ih =>
    intro s hg hl ⟨gs, hgs, hgo'⟩
    have hgl := genSz hgs
    refine codeAny_builtin F.entry_any_loop ?_
    rw [Around.under_plainId F.plain_any_loop _]
    show wpAny _ A.in1 (pyNext (.ref a) >>= _) _ _ s
    refine wpAny_bind (wpAny_gsz (n := g + 1) hgl (next_genG (A := A.in1) hh hl hd hg hgs hgo' (fun v s1 gs' hb hv => ?_) (fun s1 hp h' hk => ?_) fun e s1 he => he.elim))
    · intro hsz
      obtain ⟨i, m, y, H, rv, I, st, fr, out, hk⟩ := hv
      obtain ⟨b, rfl, hbt, hbf⟩ := hout i m y H out
      obtain rfl : v = Value.bool b := rv
      refine wpAny_bind (wpAny_holding (wpAny_truthy_bool (wpAny_bind (wpAny_letGo ?_))))
      have I2 : Inv Z [] σw H (s1.setGen g gs') := inv_gens I rfl (fun _ _ e => e) (allBare_setGen I.bare hb)
      cases b with
      | false =>
        obtain ⟨m', hm, w'⟩ := hbt rfl
        have hsz1 : g < s1.gens.size := by
          rw [setGen_size] at hsz; omega
        have I3 : Inv Z [] σw H ((s1.setGen g gs').setGen g .running) := inv_gens I2 rfl (fun _ _ e => e) (allBare_setGen I2.bare rfl)
        simp only [Bool.false_eq_true, if_false]
        refine wpAny_pure ⟨plainId_quiet F.plain_any_loop _, ih (s1.setGen g gs') (hgo _ (I2.pin (a, go) (List.mem_append_left _ hpn)).1) I2.nolimit ⟨gs', setGen_at hsz1, ?_⟩⟩
        exact hk _ H m' I3 st fr hm w'
      | true =>
        simp only [if_true]
        exact wpAny_bind (wpAny_rule (wpAny_pure (hRt H _ (hbf rfl) I2)))
    · intro _
      obtain ⟨i, m, H, I, q⟩ := hp
      exact wpAny_bind (wpAny_rule (wpAny_pure (hRf i m H _ q (inv_gens I rfl hk (allBare_setGen I.bare rfl)))))
end

/-- what a generator expression's scope is to be -/
structure GxS (scope : Scope) : Prop where
  co : scope.isCoroutine = false
  cell : ∀ y ∈ scope.names, y.2 ≠ .cell
  dot : scope.names.lookup (".0" : Str) = some NameKind.local

section
variable {X : Cx} {pins : List (Addr × Obj)} {σ : L2.St} {H : Hp} {s : Shared}
/-- the generator stands at a, not begun -/
structure GxM (X : Cx) (pins : List (Addr × Obj)) (σ : L2.St) (tg elt iter : Expr) (scope : Scope) (own : List (Str × Nat)) (pos : Pos) (B : Around) (P : Addr) (R : It → Hp → Prop) (a : Addr) (s5 : Shared) : Prop where
  ex : ∃ (it : Addr) (fp : List Addr) (tn : Nat → Heap → Prop) (J : It) (H1 H2 : Hp) (s4 : Shared) (cd : Value) (g : Nat) (go : Obj),
    R J H1 ∧ Tabbed P H1 H2 ∧ Inv X pins σ H2 s4 ∧ (∀ b ∈ fp, FpOk X pins H2 b) ∧ Turn X.prog X.w X.K tg J fp it tn ∧ tn 0 s5.heap ∧ a ∉ fp ∧
    Inv (gxc X (B.deeper (gxe X scope s4.heap.objs.size cd)) s4 H2 (gxe X scope s4.heap.objs.size cd) fp [(a, go)]) [] (wipe σ (own.map (·.2))) H2 s5 ∧
    s5.gens[g]? = some (.fresh (.compStart (.GeneratorExp elt [⟨tg, iter, [], 0⟩] scope pos) 0 (.ref it) .none (gxe X scope s4.heap.objs.size cd))) ∧ ∀ h : Heap, h.get? a = some go → h.IsGen a g
theorem gx_make {B : Around} {c P : Addr} {elt tg iter : Expr} {scope : Scope} {own : List (Str × Nat)} {pos : Pos} {wi : TI} {k : Nat} {Q' : Value → Shared → Prop} {R : It → Hp → Prop}
    (hr : Room k X.A) (hB : B.handled = none) (hBf : B.frames = X.A.frames) (TB : TabB X.base X.mg c P) (hcode : X.env.code = .ref c) (hi : PI X tg iter wi) (hN : X.N.Nodup) (ok : BlkOk X.N X.env.scope scope own) (S : GxS scope)
    (hs : ∀ v, genFold iter X.env v = pure v) (I : Inv X pins σ H s) (h : wi σ H fun J H1 => TabG H1 P ∧ R J H1)
    (hQ : ∀ a s5, GxM X pins σ tg elt iter scope own pos B P R a s5 → Q' (.ref a) s5) :
    wpAny (model X.prog X.w) X.A (eval (.GeneratorExp elt [⟨tg, iter, [], 0⟩] scope pos) X.env) Q' X.xe s := by
  have hfree : ∀ y ∈ scope.names, y.2 = .free → ∃ c, X.env.cells.lookup y.1 = some c := fun y hy e => (ok.free y hy e).elim (fun q => I.ok.has _ (.inl q)) fun q => I.ok.has _ (.inr q)
  refine wpAny_GeneratorExp_make S.co (L2.closure_ok hfree) S.cell S.dot ok.kind hr.depth ?_ hs
  refine thn (hi.run pins s σ H _ I h) fun xv s1 h1 => thn h1 fun itv s2 h2 => ?_
  obtain ⟨it, fp, tn, J, H1, rfl, I2, T, st2, f2, ⟨ps, hP, ht⟩, q1⟩ := h2
  have hPs : s2.heap.get? P = some { cls := .none, data := .fields ps } := I2.hok P _ hP
  have cd : PySem.W.CodeHd s2.heap c P := TB.code.keeps fun b u e => I2.bk b u e
  have nfp : ∀ b ∈ fp, b ≠ P := fun b hb z => by
    have := (f2 b hb).1
    rw [z, hP] at this; cases this
  have fsz : ∀ b ∈ fp, b < s2.heap.objs.size := fun b hb => by
    obtain ⟨o, e, _⟩ := T.obj _ _ st2 b hb
    exact Heap.lt_size e
  have cont : ∀ (code : Value) (h3 : Heap) (tk : Nat) (more : Array Value), Heap.ExtBut P s2.heap h3 → s2.heap.objs.size ≤ h3.objs.size → h3.get? P = some { cls := .none, data := .fields (ps ++ more) } → TriplesOk (ps ++ more).toList →
      wpAny (model X.prog X.w) X.A (builtinsFor X.env.globals X.env.builtins) (fun bi s4 =>
        ∀ h', h'.Ns s4.heap.objs.size (fun y => if y = (".0" : Str) then some (.ref it) else none) → Heap.SameBut s4.heap.objs.size (s4.heap.push { cls := .type "frame", data := .dict #[] }) h' →
          Q' (.ref h'.objs.size) { s4 with
            gens := s4.gens.push (.fresh (.compStart (.GeneratorExp elt [⟨tg, iter, [], 0⟩] scope pos) 0 (.ref it) .none (genEnv scope (L2.cloFrom X.env.cells scope.names []) s4.heap.objs.size code bi X.env))),
            toks := s4.toks + 1 + 1 + 1,
            heap := h'.push { cls := .type "generator", data := .fields #[.int s4.gens.size 0, .str "<genexpr>" (s4.toks + 1), .str (X.env.qual ++ "<genexpr>") (s4.toks + 1 + 1)] } }) X.xe { s2 with heap := h3, toks := tk } := by
    intro code h3 tk more hx hsz hP3 ht3
    obtain ⟨bm, ob, e1, e2, e3, e4, e5, e6, e7, e8⟩ := TB.bm
    have keep3 : ∀ b u, b ≠ P → s2.heap.get? b = some u → h3.get? b = some u := fun b u hb e => hx b u hb e
    refine wpAny_builtinsFor (m := X.mg) (by rw [I2.ok.glob]; exact (I2.mod.glob.keeps I2.bk).extBut hx TB.gP) e1 e2 (keep3 _ _ e4 (I2.bk _ _ e5)) e6 e7 e8 ?_
    intro h' hn' hs'
    have J4 := inv_tab (more := more) (h' := h3) (g' := s2.gens) (d' := s2.drawn) (t' := tk) I2 hP keep3 hP3 I2.bare
    have hT2 : Tabbed P H1 (upd H1 P (.tbl (ps ++ more))) := ⟨⟨ps ++ more, upd_same, ht3⟩, fun b hb => upd_ne hb⟩
    have f4 : ∀ b ∈ fp, FpOk X pins (upd H1 P (.tbl (ps ++ more))) b := fun b hb => ⟨by rw [upd_ne (nfp b hb)]; exact (f2 b hb).1, (f2 b hb).2⟩
    have f5 : ∀ b ∈ fp, b < h3.objs.size := fun b hb => Nat.lt_of_lt_of_le (fsz b hb) hsz
    have hsz' : h'.objs.size = h3.objs.size + 1 := by
      have z := hs'.1
      rw [Heap.size_push] at z
      exact z
    have kp' : ∀ b o, h3.get? b = some o → h'.get? b = some o := fun b o e => hs'.extBut b o (Nat.ne_of_lt (Heap.lt_size e)) (Heap.get?_push_of_some _ e)
    refine hQ _ _ ⟨it, fp, tn, J, H1, _, { s2 with heap := h3, toks := tk }, code, s2.gens.size, { cls := .type "generator", data := .fields #[.int s2.gens.size 0, .str "<genexpr>" (tk + 1), .str (X.env.qual ++ "<genexpr>") (tk + 1 + 1)] }, q1, hT2, J4, f4, T, T.keep _ _ _ st2 fun b hb o e => Heap.get?_push_of_some _ (kp' b o (keep3 b o (nfp b hb) e)), fun hm => ?_, ?_, Array.getElem?_push_size .., fun h e => ⟨_, _, _, e, rfl, rfl, rfl⟩⟩
    · have z1 : h'.objs.size < h3.objs.size := f5 _ hm
      omega
    · refine gx_start (it := .ref it) J4 ok S.cell hN (fun b hb => ⟨f4 b hb, f5 b hb⟩) hB ?_ (fun b o e => Heap.get?_push_of_some _ (kp' b o e)) (hn'.push _) (Heap.get?_push_size _ rfl) (by show h3.objs.size < h'.objs.size; omega) (fun v z => by cases z) (AllBare.push I2.bare rfl)
      show (B.frames.map (_ :: ·)) = _
      rw [hBf, I2.ok.frames]; rfl
  refine ⟨I2.nolimit, ?_⟩
  cases hf : codeAmong pos ps.toList with
  | none =>
    refine wpAny_genexprCodeX hcode (cd.code hPs ht) (cd.tab hPs) hf fun c' h' tk hx hge hlt hco' _ htab' _ => ?_
    obtain ⟨o1, vs, f1, tf, fl, tg', inF, tx, tt, op, _, _, _, _, _, _, _, _, _, htr, _⟩ := hco'
    exact cont _ h' tk _ hx (Nat.le_trans hge (Nat.le_of_lt hlt)) htab'.2 htr
  | some cv =>
    refine wpAny_genexprCode_hit hcode (cd.code hPs ht) hf ?_
    exact cont cv s2.heap s2.toks #[] (Heap.ExtBut.refl _ _) (Nat.le_refl _) (by simpa using hPs) (by simpa using ht)
end

section
variable {X : Cx}
/-- all(elt for tg in iter), any(..), the thing walked is there: W by the turn and a measure -/
def GxB (b0 : Bool) (P : Addr) (J : It) (g : TG) (te : TE) (vs : List Nat) (σ : L2.St) (H1 : Hp) (Q : VK) : Prop := TabG H1 P ∧ ∀ H2, Tabbed P H1 H2 → ∃ W : Nat → Nat → Hp → Prop, (∃ m, W 0 m H2) ∧ ∀ i m H, W i m H →
  (J.stop i H ∧ Q (.bl b0) H) ∨ (J.go i H ∧ ∀ x H', J.yld i H x H' → g x (wipe σ vs) H' fun σ2 H2 => wipe σ2 vs = wipe σ vs ∧ te σ2 H2 fun y H4 => ∃ b, y = .bl b ∧ (b = b0 → ∃ m', m' < m ∧ W (i + 1) m' H4) ∧ (b = !b0 → Q (.bl (!b0)) H4))
def tGx (b0 : Bool) (P : Addr) (wi : TI) (g : TG) (te : TE) (vs : List Nat) : TE := fun σ H Q => wi σ H fun J H1 => GxB b0 P J g te vs σ H1 Q
theorem pe_allX {c P : Addr} {elt tg iter : Expr} {scope : Scope} {own : List (Str × Nat)} {p pos gpos : Pos} {wi : TI} {g : TG} {te : TE} {k : Nat}
    (hr : Room (k + 1) X.A) (hc : X.calm = true) (hN : X.N.Nodup) (hgl : Gl X "all") (hm : X.mg "all" = none) (TB : TabB X.base X.mg c P) (hcode : X.env.code = .ref c) (hi : PI X tg iter wi) (ok : BlkOk X.N X.env.scope scope own) (S : GxS scope)
    (hg : ∀ (A' : Around) (s : Shared) (H : Hp) (C : Addr) (cd : Value) (fp : List Addr) (pn : List (Addr × Obj)), PG (gxc X A' s H (gxe X scope C cd) fp pn) tg g)
    (he : ∀ (A' : Around) (hr' : Room k A') (s : Shared) (H : Hp) (C : Addr) (cd : Value) (fp : List Addr) (pn : List (Addr × Obj)), PE (gxc X A' s H (gxe X scope C cd) fp pn) elt te)
    (hs : ∀ v, genFold iter X.env v = pure v := by intro _; rfl) (hb : bootBuiltins "all" = some (.builtin "all") := by rfl)
    (hst : starEach [.GeneratorExp elt [⟨tg, iter, [], 0⟩] scope gpos] X.env = (false, eval (.GeneratorExp elt [⟨tg, iter, [], 0⟩] scope gpos) X.env) :: starEach [] X.env := by rfl) :
    PE X (.Call (.Name "all" p) [.GeneratorExp elt [⟨tg, iter, [], 0⟩] scope gpos] [] pos) (tGx true P wi g te (own.map (·.2))) := by
  refine ⟨fun pins s σ H Q I h => ?_⟩
  refine wpAny_Call_Name_kw (ld_blt I hgl hm hb ?_)
  have hB : X.A.in1.in1.handled = none := hr.hd
  have hB1 : X.A.in1.handled = none := hr.hd
  have hd1 : X.A.depth < recursionLimit := hr.depth
  have hre : ∀ e, Room k (X.A.in1.in1.deeper e) := fun e => ⟨hr.hd, by have := hr.dp; show X.A.depth + 1 + 3 * k + 5 < _; omega, by have := hr.un; show X.A.units + 1 + 1 + 3 + 16 * k + 200 < _; omega⟩
  refine PyProof.Rows.callWith_builtin1 ?_ hst (by rfl)
  rw [hst]
  show wpAny _ _ (spliced ((false, eval (.GeneratorExp elt [⟨tg, iter, [], 0⟩] scope gpos) X.env) :: backTo pos (starEach [] X.env))) _ _ s
  refine Calls.spliced_cons (gx_make (own := own) (B := X.A.in1.in1) hr hB rfl TB hcode hi hN ok S hs I h fun a s5 G => ?_)
  refine Calls.spliced_nil ?_
  obtain ⟨it, fp, tn, J, H1, H2, s4, cd, g', go, q1, hT, I4, f4, T, st5, haf, I5, hgs, hgo⟩ := G.ex
  obtain ⟨W, ⟨m0, w0⟩, turn⟩ := q1 H2 hT
  have back : ∀ {H' : Hp} {s' : Shared} {σ' : L2.St}, Inv (gxc X (X.A.in1.in1.deeper (gxe X scope s4.heap.objs.size cd)) s4 H2 (gxe X scope s4.heap.objs.size cd) fp [(a, go)]) [] σ' H' s' → Inv X pins σ H' s' := fun {H' s' σ'} I' =>
    I4.call' (ch := fp) I'.os I'.base I'.hok I'.bare fun b hb => ⟨(f4 b hb).2.2.2.1, (f4 b hb).2.1, (f4 b hb).2.2.2.2.1, (f4 b hb).2.2.2.2.2⟩
  have hgen : s5.heap.IsGen a g' := hgo _ (I5.pin (a, go) (List.mem_append_left _ (List.mem_singleton.mpr rfl))).1
  refine call_function_tree F.kind_all F.plain_all F.entry_all (F.args_all1 _) ?_
  unfold Builtin.«all»
  refine wpAny_bind (m := oneArg "all" _) (wpAny_pure ?_)
  refine wpAny_bind (wpAny_pyIter_gen hgen ?_)
  have I6 := inv_gens (s' := s5.setGen g' .running) I5 rfl (fun _ _ e => e) (allBare_setGen I5.bare rfl)
  refine wpAny_pure ⟨plainId_quiet F.plain_all_loop _, all_turns (A := X.A) (g := g') (go := go) (Z := gxc X (X.A.in1.in1.deeper (gxe X scope s4.heap.objs.size cd)) s4 H2 (gxe X scope s4.heap.objs.size cd) fp [(a, go)]) (σw := wipe σ (own.map (·.2))) (fp := fp) (tn := tn) (W := W)
    (Out := fun i m y H4 => ∃ b, y = .bl b ∧ (b = true → ∃ m', m' < m ∧ W (i + 1) m' H4) ∧ (b = false → Q (.bl false) H4)) (Fin := fun i m H' => Q (.bl true) H') hr.hd hd1 (List.mem_singleton.mpr rfl) hgo (fun H' => Q (.bl false) H')
    (fun i m y H4 o => o) (fun i m H' s' q I' => ⟨.bl true, H', back I', rfl, q⟩) (fun H' s' q I' => ⟨.bl false, H', back I', rfl, q⟩) (m0 + 1) s5 hgen I5.nolimit ⟨_, hgs, rfl, ?_⟩⟩
  refine gx_seg0 (Z := gxc X (X.A.in1.in1.deeper (gxe X scope s4.heap.objs.size cd)) s4 H2 (gxe X scope s4.heap.objs.size cd) fp [(a, go)]) (J := J) st5 T ?_
  refine gx_seg (Z := gxc X (X.A.in1.in1.deeper (gxe X scope s4.heap.objs.size cd)) s4 H2 (gxe X scope s4.heap.objs.size cd) fp [(a, go)]) rfl rfl rfl (fun p hp => ?_) rfl S.co T (hg _ _ _ _ _ _ _) (he _ (hre _) _ _ _ _ _ _) turn (m0 + 1) m0 0 _ _ H2 (Nat.lt_succ_self _) I6 st5 (fun b hb => (f4 b hb).1) w0
  rw [List.mem_singleton.mp hp]
  exact haf
theorem pe_anyX {c P : Addr} {elt tg iter : Expr} {scope : Scope} {own : List (Str × Nat)} {p pos gpos : Pos} {wi : TI} {g : TG} {te : TE} {k : Nat}
    (hr : Room (k + 1) X.A) (hc : X.calm = true) (hN : X.N.Nodup) (hgl : Gl X "any") (hm : X.mg "any" = none) (TB : TabB X.base X.mg c P) (hcode : X.env.code = .ref c) (hi : PI X tg iter wi) (ok : BlkOk X.N X.env.scope scope own) (S : GxS scope)
    (hg : ∀ (A' : Around) (s : Shared) (H : Hp) (C : Addr) (cd : Value) (fp : List Addr) (pn : List (Addr × Obj)), PG (gxc X A' s H (gxe X scope C cd) fp pn) tg g)
    (he : ∀ (A' : Around) (hr' : Room k A') (s : Shared) (H : Hp) (C : Addr) (cd : Value) (fp : List Addr) (pn : List (Addr × Obj)), PE (gxc X A' s H (gxe X scope C cd) fp pn) elt te)
    (hs : ∀ v, genFold iter X.env v = pure v := by intro _; rfl) (hb : bootBuiltins "any" = some (.builtin "any") := by rfl)
    (hst : starEach [.GeneratorExp elt [⟨tg, iter, [], 0⟩] scope gpos] X.env = (false, eval (.GeneratorExp elt [⟨tg, iter, [], 0⟩] scope gpos) X.env) :: starEach [] X.env := by rfl) :
    PE X (.Call (.Name "any" p) [.GeneratorExp elt [⟨tg, iter, [], 0⟩] scope gpos] [] pos) (tGx false P wi g te (own.map (·.2))) := by
  refine ⟨fun pins s σ H Q I h => ?_⟩
  refine wpAny_Call_Name_kw (ld_blt I hgl hm hb ?_)
  have hB : X.A.in1.in1.handled = none := hr.hd
  have hB1 : X.A.in1.handled = none := hr.hd
  have hd1 : X.A.depth < recursionLimit := hr.depth
  have hre : ∀ e, Room k (X.A.in1.in1.deeper e) := fun e => ⟨hr.hd, by have := hr.dp; show X.A.depth + 1 + 3 * k + 5 < _; omega, by have := hr.un; show X.A.units + 1 + 1 + 3 + 16 * k + 200 < _; omega⟩
  refine PyProof.Rows.callWith_builtin1 ?_ hst (by rfl)
  rw [hst]
  show wpAny _ _ (spliced ((false, eval (.GeneratorExp elt [⟨tg, iter, [], 0⟩] scope gpos) X.env) :: backTo pos (starEach [] X.env))) _ _ s
  refine Calls.spliced_cons (gx_make (own := own) (B := X.A.in1.in1) hr hB rfl TB hcode hi hN ok S hs I h fun a s5 G => ?_)
  refine Calls.spliced_nil ?_
  obtain ⟨it, fp, tn, J, H1, H2, s4, cd, g', go, q1, hT, I4, f4, T, st5, haf, I5, hgs, hgo⟩ := G.ex
  obtain ⟨W, ⟨m0, w0⟩, turn⟩ := q1 H2 hT
  have back : ∀ {H' : Hp} {s' : Shared} {σ' : L2.St}, Inv (gxc X (X.A.in1.in1.deeper (gxe X scope s4.heap.objs.size cd)) s4 H2 (gxe X scope s4.heap.objs.size cd) fp [(a, go)]) [] σ' H' s' → Inv X pins σ H' s' := fun {H' s' σ'} I' =>
    I4.call' (ch := fp) I'.os I'.base I'.hok I'.bare fun b hb => ⟨(f4 b hb).2.2.2.1, (f4 b hb).2.1, (f4 b hb).2.2.2.2.1, (f4 b hb).2.2.2.2.2⟩
  have hgen : s5.heap.IsGen a g' := hgo _ (I5.pin (a, go) (List.mem_append_left _ (List.mem_singleton.mpr rfl))).1
  refine call_function_tree F.kind_any F.plain_any F.entry_any (F.args_any1 _) ?_
  unfold Builtin.«any»
  refine wpAny_bind (m := oneArg "any" _) (wpAny_pure ?_)
  refine wpAny_bind (wpAny_pyIter_gen hgen ?_)
  have I6 := inv_gens (s' := s5.setGen g' .running) I5 rfl (fun _ _ e => e) (allBare_setGen I5.bare rfl)
  refine wpAny_pure ⟨plainId_quiet F.plain_any_loop _, any_turns (A := X.A) (g := g') (go := go) (Z := gxc X (X.A.in1.in1.deeper (gxe X scope s4.heap.objs.size cd)) s4 H2 (gxe X scope s4.heap.objs.size cd) fp [(a, go)]) (σw := wipe σ (own.map (·.2))) (fp := fp) (tn := tn) (W := W)
    (Out := fun i m y H4 => ∃ b, y = .bl b ∧ (b = false → ∃ m', m' < m ∧ W (i + 1) m' H4) ∧ (b = true → Q (.bl true) H4)) (Fin := fun i m H' => Q (.bl false) H') hr.hd hd1 (List.mem_singleton.mpr rfl) hgo (fun H' => Q (.bl true) H')
    (fun i m y H4 o => o) (fun i m H' s' q I' => ⟨.bl false, H', back I', rfl, q⟩) (fun H' s' q I' => ⟨.bl true, H', back I', rfl, q⟩) (m0 + 1) s5 hgen I5.nolimit ⟨_, hgs, rfl, ?_⟩⟩
  refine gx_seg0 (Z := gxc X (X.A.in1.in1.deeper (gxe X scope s4.heap.objs.size cd)) s4 H2 (gxe X scope s4.heap.objs.size cd) fp [(a, go)]) (J := J) st5 T ?_
  refine gx_seg (Z := gxc X (X.A.in1.in1.deeper (gxe X scope s4.heap.objs.size cd)) s4 H2 (gxe X scope s4.heap.objs.size cd) fp [(a, go)]) rfl rfl rfl (fun p hp => ?_) rfl S.co T (hg _ _ _ _ _ _ _) (he _ (hre _) _ _ _ _ _ _) turn (m0 + 1) m0 0 _ _ H2 (Nat.lt_succ_self _) I6 st5 (fun b hb => (f4 b hb).1) w0
  rw [List.mem_singleton.mp hp]
  exact haf
end

/-! ### a def that holds a generator expression -/
section
variable {P : Program} {w : World} {K : PySem.W.Frag} {mg : Str → Option Value} {base : Heap}
theorem okT {x qual : Str} {st : Stmt} {f c : Addr} {fd : FuncData} {N ps : List Str} {k : Nat} {sp : Sp} (F : Fun K x qual st f fd) (S : FnScope N ps (defScope st)) (hc : fd.code = .ref c) (len : ∀ vs H Q E, sp vs H Q E → vs.length = ps.length)
    (hbody : ∀ (A : Around) (outer : List Env) (s : Shared) (H : Hp) (vs : List V) (Q : VK) (E : XK), Room k (A.deeper (envOfC qual (defScope st) s.heap.objs.size f (.ref c))) → sp vs H Q E →
      ∃ t, PSs (cxOf CX0 P w K mg base N qual (defScope st) f (.ref c) A outer s H E).nox (defBody st) t ∧ t { nx := fun _ H' => Q .non H', rt := Q } (start N vs) H) : FnOk P w K mg base CX0 (k + 1) f fd ps sp := by
  obtain ⟨oc, od, kV, doc, pm, an, cdv, ct, osl, rfl, lk, hcd⟩ := F.ex
  have e : cdv = .ref c := hc
  subst e
  refine fn_of lk hcd S len fun A outer s H vs Q E hr hsp => ?_
  obtain ⟨t, h, q⟩ := hbody A outer s H vs Q E hr hsp
  exact ⟨t, h.nox, q⟩
theorem okXT {x qual : Str} {st : Stmt} {f c : Addr} {fd : FuncData} {N ps : List Str} {k : Nat} {sp : Sp} (F : Fun K x qual st f fd) (S : FnScope N ps (defScope st)) (hc : fd.code = .ref c) (len : ∀ vs H Q E, sp vs H Q E → vs.length = ps.length)
    (hbody : ∀ (A : Around) (outer : List Env) (s : Shared) (H : Hp) (vs : List V) (Q : VK) (E : XK), Room k (A.deeper (envOfC qual (defScope st) s.heap.objs.size f (.ref c))) → sp vs H Q E →
      ∃ t, PSs (cxOf (L2.CX P w) P w K mg base N qual (defScope st) f (.ref c) A outer s H E) (defBody st) t ∧ t { nx := fun _ H' => Q .non H', rt := Q } (start N vs) H) : FnOk P w K mg base (L2.CX P w) (k + 1) f fd ps sp := by
  obtain ⟨oc, od, kV, doc, pm, an, cdv, ct, osl, rfl, lk, hcd⟩ := F.ex
  have e : cdv = .ref c := hc
  subst e
  exact fn_of lk hcd S len fun A outer s H vs Q E hr hsp => hbody A outer s H vs Q E hr hsp
end
theorem tab_cd {K : PySem.W.Frag} {x : Str} {f c P : Addr} {oc : Value} {od : Option Addr} {fd : FuncData} {sl : Array (Option Value)} (a : PySem.W.nsIn K mainGlobals x = some (some (.ref f))) (l : K.lookup f = some ⟨oc, od, .func fd, sl⟩) (t : PySem.W.tabIn K x = some (c, P)) : fd.code = .ref c := by
  unfold PySem.W.tabIn at t
  rw [a] at t
  dsimp only at t
  rw [l] at t
  dsimp only at t
  split at t
  · rename_i c2 hc
    split at t
    · split at t
      · cases t; exact hc
      · cases t
    · cases t
  · cases t
/-- the tables that a law reaches are there -/
def TbA (L : List Addr) (H : Hp) : Prop := ∀ P ∈ L, TabG H P
theorem TbA.go {L : List Addr} {H H' : Hp} (h : TbA L H) (s : Sm H H') : TbA L H' := fun P hp => s.tb P (h P hp)
theorem TbA.kp {L : List Addr} {a : Addr} {N : Int} {H H' : Hp} (h : TbA L H) (g : Kp a H H') (s : Src a N H) : TbA L H' := fun P hp => by
  obtain ⟨c0, c1, c2, e, _⟩ := s
  exact g.tb P (tabG_nt e (h P hp)) (h P hp)
theorem TbA.upd {L : List Addr} {H : Hp} {p : Addr} {o : HO} (h : TbA L H) (hp : H p = none) : TbA L (L2.upd H p o) := fun P hP => tabG_upd (tabG_ne hp (h P hP)) (h P hP)
theorem TbA.updN {L : List Addr} {H : Hp} {p : Addr} {o o' : HO} [NT o'] (h : TbA L H) (hp : H p = some o') : TbA L (L2.upd H p o) := fun P hP => tabG_upd (tabG_nt hp (h P hP)) (h P hP)
def spLawT (L : List Addr) (K : PySem.W.Frag) : Sp := fun vs H Q _ => ∃ (a : Addr) (ns : List Int), vs = [.ref a] ∧ SqL K H a (ns.map V.int) ∧ ns.length ≤ 63 ∧ TbA L H ∧ ∀ H', Q (.bl true) H'
theorem tb0 {L : List (Addr × Addr)} {H : Hp} (h : ∀ p ∈ L, H p.2 = some (.tbl #[])) : TbA (L.map (·.2)) H := fun P hp => by
  obtain ⟨p, hp2, rfl⟩ := List.mem_map.mp hp
  exact ⟨#[], h p hp2, trivial⟩
theorem walk_tabs {l : PySem.W.OpenLaw} {n k : Nat} {q : Program} {loose : List Str} {XP : (Str → Option Value) → Heap → Prop} {YP : World → Heap → Prop} {d : DefRec} {K : Params → PySem.W.Frag} {CX : World → CXT} {x : Str} (names : List Str)
    (hn : l.most = some n) (hn2 : n ≤ sizeLine) (hdf : d.params.defaults = []) (hr : Room k callerA) (hrec : ∀ y ∈ names, ((recsOf q).any fun e => e.name == y) = true) (hY : ∀ (w : World) (h : Heap), YP w h → (K w.params).In h)
    (F : ∀ (w : World) (mg : Str → Option Value) (fa : Addr) (h : Heap), (K w.params).In h → h.Ns mainGlobals mg → mg d.name = some (.ref fa) → (∀ y ∈ names, ∀ c P, PySem.W.tabIn (K w.params) y = some (c, P) → PySem.W.CodeHd h c P ∧ h.get? P = some { cls := .none, data := .fields #[] }) → LamX.LawAtS l w (K w.params) (CX w) k n x mg fa h)
    (hCX : ∀ (w : World) (H : Hp) (s : Shared) (e : Value) (s' : Shared), CX w [] H s (fun _ _ _ => False) e s' → False) :
    PySem.W.WalkO q loose XP YP l.row.toRowW d [] (fun f vs => PySem.call f vs) := by
  refine Att.attach_callB hn hdf fun w s₀ s₁ mg mb fa o pm cd doc a vs ns G Y ho hd hcd hmg hobj hints hlen hbits hg => ?_
  have KX := hY w _ Y
  obtain ⟨fd, cs, sp, hT, nT, C, hb, hsp, hF⟩ := F w mg fa _ KX G.T.g hmg fun y hy c P ht => by
    obtain ⟨dL, hm, hn1⟩ := List.any_eq_true.mp (hrec y hy)
    have z : ((recsOf q).find? fun e => e.name == y).isSome = true := List.find?_isSome.mpr ⟨dL, hm, hn1⟩
    obtain ⟨d', hd'⟩ := Option.isSome_iff_exists.mp z
    exact PySem.W.tab_of G.T KX hd' ht
  exact LamX.law_callTs KX G.T.g G.T.b G.T.builtins G.T.nolimit hg hT nT C G.T.bmain hobj hints (Nat.le_trans hlen hn2) hr hF hb (fun H hH hS => hsp H a ns hlen hbits hH hS) fun H e s' => hCX w H s₁ e s'

/-! ### the steps -/
section
variable {K : PySem.W.Frag} {σ : L2.St} {vs : List Nat} {H : Hp} {Q : VK} {g : TG} {te : TE} {P : Addr}
/-- over a list -/
theorem w_gxL {b0 : Bool} {a : Addr} {xs : List V} (tr : V → Bool) (hs : SqL K H a xs) (ht : TabG H P)
    (he : ∀ (i : Nat) x H', xs[i]? = some x → Sm H H' → ∀ R : VK, (∀ H2, Sm H' H2 → R (.bl (tr x)) H2) → g x (wipe σ vs) H' fun σ2 H2 => wipe σ2 vs = wipe σ vs ∧ te σ2 H2 R)
    (k : ∀ H', Sm H H' → Q (.bl (if b0 then xs.all tr else xs.any tr)) H') : ∃ b, V.ref a = .ref b ∧ (∃ xs, SqL K H b xs) ∧ GxB b0 P (Itl K b) g te vs σ H Q := by
  refine ⟨a, rfl, ⟨xs, hs⟩, ht, fun H2 hT => ?_⟩
  have s0 := Sm.tabbed ht hT
  refine ⟨fun i m H' => m = xs.length - i ∧ i ≤ xs.length ∧ Sm H H' ∧ ∀ x ∈ xs.take i, tr x = b0, ⟨_, rfl, Nat.zero_le _, s0, fun x hx => by simp at hx⟩, ?_⟩
  rintro i m H' ⟨rfl, hi, s1, ha⟩
  by_cases hlt : i < xs.length
  · refine .inr ⟨⟨xs, xs[i], s1.seq hs, by simp [hlt]⟩, fun x H3 y => ?_⟩
    obtain ⟨rfl, y⟩ := y
    have hx := y xs (s1.seq hs)
    refine he i x _ hx s1 _ fun H4 s2 => ⟨tr x, rfl, fun hb => ⟨_, ?_, rfl, hlt, s1.trans s2, fun z hz => ?_⟩, fun hb => ?_⟩
    · omega
    · rw [List.take_add_one, hx] at hz
      rcases List.mem_append.mp hz with hz | hz
      · exact ha z hz
      · rw [show z = x by simpa using hz]; exact hb
    · have hm := List.mem_of_getElem? hx
      have e : (if b0 then xs.all tr else xs.any tr) = !b0 := by
        cases b0 with
        | true =>
          rw [if_pos rfl, Bool.not_true, List.all_eq_false]
          exact ⟨x, hm, by rw [hb]; simp⟩
        | false =>
          rw [if_neg Bool.false_ne_true, Bool.not_false, List.any_eq_true]
          exact ⟨x, hm, hb⟩
      have := k H4 (s1.trans s2)
      rw [e] at this
      exact this
  · have e : i = xs.length := by omega
    subst e
    refine .inl ⟨⟨xs, s1.seq hs, Nat.le_refl _⟩, ?_⟩
    rw [List.take_length] at ha
    have e : (if b0 then xs.all tr else xs.any tr) = b0 := by
      cases b0 with
      | true =>
        rw [if_pos rfl, List.all_eq_true]
        exact ha
      | false =>
        rw [if_neg Bool.false_ne_true, List.any_eq_false]
        intro x hx
        rw [ha x hx]; simp
    have := k H' s1
    rw [e] at this
    exact this
end
end SC

set_option Elab.async false
set_option linter.all false
set_option maxRecDepth 100000
set_option maxHeartbeats 4000000
/-! list(zip(xs, ys)) of two lists: the pairs stay with the new list. -/
namespace SC
open PySem PySem.Spec PyProof.Rows L2
/-- a zip whose last pair T is kept elsewhere -/
abbrev ZipKept (h : Heap) (z TI TO T : Addr) (b : Bool) : Prop :=
  h.get? z = some { cls := .type "zip", dict := none, data := .fields #[rawInt T, .bool b, .bool false, .ref TI, .ref TO], slots := #[] }
section
variable {prog : Program} {w : World} {A : Around} {E : Value → Shared → Prop} {s : Shared} {z TI TO i1 i2 l1 l2 T : Addr} {k1 k2 : Nat} {xs ys : Array Value} {x y : Value} {b : Bool}
theorem alive_at {a : Addr} {o : Obj} {Q : Option Obj → Shared → Prop} (h : s.heap.get? a = some o) (q : Q (some o) s) : wpAny (model prog w) A (loadIfAlive a) Q E s := by
  intro Γ p hΓ
  unfold loadIfAlive
  rw [Sem.wp_loadIfAlive, h]
  exact (wpAny_pure (M := model prog w) (A := A) (E := E) q) Γ p hΓ
theorem zip_kept_free {oT : Obj} (hz : ZipKept s.heap z TI TO T b) (hT : s.heap.get? T = some oT) {Q : Bool → Shared → Prop}
    (h : ∀ h', ZipKept h' z TI TO T true → Heap.SameBut z s.heap h' → Q false { s with heap := h' }) : wpAny (model prog w) A (Builtin.SmallTypes.ownedTupleIsFree (.ref z)) Q E s := by
  unfold Builtin.SmallTypes.ownedTupleIsFree
  refine wpAny_bind (wpAny_field hz rfl (x := rawInt T) rfl ?_)
  have e : (Int.toNat (T : Int)) = T := Int.toNat_natCast T
  show wpAny _ _ (loadIfAlive (Int.toNat (T : Int)) >>= _) _ _ _
  rw [e]
  refine wpAny_bind (alive_at hT ?_)
  simp only [Option.isNone_some, Bool.false_eq_true, if_false]
  refine wpAny_bind (wpAny_field hz rfl (x := .bool b) rfl ?_)
  cases b with
  | true =>
    exact wpAny_pure (h s.heap hz ⟨rfl, fun _ _ => rfl⟩)
  | false =>
    show wpAny _ _ (setField (.ref z) 1 (.bool true) >>= _) _ _ _
    refine wpAny_bind (wpAny_setField_rec hz (by simp) fun h1 hz1 hs1 => ?_)
    exact wpAny_pure (h h1 hz1 hs1)
theorem zip_kept_item {oT : Obj} {Q : Value → Shared → Prop} (D : ZipApart z TI TO i1 i2 l1 l2)
    (hz : ZipKept s.heap z TI TO T b) (hT : s.heap.get? T = some oT) (hTI : IsPair s.heap TI (.ref i1) (.ref i2))
    (h1 : s.heap.IsListIter i1 l1 k1) (h2 : s.heap.IsListIter i2 l2 k2) (hl1 : s.heap.IsList l1 xs) (hl2 : s.heap.IsList l2 ys) (hx : xs[k1]? = some x) (hy : ys[k2]? = some y)
    (hQ : ∀ h', ZipKept h' z TI TO T true → h'.IsListIter i1 l1 (k1 + 1) → h'.IsListIter i2 l2 (k2 + 1) → IsPair h' s.heap.objs.size x y → h'.objs.size = s.heap.objs.size + 1 →
      (∀ c o, c ≠ z → c ≠ i1 → c ≠ i2 → s.heap.get? c = some o → h'.get? c = some o) → Q (.ref s.heap.objs.size) { s with heap := h' }) :
    wpAny (model prog w) A (Builtin.«zip.__next__» ⟨[.ref z], []⟩) (fun fin s' => ∃ v, fin = .done (.ret v) ∧ Q v s') E s := by
  show wpAny _ _ (field (.ref z) 2 >>= _) _ _ _
  refine wpAny_bind (wpAny_field hz rfl (x := .bool false) rfl ?_)
  show wpAny _ _ (field (.ref z) 3 >>= _) _ _ _
  refine wpAny_bind (wpAny_field hz rfl (x := .ref TI) rfl ?_)
  refine wpAny_bind (wpAny_seqItems hTI rfl ?_)
  show wpAny _ _ (Builtin.SmallTypes.ownedTupleIsFree (.ref z) >>= _) _ _ _
  refine wpAny_bind (zip_kept_free hz hT fun ha hza hsa => ?_)
  simp only [Bool.false_eq_true, if_false]
  rw [← Array.forIn_toList]
  simp only [List.forIn_cons, List.forIn_nil]
  have l1a := hl1.extBut hsa.extBut D.l1z
  have l2a := hl2.extBut hsa.extBut D.l2z
  refine wpAny_bind (wpAny_bind (wpAny_bind (wpAny_holding ?_)))
  show wpAny _ _ (Builtin.SmallTypes.nextOf (.ref i1) >>= _) _ _ _
  refine wpAny_bind (wpAny_nextOf_list_item (h1.extBut hsa.extBut D.i1z) l1a hx fun hb h1b hsb => wpAny_pure (wpAny_pure ?_))
  have l2b := l2a.extBut hsb.extBut D.l2i1
  refine wpAny_bind (wpAny_bind (wpAny_holding ?_))
  show wpAny _ _ (Builtin.SmallTypes.nextOf (.ref i2) >>= _) _ _ _
  refine wpAny_bind (wpAny_nextOf_list_item ((h2.extBut hsa.extBut D.i2z).extBut hsb.extBut D.i12.symm) l2b hy fun hc h2c hsc => wpAny_pure (wpAny_pure (wpAny_pure ?_)))
  refine wpAny_bind (wpAny_newTuple ?_ (by show 2 ≤ sizeLine; decide))
  have hsz : hc.objs.size = s.heap.objs.size := by rw [hsc.1, hsb.1, hsa.1]
  have zc : ZipKept hc z TI TO T true := hsc.extBut _ _ D.i2z.symm (hsb.extBut _ _ D.i1z.symm hza)
  have kc : ∀ c o, c ≠ z → c ≠ i1 → c ≠ i2 → s.heap.get? c = some o → hc.get? c = some o := fun c o c1 c3 c4 e => hsc.extBut _ _ c4 (hsb.extBut _ _ c3 (hsa.extBut _ _ c1 e))
  have i1c : hc.IsListIter i1 l1 (k1 + 1) := h1b.extBut hsc.extBut D.i12
  refine wpAny_pure ⟨_, rfl, ?_⟩
  show Q (.ref hc.objs.size) _
  rw [hsz]
  have up : ∀ c o, hc.get? c = some o → (hc.push { cls := .type "tuple", data := .seq #[x, y] }).get? c = some o := fun c o e => Heap.get?_push_of_some _ e
  refine hQ _ (up _ _ zc) (i1c.at fun o e => up _ o e) (h2c.at fun o e => up _ o e) ?_ (by rw [Heap.size_push, hsz]) fun c o c1 c3 c4 e => up c o (kc c o c1 c3 c4 e)
  rw [← hsz]
  exact Heap.get?_push_size _ rfl
theorem zip_kept_end {oT : Obj} {Q : Fin → Shared → Prop} (hh : A.handled = none) (D : ZipApart z TI TO i1 i2 l1 l2)
    (hz : ZipKept s.heap z TI TO T b) (hT : s.heap.get? T = some oT) (hTI : IsPair s.heap TI (.ref i1) (.ref i2))
    (h1 : s.heap.IsListIter i1 l1 k1) (h2 : s.heap.IsListIter i2 l2 k2) (hl1 : s.heap.IsList l1 xs) (hl2 : s.heap.IsList l2 ys) (hx : xs[k1]? = none)
    (hE : ∀ h' e, (∀ c o, c ≠ z → c ≠ i1 → c ≠ i2 → s.heap.get? c = some o → h'.get? c = some o) → (∃ o, h'.get? e = some o ∧ o.cls = .type "StopIteration") → E (.ref e) { s with heap := h' }) :
    wpAny (model prog w) A (Builtin.«zip.__next__» ⟨[.ref z], []⟩) Q E s := by
  show wpAny _ _ (field (.ref z) 2 >>= _) _ _ _
  refine wpAny_bind (wpAny_field hz rfl (x := .bool false) rfl ?_)
  show wpAny _ _ (field (.ref z) 3 >>= _) _ _ _
  refine wpAny_bind (wpAny_field hz rfl (x := .ref TI) rfl ?_)
  refine wpAny_bind (wpAny_seqItems hTI rfl ?_)
  show wpAny _ _ (Builtin.SmallTypes.ownedTupleIsFree (.ref z) >>= _) _ _ _
  refine wpAny_bind (zip_kept_free hz hT fun ha hza hsa => ?_)
  simp only [Bool.false_eq_true, if_false]
  rw [← Array.forIn_toList]
  simp only [List.forIn_cons, List.forIn_nil]
  refine wpAny_bind (wpAny_bind (wpAny_bind (wpAny_holding ?_)))
  show wpAny _ _ (Builtin.SmallTypes.nextOf (.ref i1) >>= _) _ _ _
  refine wpAny_bind (wpAny_nextOf_list_end hh (h1.extBut hsa.extBut D.i1z) (hl1.extBut hsa.extBut D.l1z) hx fun hb e hsb he => ?_)
  exact hE hb e (fun c o c1 c3 _ q => hsb _ _ c3 (hsa.extBut _ _ c1 q)) he
theorem next_kept_item {oT : Obj} {Q : Option Value → Shared → Prop} (D : ZipApart z TI TO i1 i2 l1 l2)
    (hz : ZipKept s.heap z TI TO T b) (hT : s.heap.get? T = some oT) (hTI : IsPair s.heap TI (.ref i1) (.ref i2))
    (h1 : s.heap.IsListIter i1 l1 k1) (h2 : s.heap.IsListIter i2 l2 k2) (hl1 : s.heap.IsList l1 xs) (hl2 : s.heap.IsList l2 ys) (hx : xs[k1]? = some x) (hy : ys[k2]? = some y)
    (hQ : ∀ h', ZipKept h' z TI TO T true → h'.IsListIter i1 l1 (k1 + 1) → h'.IsListIter i2 l2 (k2 + 1) → IsPair h' s.heap.objs.size x y → h'.objs.size = s.heap.objs.size + 1 →
      (∀ c o, c ≠ z → c ≠ i1 → c ≠ i2 → s.heap.get? c = some o → h'.get? c = some o) → Q (some (.ref s.heap.objs.size)) { s with heap := h' }) :
    wpAny (model prog w) A (pyNext (.ref z)) Q E s := by
  have ty : s.TypeIs (.ref z) "zip" := ⟨_, hz, rfl⟩
  unfold pyNext
  refine wpAny_bind (wpAny_attempt (wpAny_callSpecial?_slot (name := Str.ofString "__next__") ty F.slot_zip_next (wpAny_call_entry F.slot_zip_next ty F.entry_zip_next ?_ (F.args_zip_next_1 _))))
  exact zip_kept_item D hz hT hTI h1 h2 hl1 hl2 hx hy fun h' a1 a3 a4 a5 a6 a7 => wpAny_pure (hQ h' a1 a3 a4 a5 a6 a7)
theorem next_kept_end {oT : Obj} {Q : Option Value → Shared → Prop} (hh : A.handled = none) (D : ZipApart z TI TO i1 i2 l1 l2)
    (hz : ZipKept s.heap z TI TO T b) (hT : s.heap.get? T = some oT) (hTI : IsPair s.heap TI (.ref i1) (.ref i2))
    (h1 : s.heap.IsListIter i1 l1 k1) (h2 : s.heap.IsListIter i2 l2 k2) (hl1 : s.heap.IsList l1 xs) (hl2 : s.heap.IsList l2 ys) (hx : xs[k1]? = none)
    (hQ : ∀ h', (∀ c o, c ≠ z → c ≠ i1 → c ≠ i2 → s.heap.get? c = some o → h'.get? c = some o) → Q none { s with heap := h' }) :
    wpAny (model prog w) A (pyNext (.ref z)) Q E s := by
  have ty : s.TypeIs (.ref z) "zip" := ⟨_, hz, rfl⟩
  unfold pyNext
  refine wpAny_bind (wpAny_attempt (wpAny_callSpecial?_slot (name := Str.ofString "__next__") ty F.slot_zip_next (wpAny_call_entry F.slot_zip_next ty F.entry_zip_next ?_ (F.args_zip_next_1 _))))
  refine zip_kept_end hh D hz hT hTI h1 h2 hl1 hl2 hx fun h' e hk he => ?_
  obtain ⟨o, ho, hc⟩ := he
  refine wpAny_bind (wpAny_isInstance (T := "StopIteration") (b := true) ⟨o, ho, hc⟩ isSubtype_stop ?_)
  exact wpAny_pure (hQ _ hk)
end

/-- the things at these addresses are these tuples -/
def RefsTo (H : Hp) (ads : List Addr) (vs : List (List V)) : Prop := ads.length = vs.length ∧ ∀ (j : Nat) (a : Addr) (v : List V), ads[j]? = some a → vs[j]? = some v → H a = some (.tup v)
theorem RefsTo.go {H H' : Hp} {ads : List Addr} {vs : List (List V)} (r : RefsTo H ads vs) (s : Sm H H') : RefsTo H' ads vs := ⟨r.1, fun j a v h1 h2 => s _ _ (r.2 j a v h1 h2)⟩
theorem RefsTo.nil {H : Hp} : RefsTo H [] [] := ⟨rfl, fun j a v h => by simp at h⟩
theorem RefsTo.snoc {H : Hp} {ads : List Addr} {vs : List (List V)} {a : Addr} {v : List V} (r : RefsTo H ads vs) (h : H a = some (.tup v)) : RefsTo H (ads ++ [a]) (vs ++ [v]) := by
  refine ⟨by rw [List.length_append, List.length_append, r.1]; rfl, fun j b u h1 h2 => ?_⟩
  by_cases hj : j < ads.length
  · rw [List.getElem?_append_left hj] at h1
    rw [List.getElem?_append_left (by rw [← r.1]; exact hj)] at h2
    exact r.2 j b u h1 h2
  · rw [List.getElem?_append_right (by omega)] at h1
    rw [List.getElem?_append_right (by rw [← r.1]; omega)] at h2
    have e : j = ads.length := by
      have := (List.getElem?_eq_some_iff.mp h1).1
      simp at this
      omega
    subst e
    rw [Nat.sub_self] at h1
    rw [← r.1, Nat.sub_self] at h2
    cases h1
    cases h2
    exact h

section
variable {X : Cx} {pins : List (Addr × Obj)} {σ : L2.St} {A : Around} {R : Result → Shared → Prop} {z TI TO i1 i2 a b S : Addr} {xs ys : List V} {H0 : Hp} {res : Value}
/-- pairs so far -/
def zw (xs ys : List V) : List (List V) := List.zipWith (fun x y => [x, y]) xs ys
theorem zw_take {xs ys : List V} {i : Nat} {x y : V} (hx : xs[i]? = some x) (hy : ys[i]? = some y) : (zw xs ys).take (i + 1) = (zw xs ys).take i ++ [[x, y]] := by
  rw [List.take_add_one]
  congr 1
  unfold zw
  rw [List.getElem?_zipWith, hx, hy]
  rfl
theorem RefsTo.updL {H : Hp} {ads : List Addr} {vs : List (List V)} {p : Addr} {o : HO} (r : RefsTo H ads vs) (hp : ∀ v, H p ≠ some (.tup v)) : RefsTo (L2.upd H p o) ads vs :=
  ⟨r.1, fun j a v h1 h2 => by
    have q := r.2 j a v h1 h2
    rw [upd_ne fun z => hp v (by rw [← z]; exact q)]
    exact q⟩
theorem zip_turns (hh : A.handled = none) (D : ZipApart z TI TO i1 i2 a b) (hl : xs.length = ys.length) (hx0 : SqL X.K H0 a xs) (hy0 : SqL X.K H0 b ys) (h0 : H0 S = none)
    (hS : ∀ b ∈ [z, TI, TO, i1, i2], b ≠ S)
    (hend : ∀ H' s ads, Inv X pins σ H' s → Sm H0 H' → H' S = some (.lst (ads.map V.ref)) → RefsTo H' ads (zw xs ys) → R (.ok (.ret res)) s) :
    ∀ (m i : Nat) (s : Shared) (H' : Hp) (ads : List Addr), i + m = xs.length → Inv X pins σ H' s → (∀ b ∈ [z, TI, TO, i1, i2], FpOk X pins H' b) → Sm H0 H' → H' S = some (.lst (ads.map V.ref)) → RefsTo H' ads ((zw xs ys).take i) →
      ((IsZip s.heap z TI TO .none ∧ (∃ x y, IsPair s.heap TO x y)) ∨ ∃ T c v, ZipKept s.heap z TI TO T c ∧ H' T = some (.tup v)) → TO < s.heap.objs.size → IsPair s.heap TI (.ref i1) (.ref i2) → s.heap.IsListIter i1 a i → s.heap.IsListIter i2 b i →
      codeAny (model X.prog X.w) A (.builtin "list.extend.loop" ⟨[.ref S, .ref z, res], []⟩) R s := by
  have lenZ : (zw xs ys).length = xs.length := by
    unfold zw
    rw [List.length_zipWith]
    omega
  have alive : ∀ {H' : Hp} {s : Shared} {T : Addr} {v : List V}, Inv X pins σ H' s → H' T = some (.tup v) → ∃ oT, s.heap.get? T = some oT := fun {H' s T v} I q => by
    obtain ⟨_, _, _, o, e, _⟩ := I.hok T _ q
    exact ⟨o, e⟩
  intro m
  induction m with
  | zero =>
    intro i s H' ads hi I hf hs hSo hr hz ltO hTI h1 h2
    have hi' : i = xs.length := by omega
    subst hi'
    rw [List.take_of_length_le (by omega)] at hr
    obtain ⟨its, rv, p, _⟩ := I.list (hs.seq hx0)
    obtain ⟨its2, rv2, p2, _⟩ := I.list (hs.seq hy0)
    have e1 : its.toArray[xs.length]? = none := by have := rv.length; simp; omega
    refine codeAny_builtin F.entry_extend_loop ?_
    rw [Around.under_plainId F.plain_extend_loop _]
    show wpAny _ A.in1 (pyNext (.ref z) >>= _) _ _ s
    refine wpAny_bind ?_
    rcases hz with ⟨hz, u, v, hTO⟩ | ⟨T, c, v, hz, hT⟩
    · refine wpAny_pyNext_zip_end (A := A.in1) hh D hz hTI hTO h1 h2 p.isList p2.isList (.inl e1) fun h' hk => ?_
      exact wpAny_pure (hend H' _ ads (I.turnedL (t' := s.toks) (ch := [z, TI, TO, i1, i2]) (fun c o hb q => hk c o (fun q' => hb (by simp [q'])) (fun q' => hb (by simp [q'])) (fun q' => hb (by simp [q'])) (fun q' => hb (by simp [q'])) q) hf) hs hSo hr)
    · obtain ⟨oT, eT⟩ := alive I hT
      refine next_kept_end (A := A.in1) hh D hz eT hTI h1 h2 p.isList p2.isList e1 fun h' hk => ?_
      exact wpAny_pure (hend H' _ ads (I.turnedL (t' := s.toks) (ch := [z, TI, TO, i1, i2]) (fun c o hb q => hk c o (fun q' => hb (by simp [q'])) (fun q' => hb (by simp [q'])) (fun q' => hb (by simp [q'])) q) hf) hs hSo hr)
  | succ m ih =>
    intro i s H' ads hi I hf hs hSo hr hz ltO hTI h1 h2
    obtain ⟨its, rv, p, hsl⟩ := I.list (hs.seq hx0)
    obtain ⟨its2, rv2, p2, _⟩ := I.list (hs.seq hy0)
    obtain ⟨x, ex⟩ : ∃ x, xs[i]? = some x := ⟨xs[i]'(by omega), List.getElem?_eq_getElem _⟩
    obtain ⟨y, ey⟩ : ∃ y, ys[i]? = some y := ⟨ys[i]'(by omega), List.getElem?_eq_getElem _⟩
    obtain ⟨u, hu, ru⟩ := rv.get ex
    obtain ⟨u2, hu2, ru2⟩ := rv2.get ey
    refine codeAny_builtin F.entry_extend_loop ?_
    rw [Around.under_plainId F.plain_extend_loop _]
    show wpAny _ A.in1 (pyNext (.ref z) >>= _) _ _ s
    refine wpAny_bind ?_
    have hSl : S < s.heap.objs.size := I.hok.lt hSo
    have hla : ads.length = i := by
      rw [hr.1, List.length_take]; omega
    -- behind the pair: the list grows
    have goOn : ∀ (h' : Heap) (c : Bool) (T : Addr), (ZipKept h' z TI TO T c) → (T = s.heap.objs.size ∨ ∃ v, H' T = some (.tup v)) → IsPair h' TI (.ref i1) (.ref i2) → h'.IsListIter i1 a (i + 1) → h'.IsListIter i2 b (i + 1) → IsPair h' s.heap.objs.size u u2 →
        (∀ c o, c ∉ [z, TI, TO, i1, i2] → s.heap.get? c = some o → h'.get? c = some o) → (∀ c ∈ [z, TI, TO, i1, i2], c < s.heap.objs.size) → s.heap.objs.size ≤ h'.objs.size →
        wpAny (model X.prog X.w) A.in1 (updateSeq S (·.push (.ref s.heap.objs.size)) >>= fun _ => pure (Fin.again (.builtin "list.extend.loop" ⟨[.ref S, .ref z, res], []⟩))) (fun fin s' => match fin with | .done f => R (.ok f) s' | .again c' => c'.quiet = true ∧ codeAny (model X.prog X.w) A c' R s') (fun e s' => R (.error e) s') { s with heap := h' } := by
      intro h' c T hz' hT' hTI' h1' h2' hP hk hlt hge0
      have fr : H' s.heap.objs.size = none := I.hok.fresh (Nat.le_refl _)
      have new : ObjOk X.prog X.w (L2.upd H' s.heap.objs.size (.tup [x, y])) h' s.heap.objs.size (.tup [x, y]) := ⟨by show 2 ≤ sizeLine; decide, [u, u2], .cons ru (.cons ru2 .nil), ⟨_, hP, rfl, _, rfl⟩⟩
      have I1 := I.turnedNew (t' := s.toks) (ch := [z, TI, TO, i1, i2]) hk hf (Nat.le_refl _) new
      have hSo1 : L2.upd H' s.heap.objs.size (.tup [x, y]) S = some (.lst (ads.map V.ref)) := by rw [upd_ne (Nat.ne_of_lt hSl)]; exact hSo
      obtain ⟨z4, its4, k4, r4, hl4, e4⟩ := I1.lstM hSo1
      have hl5 : its4.length = i := by rw [← hl4, List.length_map, hla]
      refine wpAny_bind ?_
      refine wpAny_updateSeq e4 rfl (wpAny_pure ⟨plainId_quiet F.plain_extend_loop _, ?_⟩) (by simp; omega) (by simp; omega)
      have I2 := I1.lset (f := (·.push (.ref s.heap.objs.size))) (its' := its4 ++ [.ref s.heap.objs.size]) (ys := (ads ++ [s.heap.objs.size]).map V.ref) (t' := s.toks) hSo1 e4 (by simp) (by rw [List.map_append]; exact r4.append (.cons rfl .nil)) (by simp; omega)
      have hge : s.heap.objs.size ≤ (h'.update S (Obj.mapSeq (·.push (.ref s.heap.objs.size)))).objs.size := by rw [Heap.size_update]; exact hge0
      have oth : ∀ c o, c ≠ S → h'.get? c = some o → (h'.update S (Obj.mapSeq (·.push (.ref s.heap.objs.size)))).get? c = some o := fun c o hc q => (Heap.get?_update_other _ _ (Ne.symm hc)).trans q
      refine ih (i + 1) _ _ (ads ++ [s.heap.objs.size]) (by omega) I2 (fun c hc => ?_) (sm_upd (sm_upd hs (hs.fr _ fr)) h0) upd_same ?_ (.inr ⟨T, c, ?_⟩) (Nat.lt_of_lt_of_le ltO hge) (oth _ _ (hS _ (by simp)) hTI') (h1'.at fun o q => oth _ o (hS _ (by simp)) q) (h2'.at fun o q => oth _ o (hS _ (by simp)) q)
      · refine ⟨?_, (hf c hc).2⟩
        rw [upd_ne (hS c hc), upd_ne (Nat.ne_of_lt (hlt c hc))]
        exact (hf c hc).1
      · rw [zw_take ex ey]
        refine RefsTo.snoc (RefsTo.updL (RefsTo.updL hr fun v q => ?_) fun v q => ?_) ?_
        · rw [fr] at q; cases q
        · rw [hSo1] at q; cases q
        · rw [upd_ne (Nat.ne_of_gt hSl)]; exact upd_same
      · have tT : ∃ v, L2.upd (L2.upd H' s.heap.objs.size (.tup [x, y])) S (.lst ((ads ++ [s.heap.objs.size]).map V.ref)) T = some (.tup v) := by
          rcases hT' with rfl | ⟨v, q⟩
          · exact ⟨[x, y], by rw [upd_ne (Nat.ne_of_gt hSl)]; exact upd_same⟩
          · refine ⟨v, ?_⟩
            rw [upd_ne fun y => ?_, upd_ne (Nat.ne_of_lt (I.hok.lt q))]
            · exact q
            · rw [y, hSo] at q; cases q
        obtain ⟨v, q⟩ := tT
        exact ⟨v, oth _ _ (hS _ (by simp)) hz', q⟩
    have lt1 : i1 < s.heap.objs.size := by obtain ⟨o, e, _⟩ := h1; exact Heap.lt_size e
    have lt2 : i2 < s.heap.objs.size := by obtain ⟨o, e, _⟩ := h2; exact Heap.lt_size e
    have ltI : TI < s.heap.objs.size := Heap.lt_size hTI
    rcases hz with ⟨hz, u', v', hTO⟩ | ⟨T, c, v, hz, hT⟩
    · have ltz : z < s.heap.objs.size := Heap.lt_size hz
      have lts : ∀ c ∈ [z, TI, TO, i1, i2], c < s.heap.objs.size := fun c hc => by
        have e' : c = z ∨ c = TI ∨ c = TO ∨ c = i1 ∨ c = i2 := by simpa using hc
        rcases e' with rfl | rfl | rfl | rfl | rfl <;> assumption
      refine wpAny_pyNext_zip_item (A := A.in1) D hz hTI hTO h1 h2 p.isList p2.isList (x := u) (y := u2) (by simpa using hu) (by simpa using hu2) fun h' z' TO' h1' h2' hP hsz hk => ?_
      exact goOn h' false s.heap.objs.size z' (.inl rfl) (hk _ _ D.TIz D.TITO D.TIi1 D.TIi2 hTI) h1' h2' hP (fun c o hb q => hk c o (fun q' => hb (by simp [q'])) (fun q' => hb (by simp [q'])) (fun q' => hb (by simp [q'])) (fun q' => hb (by simp [q'])) q) lts (by omega)
    · obtain ⟨oT, eT⟩ := alive I hT
      have ltz : z < s.heap.objs.size := Heap.lt_size hz
      refine next_kept_item (A := A.in1) D hz eT hTI h1 h2 p.isList p2.isList (x := u) (y := u2) (by simpa using hu) (by simpa using hu2) fun h' z' h1' h2' hP hsz hk => ?_
      refine goOn h' true T z' (.inr ⟨v, hT⟩) (hk _ _ D.TIz D.TIi1 D.TIi2 hTI) h1' h2' hP (fun c o hb q => hk c o (fun q' => hb (by simp [q'])) (fun q' => hb (by simp [q'])) (fun q' => hb (by simp [q'])) q) (fun c hc => ?_) (by omega)
      have e' : c = z ∨ c = TI ∨ c = TO ∨ c = i1 ∨ c = i2 := by simpa using hc
      rcases e' with rfl | rfl | rfl | rfl | rfl <;> first | assumption | exact ltO
end

theorem zip_no_len : typeLookup (.type "zip") "__len__" = pure none := by rw [typeLookup_type, builtinLookup_eq_fast]; kernel_rfl
theorem zip_no_hint : typeLookup (.type "zip") "__length_hint__" = pure none := by rw [typeLookup_type, builtinLookup_eq_fast]; kernel_rfl
section
variable {X : Cx}
/-- list(zip(xs, ys)): two lists of one length -/
def LzB (K : PySem.W.Frag) (vs : List V) (H1 : Hp) (Q : VK) : Prop := ∃ a b xs ys, vs = [.ref a, .ref b] ∧ SqL K H1 a xs ∧ SqL K H1 b ys ∧ xs.length = ys.length ∧
  ∀ p H2 ads, H1 p = none → Sm H1 H2 → H2 p = some (.lst (ads.map V.ref)) → RefsTo H2 ads (zw xs ys) → Q (.ref p) H2
def tLz (K : PySem.W.Frag) (ta : TA) : TE := fun σ H Q => ta σ H fun vs H1 => LzB K vs H1 Q
theorem pe_listZip {e e2 : Expr} {ta : TA} {p q pos zpos : Pos} (hh : X.A.handled = none) (hg : Gl X "list") (hm : X.mg "list" = none) (hgz : Gl X "zip") (hmz : X.mg "zip" = none) (ha : PA X [e, e2] ta)
    (hv : bootBuiltins "list" = some (.type "list") := by decide +kernel)
    (hs : starEach [e, e2] X.env = (false, eval e X.env) :: starEach [e2] X.env := by rfl) (hpl : (backTo zpos (starEach [e2] X.env)).any (·.1) = false := by rfl)
    (he : starEach [.Call (.Name "zip" q) [e, e2] [] zpos] X.env = (false, eval (.Call (.Name "zip" q) [e, e2] [] zpos) X.env) :: starEach [] X.env := by rfl) :
    PE X (.Call (.Name "list" p) [.Call (.Name "zip" q) [e, e2] [] zpos] [] pos) (tLz X.K ta) := by
  refine ⟨fun pins s σ H Q I h => ?_⟩
  refine wpAny_Call_Name_kw (ld_blt I hg hm hv ?_)
  refine PyProof.Rows.callWith_type1 ?_ he rfl
  rw [he]
  show wpAny _ _ (spliced ((false, eval (.Call (.Name "zip" q) [e, e2] [] zpos) X.env) :: backTo pos (starEach [] X.env))) _ _ s
  refine Calls.spliced_cons (Call_ (ld_blt I hgz hmz PyProof.Rows.boot_zip (PyProof.Rows.callWith_type1 (thn (ha.run zpos pins s σ H _ I h) fun us s1 ⟨vs, H1, I1, r1, q1⟩ => ?_) hs hpl)))
  obtain ⟨a, b, xs, ys, ex, hqx, hqy, hl, q⟩ := q1
  subst ex
  cases r1 with
  | cons r rr =>
    cases rr with
    | cons r' rr =>
      cases rr
      cases r
      cases r'
      obtain ⟨its, rv, p1, hxl⟩ := I1.list hqx
      obtain ⟨its2, rv2, p2, _⟩ := I1.list hqy
      have la : a < s1.heap.objs.size := p1.lt
      have lb : b < s1.heap.objs.size := p2.lt
      refine call_zip_2 p1.isList p2.isList fun h' hz hTI hTO h1 h2 hsz hk => ?_
      refine Calls.spliced_nil ?_
      have D := PySem.W.ktu_apart s1.heap.objs.size a b la lb
      have I2 : Inv X pins σ H1 { s1 with heap := h' } := I1.kept (t' := s1.toks) hk
      have f2 : ∀ c ∈ [s1.heap.objs.size + 4, s1.heap.objs.size + 2, s1.heap.objs.size + 3, s1.heap.objs.size, s1.heap.objs.size + 1], FpOk X pins H1 c ∧ c < h'.objs.size := fun c hcm => by
        have e' : c = s1.heap.objs.size + 4 ∨ c = s1.heap.objs.size + 2 ∨ c = s1.heap.objs.size + 3 ∨ c = s1.heap.objs.size ∨ c = s1.heap.objs.size + 1 := by simpa using hcm
        have hle : s1.heap.objs.size ≤ c ∧ c < h'.objs.size := by rcases e' with z | z | z | z | z <;> rw [z] <;> omega
        exact ⟨I1.fpOk hle.1 (I1.hok.fresh hle.1), hle.2⟩
      generalize s1.heap.objs.size + 4 = z at hz D f2 ⊢
      generalize s1.heap.objs.size + 2 = TI at hz hTI D f2 ⊢
      generalize s1.heap.objs.size + 3 = TO at hz hTO D f2 ⊢
      generalize s1.heap.objs.size + 1 = i2 at hTI h2 D f2 ⊢
      generalize s1.heap.objs.size = i1 at hTI h1 D f2 ⊢
      generalize hs2 : ({ s1 with heap := h' } : Shared) = s2 at I2 ⊢
      have e2 : s2.heap = h' := by rw [← hs2]
      rw [← e2] at hz hTI hTO h1 h2 f2
      refine callType_codes (Q₁ := fun obj s₁ => obj = .ref s2.heap.objs.size ∧ s₁ = { s2 with heap := s2.heap.push { cls := .type "list", data := .seq #[] } }) F.called_list (F.typeCall_list_1 _) F.entry_list_init (code_list_new _ ⟨rfl, rfl⟩) fun obj s3 h3 => ?_
      obtain ⟨rfl, rfl⟩ := h3
      have hS : (s2.heap.push { cls := .type "list", data := .seq #[] }).get? s2.heap.objs.size = some { cls := .type "list", data := .seq #[] } := Heap.get?_push_size _ rfl
      refine ⟨⟨_, hS, rfl⟩, F.args_list_init_2 _ _, ?_⟩
      have fr : H1 s2.heap.objs.size = none := I2.hok.fresh (Nat.le_refl _)
      have J1 : Inv X pins σ (L2.upd H1 s2.heap.objs.size (.lst [])) { s2 with heap := s2.heap.push { cls := .type "list", data := .seq #[] } } := I2.lnew (its := []) (t' := s2.toks) .nil (Nat.zero_le _)
      have nS : ∀ c ∈ [z, TI, TO, i1, i2], c ≠ s2.heap.objs.size := fun c hc => Nat.ne_of_lt (f2 c hc).2
      have k0 : ∀ c o, s2.heap.get? c = some o → (s2.heap.push { cls := .type "list", data := .seq #[] }).get? c = some o := fun c o e => Heap.get?_push_of_some _ e
      show wpAny _ _ (do let old ← Builtin.List.listItems (.ref s2.heap.objs.size); Builtin.List.listUpdate (.ref s2.heap.objs.size) (fun _ => #[]); letGo old.toList.reverse; Builtin.List.listExtendWith (.ref s2.heap.objs.size) (.ref z) .none) _ _ _
      refine wpAny_bind ?_
      unfold Builtin.List.listItems
      refine wpAny_bind (wpAny_seqItems hS rfl (wpAny_pure ?_))
      show wpAny _ _ (updateSeq s2.heap.objs.size (fun _ => #[]) >>= fun _ => letGo (#[] : Array Value).toList.reverse >>= fun _ => Builtin.List.listExtendWith (.ref s2.heap.objs.size) (.ref z) .none) _ _ _
      refine wpAny_bind (wpAny_updateSeq hS rfl ?_)
      have J2 := J1.lset (f := fun _ => #[]) (its := []) (its' := []) (ys := []) (t' := s2.toks) upd_same hS rfl .nil (Nat.zero_le _)
      rw [upd_upd] at J2
      refine wpAny_bind (wpAny_letGo ?_)
      have up : ∀ (g : Heap) (f : Array Value → Array Value) (c : Addr) (o : Obj), c ≠ s2.heap.objs.size → g.get? c = some o → (g.update s2.heap.objs.size (Obj.mapSeq f)).get? c = some o := fun g f c o hc e => (Heap.get?_update_other _ _ (Ne.symm hc)).trans e
      have hS2 := Heap.get?_update_self (Obj.mapSeq (fun _ => (#[] : Array Value))) hS rfl
      have hz2 := up _ (fun _ => #[]) _ _ (nS z (by simp)) (k0 _ _ hz)
      have ty : ({ s2 with heap := (s2.heap.push { cls := .type "list", data := .seq #[] }).update s2.heap.objs.size (Obj.mapSeq (fun _ => #[])) } : Shared).TypeIs (.ref z) "zip" := ⟨_, hz2, rfl⟩
      unfold Builtin.List.listExtendWith
      refine wpAny_bind (wpAny_typeOf ty ?_)
      have b1 : Builtin.List.listSameRef (.ref s2.heap.objs.size) (.ref z) = false := by simp [Builtin.List.listSameRef, Ne.symm (nS z (by simp))]
      have b2 : (Value.type "zip" == Value.type "list") = false := by decide
      have b3 : (Value.type "zip" == Value.type "tuple") = false := by decide
      simp only [b1, b2, b3, Bool.or_false, Bool.false_eq_true, if_false]
      refine wpAny_bind (wpAny_pyIter_zip (s := { s2 with heap := _ }) hz2 ?_)
      refine wpAny_bind (wpAny_holding ?_)
      unfold Builtin.List.listLengthHint
      refine wpAny_bind (wpAny_specialOf ty zip_no_len ?_)
      show wpAny _ _ (specialOf (Value.ref z) (Str.ofString "__length_hint__") >>= _) _ _ _
      refine wpAny_bind (wpAny_specialOf ty zip_no_hint ?_)
      refine wpAny_pure ?_
      show wpAny _ _ (rule "list.extend.makes-room" >>= fun _ => Builtin.List.listTouch (.ref s2.heap.objs.size) >>= fun _ => again (.builtin "list.extend.loop" ⟨[.ref s2.heap.objs.size, .ref z, .none], []⟩)) _ _ _
      refine wpAny_bind (wpAny_rule ?_)
      refine wpAny_bind ?_
      show wpAny _ _ (updateSeq s2.heap.objs.size (·.push .none) >>= fun _ => updateSeq s2.heap.objs.size (·.pop)) _ _ _
      refine wpAny_bind (wpAny_updateSeq hS2 rfl ?_)
      have J3 := J2.lset (f := (·.push Value.none)) (its' := [Value.none]) (ys := [.non]) (t' := s2.toks) upd_same hS2 (by rfl) (.cons rfl .nil) (by rw [List.length_singleton, sizeLine_eq]; decide)
      have hS3 := Heap.get?_update_self (Obj.mapSeq (·.push Value.none)) hS2 rfl
      refine wpAny_updateSeq (hz := by seq_fits) hS3 rfl ?_
      have J4 := J3.lset (f := (·.pop)) (its := [Value.none]) (its' := []) (ys := []) (t' := s2.toks) upd_same hS3 (by rfl) .nil (Nat.zero_le _)
      rw [upd_upd, upd_upd] at J4
      have k4 : ∀ c o, c ≠ s2.heap.objs.size → s2.heap.get? c = some o → ((((s2.heap.push { cls := .type "list", data := .seq #[] }).update s2.heap.objs.size (Obj.mapSeq (fun _ => #[]))).update s2.heap.objs.size (Obj.mapSeq (·.push Value.none))).update s2.heap.objs.size (Obj.mapSeq (·.pop))).get? c = some o := fun c o hc e =>
        up _ _ c o hc (up _ _ c o hc (up _ _ c o hc (k0 c o e)))
      refine wpAny_pure ⟨plainId_quiet F.plain_extend_loop _, ?_⟩
      have s0 : Sm H1 (L2.upd H1 s2.heap.objs.size (.lst [])) := same_upd fr
      refine zip_turns (A := X.A.in1) (H0 := H1) (xs := xs) (ys := ys) (S := s2.heap.objs.size) hh D hl hqx hqy fr nS (fun H' s' ads I' hs' hS' hr' => ?_) xs.length 0 _ (L2.upd H1 s2.heap.objs.size (.lst [])) [] (by omega) J4 (fun c hc => ⟨by rw [upd_ne (nS c hc)]; exact (f2 c hc).1.1, (f2 c hc).1.2⟩) s0 upd_same (by rw [List.take_zero]; exact .nil)
        (.inl ⟨k4 _ _ (nS _ (by simp)) hz, ⟨_, _, k4 _ _ (nS _ (by simp)) hTO⟩⟩) ?_ (k4 _ _ (nS _ (by simp)) hTI) (h1.at fun o e => k4 _ o (nS _ (by simp)) e) (h2.at fun o e => k4 _ o (nS _ (by simp)) e)
      · exact ⟨rfl, .ref s2.heap.objs.size, H', I', rfl, q _ _ _ fr hs' hS' hr'⟩
      · exact Heap.lt_size (k4 _ _ (nS TO (by simp)) hTO)
end
end SC

set_option Elab.async false
set_option linter.all false
set_option maxHeartbeats 1000000
/-! A cup played round by round: the winners by the bits of the upsets. -/
namespace SC
open PySem PySem.Spec PyProof.Rows L2
def prAt (ps : List Int) (i : Nat) : Int × Int := (ps.getD i 0, ps.getD (ps.length - 1 - i) 0)
def prs (ps : List Int) : List (Int × Int) := (List.range (ps.length / 2)).map (prAt ps)
def win (b : Int) (p : Int × Int) : Int := if b = 1 then max p.1 p.2 else min p.1 p.2
def rnd (ps bs : List Int) : List Int := (List.range (ps.length / 2)).map fun i => win (bs.getD i 0) (prAt ps i)
def seeds (s : Nat) : List Int := (List.range (2 ^ s)).map fun i : Nat => 1 + (i : Int)
def plP (s : Nat) (B : List Int) : Nat → List Int × List Int
  | 0 => (seeds s, [])
  | d + 1 => (rnd (plP s B d).1 (B.drop (plP s B d).2.length), (plP s B d).2 ++ rnd (plP s B d).1 (B.drop (plP s B d).2.length))
def PL (s : Nat) (B : List Int) (d : Nat) : List Int := (plP s B d).1
def FD (s : Nat) (B : List Int) (d : Nat) : List Int := (plP s B d).2
theorem PL_succ (s : Nat) (B : List Int) (d : Nat) : PL s B (d + 1) = rnd (PL s B d) (B.drop (FD s B d).length) := rfl
theorem FD_succ (s : Nat) (B : List Int) (d : Nat) : FD s B (d + 1) = FD s B d ++ PL s B (d + 1) := rfl
theorem rnd_len (ps bs : List Int) : (rnd ps bs).length = ps.length / 2 := by simp [rnd]
theorem prs_len (ps : List Int) : (prs ps).length = ps.length / 2 := by simp [prs]
theorem pow_half {s d : Nat} (h : d < s) : 2 ^ (s - d) = 2 * 2 ^ (s - (d + 1)) := by
  rw [show s - d = (s - (d + 1)) + 1 by omega, Nat.pow_succ]
  omega
theorem PL_len {s : Nat} {B : List Int} : ∀ {d : Nat}, d ≤ s → (PL s B d).length = 2 ^ (s - d)
  | 0, _ => by simp [PL, plP, seeds]
  | d + 1, h => by
    rw [PL_succ, rnd_len, PL_len (by omega), pow_half (by omega)]
    omega
theorem FD_len {s : Nat} {B : List Int} : ∀ {d : Nat}, d ≤ s → (FD s B d).length + 2 ^ (s - d) = 2 ^ s
  | 0, _ => by simp [FD, plP]
  | d + 1, h => by
    have h1 := FD_len (s := s) (B := B) (d := d) (by omega)
    rw [FD_succ, List.length_append, PL_len h]
    have := pow_half (s := s) (d := d) (by omega)
    omega
theorem win_mem (b : Int) (p : Int × Int) : win b p = p.1 ∨ win b p = p.2 := by
  unfold win
  split <;> omega
theorem win_max {b : Int} {p : Int × Int} (hp : p.1 ≠ p.2) (hb : b = 0 ∨ b = 1) : (if win b p = max p.1 p.2 then (1 : Int) else 0) = b := by
  unfold win
  rcases hb with rfl | rfl
  · have z : ¬ ((0 : Int) = 1) := by decide
    rw [if_neg z, if_neg (by omega)]
  · rw [if_pos rfl, if_pos rfl]
theorem getD_inj {ps : List Int} (h : ps.Nodup) {a b : Nat} (ha : a < ps.length) (hb : b < ps.length) (e : ps.getD a 0 = ps.getD b 0) : a = b := by
  rw [List.getD_eq_getElem?_getD, List.getD_eq_getElem?_getD, List.getElem?_eq_getElem ha, List.getElem?_eq_getElem hb] at e
  have e : ps[a] = ps[b] := e
  have pw := List.pairwise_iff_getElem.mp h
  rcases Nat.lt_trichotomy a b with z | z | z
  · exact absurd e (pw a b ha hb z)
  · exact z
  · exact absurd e.symm (pw b a hb ha z)
theorem rnd_nd {ps bs : List Int} (h : ps.Nodup) : (rnd ps bs).Nodup := by
  unfold rnd
  rw [List.Nodup, List.pairwise_map]
  refine List.Pairwise.imp_of_mem (fun {i j} hi hj hlt => ?_) List.pairwise_lt_range
  have hi := List.mem_range.mp hi
  have hj := List.mem_range.mp hj
  intro e
  have key : ∀ i j : Nat, i < ps.length / 2 → j < ps.length / 2 → i < j → ∀ u v : Nat, (u = i ∨ u = ps.length - 1 - i) → (v = j ∨ v = ps.length - 1 - j) → ps.getD u 0 ≠ ps.getD v 0 := fun i j hi hj hl u v hu hv q => by
    have := getD_inj h (a := u) (b := v) (by omega) (by omega) q
    omega
  rcases win_mem (bs.getD i 0) (prAt ps i) with z1 | z1 <;> rcases win_mem (bs.getD j 0) (prAt ps j) with z2 | z2 <;> rw [z1, z2] at e
  · exact key i j hi hj hlt i j (.inl rfl) (.inl rfl) e
  · exact key i j hi hj hlt i _ (.inl rfl) (.inr rfl) e
  · exact key i j hi hj hlt _ j (.inr rfl) (.inl rfl) e
  · exact key i j hi hj hlt _ _ (.inr rfl) (.inr rfl) e
theorem seeds_nd (s : Nat) : (seeds s).Nodup := by
  unfold seeds
  rw [List.Nodup, List.pairwise_map]
  exact List.Pairwise.imp (fun {a b} h e => by omega) List.pairwise_lt_range
theorem PL_nd (s : Nat) (B : List Int) : ∀ d : Nat, (PL s B d).Nodup
  | 0 => seeds_nd s
  | d + 1 => rnd_nd (PL_nd s B d)
theorem FD_pre {s : Nat} {B : List Int} {d : Nat} : ∀ k : Nat, ∃ r, FD s B (d + k) = FD s B d ++ r
  | 0 => ⟨[], by simp⟩
  | k + 1 => by
    obtain ⟨r, e⟩ := FD_pre (s := s) (B := B) (d := d) k
    exact ⟨r ++ PL s B (d + k + 1), by rw [← Nat.add_assoc, FD_succ, e, List.append_assoc]⟩
theorem FD_cut {s : Nat} {B : List Int} {d : Nat} (h : d < s) : ((FD s B s).drop (FD s B d).length).take (PL s B (d + 1)).length = PL s B (d + 1) := by
  obtain ⟨r, e⟩ := FD_pre (s := s) (B := B) (d := d + 1) (s - (d + 1))
  rw [show d + 1 + (s - (d + 1)) = s by omega] at e
  rw [e, FD_succ, List.append_assoc, List.drop_left, List.take_left]
/-- a number by its bits, the highest first -/
def num (B : List Int) : Int := B.foldl (fun a b => 2 * a + b) 0
def Bits (B : List Int) : Prop := ∀ b ∈ B, b = 0 ∨ b = 1
theorem num_snoc (B : List Int) (b : Int) : num (B ++ [b]) = 2 * num B + b := by simp [num]
theorem snoc_ind {P : List Int → Prop} (h0 : P []) (h1 : ∀ B b, P B → P (B ++ [b])) : ∀ B, P B := by
  intro B
  generalize hn : B.length = n
  induction n generalizing B with
  | zero => rw [List.length_eq_zero_iff.mp hn]; exact h0
  | succ n ih =>
    have z : B ≠ [] := fun e => by rw [e] at hn; cases hn
    rw [← List.dropLast_concat_getLast z]
    exact h1 _ _ (ih _ (by rw [List.length_dropLast, hn]; rfl))
theorem num_range {B : List Int} : Bits B → 0 ≤ num B ∧ num B < 2 ^ B.length := by
  induction B using snoc_ind with
  | h0 => intro _; simp [num]
  | h1 B b ih =>
    intro h
    have h1 := ih fun x hx => h x (by simp [hx])
    have h2 := h b (by simp)
    rw [num_snoc, List.length_append, List.length_singleton, Int.pow_succ]
    rcases h2 with rfl | rfl <;> omega
theorem num_take {B : List Int} {j : Nat} {b : Int} (h : B[j]? = some b) : num (B.take (j + 1)) = 2 * num (B.take j) + b := by
  rw [List.take_add_one, h]
  exact num_snoc _ _
theorem num_bit {B : List Int} : Bits B → ∀ {j : Nat} {b : Int}, B[j]? = some b → (num B / 2 ^ (B.length - 1 - j)) % 2 = b := by
  induction B using snoc_ind with
  | h0 => intro _ j b h; simp at h
  | h1 B c ih =>
    intro h j b hj
    have hB : Bits B := fun x hx => h x (by simp [hx])
    have hc := h c (by simp)
    rw [num_snoc, List.length_append, List.length_singleton]
    by_cases z : j < B.length
    · rw [List.getElem?_append_left z] at hj
      have q := ih hB hj
      have e : B.length + 1 - 1 - j = (B.length - 1 - j) + 1 := by omega
      have e2 : (2 * num B + c) / 2 ^ (B.length - 1 - j + 1) = num B / 2 ^ (B.length - 1 - j) := by
        rw [Int.pow_succ, Int.mul_comm (2 ^ (B.length - 1 - j)) 2, ← Int.ediv_ediv_of_nonneg (show (0 : Int) ≤ 2 by decide), show (2 * num B + c) / 2 = num B by omega]
      rw [e, e2]
      exact q
    · have hj2 := (List.getElem?_eq_some_iff.mp hj).1
      rw [List.length_append, List.length_singleton] at hj2
      have e : j = B.length := by omega
      subst e
      rw [List.getElem?_append_right (Nat.le_refl _), Nat.sub_self] at hj
      have : c = b := by simpa using hj
      subst this
      rw [show B.length + 1 - 1 - B.length = 0 by omega]
      simp
      omega

/-- the pairs of all rounds up to d -/
def MP (s : Nat) (B : List Int) : Nat → List (Int × Int)
  | 0 => []
  | d + 1 => MP s B d ++ prs (PL s B d)
theorem MP_len (s : Nat) (B : List Int) : ∀ d : Nat, (MP s B d).length = (FD s B d).length
  | 0 => rfl
  | d + 1 => by
    show (MP s B d ++ prs (PL s B d)).length = _
    rw [FD_succ, List.length_append, List.length_append, MP_len s B d, prs_len, PL_succ, rnd_len]
theorem MP_win (s : Nat) (B : List Int) : ∀ (d : Nat), d ≤ s → ∀ (j : Nat) (p : Int × Int) (w : Int), (MP s B d)[j]? = some p → (FD s B d)[j]? = some w → w = win (B.getD j 0) p ∧ p.1 ≠ p.2
  | 0, _, j, p, w, h, _ => by simp [MP] at h
  | d + 1, hd, j, p, w, h1, h2 => by
    have h1 : (MP s B d ++ prs (PL s B d))[j]? = some p := h1
    rw [FD_succ] at h2
    by_cases z : j < (FD s B d).length
    · rw [List.getElem?_append_left (by rw [MP_len]; exact z)] at h1
      rw [List.getElem?_append_left z] at h2
      exact MP_win s B d (by omega) j p w h1 h2
    · rw [List.getElem?_append_right (by rw [MP_len]; omega), MP_len] at h1
      rw [List.getElem?_append_right (by omega)] at h2
      obtain ⟨i, hi⟩ : ∃ i, j - (FD s B d).length = i := ⟨_, rfl⟩
      have hj : j = (FD s B d).length + i := by omega
      subst hj
      rw [show (FD s B d).length + i - (FD s B d).length = i by omega] at h1 h2
      have il := (List.getElem?_eq_some_iff.mp h1).1
      rw [prs_len] at il
      unfold prs at h1
      rw [List.getElem?_map, List.getElem?_range il] at h1
      rw [PL_succ] at h2
      unfold rnd at h2
      rw [List.getElem?_map, List.getElem?_range il] at h2
      have e1 : prAt (PL s B d) i = p := Option.some.inj h1
      have e2 : win ((B.drop (FD s B d).length).getD i 0) (prAt (PL s B d) i) = w := Option.some.inj h2
      have e3 : (B.drop (FD s B d).length).getD i 0 = B.getD ((FD s B d).length + i) 0 := by
        rw [List.getD_eq_getElem?_getD, List.getD_eq_getElem?_getD, List.getElem?_drop]
      rw [← e1, ← e2, e3]
      refine ⟨rfl, fun q => ?_⟩
      have pl := PL_len (s := s) (B := B) (d := d) (by omega)
      have hp := pow_half (s := s) (d := d) (by omega)
      have := getD_inj (PL_nd s B d) (a := i) (b := (PL s B d).length - 1 - i) (by omega) (by omega) q
      omega
theorem sorted_two {a b : Int} {ms : List Int} (h : ms.Perm [a, b]) (s : ms.Pairwise (· ≤ ·)) : ms = [min a b, max a b] := by
  match ms, h.length_eq with
  | [x, y], _ =>
    have hxy : x ≤ y := by simpa using s
    have hx := h.mem_iff (a := x)
    have hy := h.mem_iff (a := y)
    have ha := h.mem_iff (a := a)
    have hb := h.mem_iff (a := b)
    simp at hx hy ha hb
    have e1 : x = min a b := by omega
    have e2 : y = max a b := by omega
    rw [e1, e2]
theorem zw_app {a b c d : List V} (h : a.length = c.length) : zw (a ++ b) (c ++ d) = zw a c ++ zw b d := by
  unfold zw
  exact List.zipWith_append h
theorem RefsTo.app {H : Hp} {as bs : List Addr} {us vs : List (List V)} (r : RefsTo H as us) (q : RefsTo H bs vs) : RefsTo H (as ++ bs) (us ++ vs) := by
  refine ⟨by rw [List.length_append, List.length_append, r.1, q.1], fun j a v h1 h2 => ?_⟩
  by_cases hj : j < as.length
  · rw [List.getElem?_append_left hj] at h1
    rw [List.getElem?_append_left (by rw [← r.1]; exact hj)] at h2
    exact r.2 j a v h1 h2
  · rw [List.getElem?_append_right (by omega)] at h1
    rw [List.getElem?_append_right (by rw [← r.1]; omega), ← r.1] at h2
    exact q.2 _ a v h1 h2
theorem FD_full {s : Nat} {B : List Int} : (FD s B s).length + 1 = 2 ^ s := by
  have := FD_len (s := s) (B := B) (d := s) (Nat.le_refl _)
  rw [Nat.sub_self] at this
  omega
end SC

set_option Elab.async false
set_option linter.all false
set_option maxHeartbeats 4000000
/-! max, min of a pair; steps for tuples in lists. -/
namespace SC
open PySem PySem.Spec PyProof.Rows L2
section
variable {X : Cx}
def rMaxT (K : PySem.W.Frag) : List V → Hp → VK → Prop := fun vs H Q => ∃ (a : Addr) (i j : Int), vs = [V.ref a] ∧ SqT K H a [.int i, .int j] ∧ Q (.int (max i j)) H
def rMinT (K : PySem.W.Frag) : List V → Hp → VK → Prop := fun vs H Q => ∃ (a : Addr) (i j : Int), vs = [V.ref a] ∧ SqT K H a [.int i, .int j] ∧ Q (.int (min i j)) H
def two (i j : Int) (k : Nat) : Int := if k = 0 then i else j
theorem two_at {i j : Int} {t u : Tok} {k : Nat} {v : Value} (h : ([.int i t, .int j u] : List Value).toArray[k]? = some v) : ∃ t', v = .int (two i j k) t' := by
  match k, h with
  | 0, h => exact ⟨t, by simpa [two] using h.symm⟩
  | 1, h => exact ⟨u, by simpa [two] using h.symm⟩
  | k + 2, h => simp at h
theorem pair_vals {i j : Int} {its : List Value} (rv : Vals [.int i, .int j] its) : ∃ t u, its = [.int i t, .int j u] := by
  cases rv with
  | cons r1 rr =>
    cases rr with
    | cons r2 rr =>
      cases rr
      obtain ⟨t, rfl⟩ := r1
      obtain ⟨u, rfl⟩ := r2
      exact ⟨t, u, rfl⟩
theorem cr_maxT (hc : X.calm = true) : CallR X (.builtin "max") (rMaxT X.K) := by
  intro pins s σ H vs us Q I r h
  obtain ⟨a, i, j, rfl, ht, q⟩ := h
  obtain ⟨its, rv, p, _⟩ := I.tuple ht
  rw [Vals.ref1 r]
  obtain ⟨t, u, rfl⟩ := pair_vals rv
  have hla : a ≠ s.heap.objs.size := Nat.ne_of_lt p.lt
  have pT : s.heap.IsTuple a ([.int i t, .int j u] : List Value).toArray := p
  refine call_max_walk (wpAny_pyIter_tuple pT ?_)
  refine ⟨s.heap.objs.size, _, _, _, _, _, _, rfl, Walks.tuple (A := X.A.in1) (I.ok.hd hc) _ a hla ([.int i t, .int j u] : List Value).toArray, ⟨⟨_, Heap.get?_push_size _ rfl, rfl, rfl⟩, pT.push _⟩, fun b hb => ?_, by simp, CmpOf.ints_gt (two i j) (fun _ _ => two_at), fun v h' tk hP hk => ?_⟩
  · show b < (s.heap.push _).objs.size
    rw [Heap.size_push]
    rcases List.mem_cons.mp hb with rfl | hb
    · exact Nat.lt_succ_self _
    · rw [List.mem_singleton.mp hb]
      exact Nat.lt_succ_of_lt p.lt
  · obtain ⟨t', rfl⟩ := two_at hP
    refine ⟨.int _, H, I.kept (t' := tk) fun b o e => hk b o (fun z => ?_) (Heap.get?_push_of_some _ e), ⟨t', ?_⟩, q⟩
    · rw [List.mem_singleton.mp z] at e
      exact absurd (Heap.lt_size e) (Nat.lt_irrefl _)
    · congr 1
      show two i j (if decide (two i j 1 > two i j 0) = true then 1 else 0) = max i j
      unfold two
      by_cases z : j > i
      · simp [z]; omega
      · simp [z]; omega
theorem cr_minT (hc : X.calm = true) : CallR X (.builtin "min") (rMinT X.K) := by
  intro pins s σ H vs us Q I r h
  obtain ⟨a, i, j, rfl, ht, q⟩ := h
  obtain ⟨its, rv, p, _⟩ := I.tuple ht
  rw [Vals.ref1 r]
  obtain ⟨t, u, rfl⟩ := pair_vals rv
  have hla : a ≠ s.heap.objs.size := Nat.ne_of_lt p.lt
  have pT : s.heap.IsTuple a ([.int i t, .int j u] : List Value).toArray := p
  refine call_min_walk (wpAny_pyIter_tuple pT ?_)
  refine ⟨s.heap.objs.size, _, _, _, _, _, _, rfl, Walks.tuple (A := X.A.in1) (I.ok.hd hc) _ a hla ([.int i t, .int j u] : List Value).toArray, ⟨⟨_, Heap.get?_push_size _ rfl, rfl, rfl⟩, pT.push _⟩, fun b hb => ?_, by simp, CmpOf.ints_lt (two i j) (fun _ _ => two_at), fun v h' tk hP hk => ?_⟩
  · show b < (s.heap.push _).objs.size
    rw [Heap.size_push]
    rcases List.mem_cons.mp hb with rfl | hb
    · exact Nat.lt_succ_self _
    · rw [List.mem_singleton.mp hb]
      exact Nat.lt_succ_of_lt p.lt
  · obtain ⟨t', rfl⟩ := two_at hP
    refine ⟨.int _, H, I.kept (t' := tk) fun b o e => hk b o (fun z => ?_) (Heap.get?_push_of_some _ e), ⟨t', ?_⟩, q⟩
    · rw [List.mem_singleton.mp z] at e
      exact absurd (Heap.lt_size e) (Nat.lt_irrefl _)
    · congr 1
      show two i j (if decide (two i j 1 < two i j 0) = true then 1 else 0) = min i j
      unfold two
      by_cases z : j < i
      · simp [z]; omega
      · simp [z]; omega
end
section
variable {K : PySem.W.Frag} {H : Hp} {Q : VK} {a : Addr} {i j : Int}
theorem w_maxT (h : SqT K H a [.int i, .int j]) (k : Q (.int (max i j)) H) : rMaxT K [.ref a] H Q := ⟨a, i, j, rfl, h, k⟩
theorem w_minT (h : SqT K H a [.int i, .int j]) (k : Q (.int (min i j)) H) : rMinT K [.ref a] H Q := ⟨a, i, j, rfl, h, k⟩
theorem w_extend {p b : Addr} {xs zs : List V} (h : H p = some (.lst xs)) (hb : H b = some (.lst zs)) (hz : xs.length + zs.length ≤ 1000000) (k : Q .non (upd H p (.lst (xs ++ zs)))) : rExtend (.ref p) [.ref b] H Q :=
  ⟨p, b, xs, zs, rfl, rfl, h, hb, Nat.le_trans hz (by decide), k⟩
theorem w_lz {ta : TA} {σ : L2.St} (k : ta σ H fun vs H1 => LzB K vs H1 Q) : tLz K ta σ H Q := k
theorem w_lzb {b : Addr} {xs ys : List V} (hx : SqL K H a xs) (hy : SqL K H b ys) (hl : xs.length = ys.length) (k : ∀ p H2 ads, H p = none → Sm H H2 → H2 p = some (.lst (ads.map V.ref)) → RefsTo H2 ads (zw xs ys) → Q (.ref p) H2) : LzB K [.ref a, .ref b] H Q := ⟨a, b, xs, ys, rfl, hx, hy, hl, k⟩
theorem w_gx {b0 : Bool} {P : Addr} {tl te : TE} {g : TG} {vs : List Nat} {σ : L2.St} (k : tl σ H fun x H1 => ∃ a, x = .ref a ∧ (∃ xs, SqL K H1 a xs) ∧ GxB b0 P (Itl K a) g te vs σ H1 Q) : tGx b0 P (iList K tl) g te vs σ H Q := k
theorem w_inT {x : Int} (h : SqT K H a [.int i, .int j]) (k : Q (.bl (decide (x = i ∨ x = j))) H) : rIn K false (.int x) (.ref a) H Q := by
  refine ⟨a, [.int i, .int j], rfl, .inr h, rfl, rfl, ?_⟩
  have e := inV_int (x := x) [i, j]
  have e2 : inV (.int x) [.int i, .int j] = decide (x = i ∨ x = j) := by
    refine e.trans ?_
    simp
  show Q (.bl (inV (.int x) [.int i, .int j])) H
  rw [e2]
  exact k
end

theorem atI_neg {α : Type} {xs : List α} {i : Nat} {v : α} (hi : i < xs.length) (h : xs[xs.length - 1 - i]? = some v) : atI xs (-1 - (i : Int)) = some v := by
  unfold atI ixN
  rw [if_neg (by omega), if_pos (by omega)]
  show xs[(-1 - (i : Int) + xs.length).toNat]? = some v
  rw [show (-1 - (i : Int) + xs.length).toNat = xs.length - 1 - i by omega]
  exact h
theorem w_rg2 {H : Hp} {Q : VK} {i j : Int} (h0 : 0 ≤ i) (h1 : i ≤ j) (h2 : j ≤ 1000000) (k : ∀ q H', Sm H H' → H q = none → H' q = some (.lst (((List.range (j - i).toNat).map fun n : Nat => i + (n : Int)).map V.int)) → Q (.ref q) H') : ∃ m n, V.int i = .int m ∧ V.int j = .int n ∧ LstRg m n H Q :=
  ⟨i, j, rfl, rfl, RgOk.of_le (by omega) (by omega) (by omega) (by omega), fun q hq => k q _ (same_upd hq) hq (by
    rw [upd_same]
    unfold rgV
    rw [List.map_map]
    rfl)⟩
theorem getI {ps : List Int} {i : Nat} (h : i < ps.length) : (ps.map V.int)[i]? = some (.int (ps.getD i 0)) := by
  rw [List.getElem?_map, List.getD_eq_getElem?_getD, List.getElem?_eq_getElem h]
  rfl
theorem tabIn_of {K : PySem.W.Frag} {x : Str} {f c P : Addr} {c1 c2 : Value} {d1 d2 : Option Addr} {s1 s2 : Array (Option Value)} {fd : FuncData} {vs : Array Value} (e1 : PySem.W.nsIn K mainGlobals x = some (some (.ref f))) (e2 : K.lookup f = some ⟨c1, d1, .func fd, s1⟩) (e3 : fd.code = .ref c) (e4 : K.lookup c = some ⟨c2, d2, .fields vs, s2⟩) (e5 : (vs[11]? : Option Value) = some (.ref P)) : PySem.W.tabIn K x = some (c, P) := by
  unfold PySem.W.tabIn
  rw [e1]
  dsimp only
  rw [e2]
  dsimp only
  rw [e3]
  dsimp only
  rw [e4]
  dsimp only
  rw [e5]
end SC

set_option Elab.async false
set_option linter.all false
set_option maxHeartbeats 4000000
/-! a < b of two lists of ints; rows of bits. -/
namespace SC
open PySem PySem.Spec PyProof.Rows L2
def ltN (ns ms : List Int) : Bool := SeqAt.firstLt (fun j => decide (ns.getD j 0 = ms.getD j 0)) (fun j => decide (ns.getD j 0 < ms.getD j 0)) (decide (ns.length < ms.length)) (List.range (min ns.length ms.length))
def rLtL (K : PySem.W.Frag) : R2 := fun x y H Q => ∃ (a b : Addr) (ns ms : List Int), x = .ref a ∧ y = .ref b ∧ SqL K H a (ns.map V.int) ∧ SqL K H b (ms.map V.int) ∧ Q (.bl (ltN ns ms)) H
theorem op_ltL {X : Cx} (hu0 : X.A.units + 64 < cLine) : OpR X (compareOp .Lt) (rLtL X.K) := by
  intro pins s σ H x y v u Q I rx ry h
  have hu : X.A.units < cLine := by omega
  obtain ⟨a, b, ns, ms, rfl, rfl, ha, hb, q⟩ := h
  cases rx
  cases ry
  obtain ⟨its, r1, p1, _⟩ := I.list ha
  obtain ⟨its2, r2, p2, _⟩ := I.list hb
  have i1 : IntsAre its ns := Vals.ints r1
  have i2 : IntsAre its2 ms := Vals.ints r2
  have e1 : its.toArray.size = ns.length := by rw [List.size_toArray]; exact i1.length
  have e2 : its2.toArray.size = ms.length := by rw [List.size_toArray]; exact i2.length
  have at1 : ∀ j (h1 : j < its.toArray.size), ∃ t, its.toArray[j] = .int (ns.getD j 0) t := fun j h1 => PyProof.Rows.IntsAre.int_at i1 _ _ (by simp at h1; simp [h1])
  have at2 : ∀ j (h1 : j < its2.toArray.size), ∃ t, its2.toArray[j] = .int (ms.getD j 0) t := fun j h1 => PyProof.Rows.IntsAre.int_at i2 _ _ (by simp at h1; simp [h1])
  have R := SeqAt.RcLt.lists (A := X.A) (s := s) (e := fun j => decide (ns.getD j 0 = ms.getD j 0)) (r := fun j => decide (ns.getD j 0 < ms.getD j 0)) p1.isList p2.isList hu (fun j h1 h2 => by
    obtain ⟨t, et⟩ := at1 j h1
    obtain ⟨t', et'⟩ := at2 j h2
    rw [et, et']
    have z : (ns.getD j 0 == ms.getD j 0) = decide (ns.getD j 0 = ms.getD j 0) := by
      by_cases q : ns.getD j 0 = ms.getD j 0
      · rw [decide_eq_true q]; exact beq_iff_eq.mpr q
      · rw [decide_eq_false q]; exact beq_eq_false_iff_ne.mpr q
    rw [← z]
    exact SeqAt.EqAt.int_int _ _ _ _) (fun j h1 h2 _ => by
    obtain ⟨t, et⟩ := at1 j h1
    obtain ⟨t', et'⟩ := at2 j h2
    rw [et, et']
    exact fun _ _ _ _ h => PyProof.Rows.lt_int h)
  rw [e1, e2] at R
  have z : wpAny (model X.prog X.w) X.A (compareOp .Lt (.ref a) (.ref b)) (EP X pins σ Q) X.xe s := R X.prog X.w X.xe (EP X pins σ Q) ⟨.bl _, H, I, rfl, q⟩
  exact z
theorem w_ltL {K : PySem.W.Frag} {H : Hp} {Q : VK} {a b : Addr} {ns ms : List Int} (h1 : SqL K H a (ns.map V.int)) (h2 : SqL K H b (ms.map V.int)) (k : Q (.bl (ltN ns ms)) H) : rLtL K (.ref a) (.ref b) H Q := ⟨a, b, ns, ms, rfl, rfl, h1, h2, k⟩
theorem firstLt_map {e r : Nat → Bool} {z : Bool} (l : List Nat) : SeqAt.firstLt e r z (l.map Nat.succ) = SeqAt.firstLt (fun j => e (j + 1)) (fun j => r (j + 1)) z l := by
  induction l with
  | nil => rfl
  | cons j t ih =>
    rw [List.map_cons]
    unfold SeqAt.firstLt
    rw [ih]
theorem num_cons {b : Int} {B : List Int} : num (b :: B) = b * 2 ^ B.length + num B := by
  have h : ∀ (B : List Int) (a : Int), B.foldl (fun a b => 2 * a + b) a = a * 2 ^ B.length + num B := by
    intro B
    induction B with
    | nil => intro a; simp [num]
    | cons c B ih =>
      intro a
      rw [List.foldl_cons, ih]
      have e : num (c :: B) = c * 2 ^ B.length + num B := by
        show B.foldl (fun a b => 2 * a + b) (2 * 0 + c) = _
        rw [ih, show (2 : Int) * 0 + c = c by omega]
      rw [e, List.length_cons, Int.pow_succ, Int.add_mul, show 2 * a * 2 ^ B.length = a * (2 ^ B.length * 2) by rw [Int.mul_comm 2 a, Int.mul_assoc, Int.mul_comm 2 ((2 : Int) ^ B.length)]]
      omega
  unfold num
  rw [List.foldl_cons, h]
  rw [show (2 : Int) * 0 + b = b by omega]
  rfl
theorem ltN_num : ∀ {ns ms : List Int}, ns.length = ms.length → Bits ns → Bits ms → ltN ns ms = decide (num ns < num ms)
  | [], [], _, _, _ => rfl
  | a :: ns, b :: ms, hl, h1, h2 => by
    have hl2 : ns.length = ms.length := by simpa using hl
    have b1 : Bits ns := fun x hx => h1 x (List.mem_cons_of_mem _ hx)
    have b2 : Bits ms := fun x hx => h2 x (List.mem_cons_of_mem _ hx)
    have ih := ltN_num hl2 b1 b2
    have r1 := num_range b1
    have r2 := num_range b2
    rw [num_cons, num_cons]
    unfold ltN at ih ⊢
    rw [hl2] at ih r1 ⊢
    rw [Nat.min_self] at ih
    rw [show min (a :: ns).length (b :: ms).length = ms.length + 1 by simp [hl2], List.range_succ_eq_map]
    have f0 : decide ((a :: ns).length < (b :: ms).length) = decide (ms.length < ms.length) := by simp [hl2]
    rw [f0]
    by_cases c : a = b
    · rw [SeqAt.firstLt_yes (by simpa using c), firstLt_map]
      have e := ih
      simp only [List.getD_cons_succ]
      rw [e, c]
      by_cases z : num ns < num ms
      · rw [decide_eq_true z, decide_eq_true (by omega)]
      · rw [decide_eq_false z, decide_eq_false (by omega)]
    · rw [SeqAt.firstLt_no (by simpa using c)]
      simp only [List.getD_cons_zero]
      rcases h1 a (List.mem_cons_self ..) with rfl | rfl <;> rcases h2 b (List.mem_cons_self ..) with rfl | rfl
      · exact absurd rfl c
      · rw [decide_eq_true (by omega), decide_eq_true (by omega)]
      · rw [decide_eq_false (by omega), decide_eq_false (by omega)]
      · exact absurd rfl c
theorem num_zeros (n : Nat) : num (List.replicate n 0) = 0 := by
  induction n with
  | zero => rfl
  | succ n ih => rw [List.replicate_succ, num_cons, ih]; omega
theorem num_ones (n : Nat) : num (List.replicate n 1) = 2 ^ n - 1 := by
  induction n with
  | zero => rfl
  | succ n ih => rw [List.replicate_succ, num_cons, ih, List.length_replicate, Int.pow_succ]; omega
theorem bits_rep {n : Nat} {b : Int} (h : b = 0 ∨ b = 1) : Bits (List.replicate n b) := fun x hx => by rw [List.eq_of_mem_replicate hx]; exact h
theorem bits_snoc {bs : List Int} {r : Int} (h : Bits bs) (hr : r = 0 ∨ r = 1) : Bits (bs ++ [r]) := fun b hb => by
  rcases List.mem_append.mp hb with hb | hb
  · exact h b hb
  · rw [List.mem_singleton.mp hb]; exact hr
theorem rep_flat {n : Int} {b : Int} : (List.replicate n.toNat [V.int b]).flatten = (List.replicate n.toNat b).map V.int := by
  generalize n.toNat = k
  induction k with
  | zero => rfl
  | succ k ih => rw [List.replicate_succ, List.replicate_succ, List.flatten_cons, ih]; rfl
theorem kp_updF {a D : Addr} {H H2 : Hp} {o : HO} (g : Kp a H H2) (hD : H D = none) : Kp a H (L2.upd H2 D o) := ⟨fun b x _ n q => by
  rw [upd_ne (ne_of_none q hD)]
  exact g b x n q, fun b n q => tabG_upd (tabG_ne hD q) (g.tb b n q), fun b n q => g.fr b n (fr_upd q).2⟩
end SC

set_option Elab.async false
set_option linter.all false
set_option maxRecDepth 100000
set_option maxHeartbeats 4000000
/-! A dict comprehension whose keys are tuples. -/
namespace SC
open PySem PySem.Spec PyProof.Rows L2
section
variable {X : Cx} {pins : List (Addr × Obj)} {σ : L2.St} {H H' : Hp} {s : Shared} {E : Value → Shared → Prop} {D : Addr} {y v : V} {u r : Value}
/-- the put of a comprehension, whatever kind its keys are of -/
theorem put_comp {Q : Unit → Shared → Prop} (hu : X.A.units < cLine) (I : L2.Inv X pins σ H s) (g : DPut H D y v H') (ry : RelV y u) (rv : RelV v r) (h : ∀ s', L2.Inv X pins σ H' s' → Q () s') : wpAny (model X.prog X.w) X.A (dictSet D u r) Q E s := by
  rcases g with ⟨kvs, k, e, ey, l, eH⟩ | ⟨kvs, k, b, e, ey, eb, l, eH⟩
  · subst ey eH
    exact d_dictSet I e l ry rv h
  · subst ey eH
    cases (show u = Value.ref b from ry)
    obtain ⟨z, hd, xs, rel, dd⟩ := dt_of I.hok e
    have z1 : xs.length ≤ sizeLine := by rw [← Paired.length rel]; exact z
    have z2 : (putK kvs k v).length ≤ sizeLine := by have := length_putK kvs k v; omega
    refine wpAny_dictSet_heap (hsz := z1) (knd := tupleKind (mixKind X.prog X.w)) hu (key_of I.hok eb) dd fun h' dd' hs => h _ ?_
    obtain ⟨q, es, ep, hq, w2, w3, w4, _, w5⟩ := dd'
    refine d_write I (by rw [e]; exact True.intro) hs ⟨q, hq⟩ ⟨z2, hd, _, (rel.put k eb rv).keeps fun c ys ec => ?_, q, es, ep, hq, w2, w3, w4, w5⟩
    rw [upd_ne (ne_of ec e (fun z => nomatch z))]
    exact ec
end
section
variable {X : Cx} {kx vx tg iter : Expr} {ifs : List Expr} {scope : Scope} {own : List (Str × Nat)} {wi : TI} {g : TG} {tt : TT} {tk tv : TE}
/-- {k: v for target in iter if ..}, the keys tuples; W a word by the turn and a measure, Nx what a turn is to reach -/
def tDcT (wi : TI) (g : TG) (tt : TT) (tk tv : TE) (vs : List Nat) : TE := fun σ H Q => wi σ H fun J H1 => ∀ D, H1 D = none → ∃ W : Nat → Nat → Hp → Prop, (∃ m, W 0 m (L2.upd H1 D (.dT []))) ∧ ∀ i m H, W i m H →
  (J.stop i H ∧ Q (.ref D) H) ∨ (J.go i H ∧ ∃ Nx : Hp → Prop, (∀ H', Nx H' → ∃ m', m' < m ∧ W (i + 1) m' H') ∧ ∀ x H', J.yld i H x H' → g x (wipe σ vs) H' fun σ2 H2 => wipe σ2 vs = wipe σ vs ∧ tt σ2 H2 fun b H3 =>
    if b = true then tk σ2 H3 fun y H4 => tv σ2 H4 fun z H5 => ∃ H6, DPut H5 D y z H6 ∧ Nx H6 else Nx H3)
/-- the turns, in the block's own context -/
theorem dcT_loop {s3 s4 : Shared} {H3 H4 : Hp} {ce : Env} {σ : L2.St} {it D : Addr} {fp : List Addr} {tn : Nat → Heap → Prop} {J : It} {W : Nat → Nat → Hp → Prop} {m0 : Nat} {pos : Pos} {R : Result → Shared → Prop} {vs : List Nat} {Qs : Hp → Prop}
    (hu : X.A.units < cLine) (hc : X.calm = true) (T : Turn X.prog X.w X.K tg J fp it tn)
    (pg : PG (X.blk s3 H3 scope ce fp) tg g) (pt : PTs (X.blk s3 H3 scope ce fp) ifs tt) (pk : PE (X.blk s3 H3 scope ce fp) kx tk) (pv : PE (X.blk s3 H3 scope ce fp) vx tv)
    (I0 : L2.Inv (X.blk s3 H3 scope ce fp) [] (wipe σ vs) H4 s4) (st0 : tn 0 s4.heap) (n0 : ∀ b ∈ fp, H4 b = none) (w0 : W 0 m0 H4)
    (turn : ∀ i m H, W i m H → (J.stop i H ∧ Qs H) ∨ (J.go i H ∧ ∃ Nx : Hp → Prop, (∀ H', Nx H' → ∃ m', m' < m ∧ W (i + 1) m' H') ∧ ∀ x H', J.yld i H x H' → g x (wipe σ vs) H' fun σ2 H2 => wipe σ2 vs = wipe σ vs ∧ tt σ2 H2 fun b H3 =>
      if b = true then tk σ2 H3 fun y H4 => tv σ2 H4 fun z H5 => ∃ H6, DPut H5 D y z H6 ∧ Nx H6 else Nx H3))
    (fin : ∀ s' H', L2.Inv (X.blk s3 H3 scope ce fp) [] (wipe σ vs) H' s' → Qs H' → R (.ok .next) s') :
    codeAny (model X.prog X.w) X.A (.compLoop (.DictComp kx vx [⟨tg, iter, ifs, 0⟩] scope pos) 0 (.ref it) (.ref D) ce) R s4 := by
  have fpo : ∀ {H' : Hp} {s' : Shared}, L2.Inv (X.blk s3 H3 scope ce fp) [] (wipe σ vs) H' s' → (∀ b ∈ fp, H' b = none) → ∀ b ∈ fp, FpOk (X.blk s3 H3 scope ce fp) [] H' b := fun {H' s'} I' hn b hb =>
    ⟨hn b hb, (I'.ok.exf b hb).1, I'.ok.exfs b hb, .inl hb, fun x c e => (I'.ok.exf b hb).2 x c e, fun p hp => absurd (show p ∈ ([] : List (Addr × Obj)) ++ [] from hp) (by simp)⟩
  refine compLoop_anyD (fun n s' => ∃ i H', L2.Inv (X.blk s3 H3 scope ce fp) [] (wipe σ vs) H' s' ∧ tn i s'.heap ∧ (∀ b ∈ fp, H' b = none) ∧ W i n H') ?_ m0 ⟨0, H4, I0, st0, n0, w0⟩
  rintro n sa ⟨i, Ha, Ia, sta, na, wa⟩
  rcases turn i n Ha wa with ⟨stop, q⟩ | ⟨go, Nx, hNx, step⟩
  · refine thnF (T.done (X.blk s3 H3 scope ce fp) rfl rfl rfl hc i [] sa _ Ha (fun _ _ => False) Ia (fpo Ia na) sta stop) fun r sb ⟨hr, Ib⟩ => ?_
    subst hr
    exact fin sb Ha Ib q
  refine thnF (T.item (X.blk s3 H3 scope ce fp) rfl rfl rfl hc i [] sa _ Ha (fun _ _ => False) Ia (fpo Ia na) sta go) fun r sb ⟨u, hr, hb⟩ => ?_
  subst hr
  refine thnF hb fun _ sc ⟨x, Hc, Ic, rc, yc, stc, nc⟩ => ?_
  refine thnF (pg.run _ sc _ Hc x u _ (Ic.pinned (fpo Ic nc) (T.obj _ _ stc)) rc (step x Hc yc)) fun _ sd ⟨σd, Hd, Id, wd, qd⟩ => ?_
  refine thnF (pt.run _ sd σd Hd _ Id qd) fun b se ⟨He, Ie, qe⟩ => ?_
  have again : ∀ s' H', L2.Inv (X.blk s3 H3 scope ce fp) ([] ++ pinsAt fp sc.heap) σd H' s' → Nx H' → ∃ m, m < n ∧ ∃ i H', L2.Inv (X.blk s3 H3 scope ce fp) [] (wipe σ vs) H' s' ∧ tn i s'.heap ∧ (∀ b ∈ fp, H' b = none) ∧ W i m H' := fun s' H' I' nx => by
    obtain ⟨m', hm, w'⟩ := hNx H' nx
    have kept : ∀ b ∈ fp, ∀ o, sc.heap.get? b = some o → s'.heap.get? b = some o ∧ H' b = none := fun b hb o e => by
      have z := I'.pin (b, o) (List.mem_append_right _ (List.mem_append_right _ (mem_pinsAt hb e)))
      exact ⟨z.1, z.2.1⟩
    have len : (wipe σ vs).length = σd.length := by rw [← wd, wipe_length]
    refine ⟨m', hm, i + 1, H', (I'.unpinned (pins := [])).weak len (fun j v e => ?_), T.keep _ _ _ stc fun b hb o e => (kept b hb o e).1, fun b hb => ?_, w'⟩
    · rw [← wd] at e
      exact (wipe_some e).1
    · obtain ⟨o, e, _⟩ := T.obj _ _ stc b hb
      exact (kept b hb o e).2
  cases b with
  | false => exact again se He Ie (by simpa using qe)
  | true =>
    rw [if_pos rfl] at qe ⊢
    refine thnF (pk.run _ se σd He _ Ie qe) fun kv sf ⟨yk, Hf, If, rf, qf⟩ => ?_
    refine thnF (pv.run _ sf σd Hf _ If qf) fun vv sg ⟨yv, Hg, Ig, rg, H6, pu, nx⟩ => ?_
    exact put_comp (X := X.blk s3 H3 scope ce fp) hu Ig pu rf rg fun sh Ih => again sh H6 Ih nx
/-- the comprehension, whatever is done with the dict -/
theorem dcT_core {pins : List (Addr × Obj)} {s : Shared} {σ : L2.St} {H : Hp} {Q : VK} {pos pos' : Pos} {use : Option (Value → Sem Unit)} {Qf : Value → Shared → Prop} (hu : X.A.units < cLine) (hc : X.calm = true) (hN : X.N.Nodup) (I : L2.Inv X pins σ H s) (hi : PI X tg iter wi) (ok : BlkOk X.N X.env.scope scope own)
    (hg : ∀ (s : Shared) (H : Hp) (C : Addr) (cl : List (Str × Addr)) (fp : List Addr), PG (X.blk s H scope (compEnvC scope cl C X.env) fp) tg g)
    (ht : ∀ (s : Shared) (H : Hp) (C : Addr) (cl : List (Str × Addr)) (fp : List Addr), PTs (X.blk s H scope (compEnvC scope cl C X.env) fp) ifs tt)
    (hk : ∀ (s : Shared) (H : Hp) (C : Addr) (cl : List (Str × Addr)) (fp : List Addr), PE (X.blk s H scope (compEnvC scope cl C X.env) fp) kx tk)
    (he : ∀ (s : Shared) (H : Hp) (C : Addr) (cl : List (Str × Addr)) (fp : List Addr), PE (X.blk s H scope (compEnvC scope cl C X.env) fp) vx tv)
    (hs : ∀ x, foldedSetIterable iter X.env x = pure x) (h : tDcT wi g tt tk tv (own.map (·.2)) σ H Q)
    (hend : ∀ D C s' m H', L2.Inv X pins σ H' s' → Q (.ref D) H' → s'.heap.Ns C m → FpOk X pins H' C → compPost (model X.prog X.w) X.A X.xe use Qf (.ref D) C (.ok .next) s') :
    wpAny (model X.prog X.w) X.A (comprehension (.DictComp kx vx [⟨tg, iter, ifs, 0⟩] scope pos) scope X.env pos' newDict false (eval iter X.env) use) Qf X.xe s := by
  have hfree : ∀ y ∈ scope.names, y.2 = .free → ∃ c, X.env.cells.lookup y.1 = some c := fun y hy e => by
    rcases ok.free y hy e with k | k
    · exact I.ok.has _ (.inl k)
    · exact I.ok.has _ (.inr k)
  refine wpAny_comprehension_free (use := use) rfl hs (closure_ok hfree) ok.kind (fun y hy e => by rw [ok.uniq y hy, e]) (thn (hi.run pins s σ H _ I h) fun xv s1 hx => thn hx fun itv s2 h2 => ?_)
  obtain ⟨it, fp, tn, J, H2, e, I2, T, st2, f2, q⟩ := h2
  subst e
  refine wpAny_newObj_type (newEnv_comp ?_)
  obtain ⟨D, hD⟩ : ∃ D, s2.heap.objs.size = D := ⟨_, rfl⟩
  rw [hD]
  obtain ⟨W, ⟨m0, w0⟩, turn⟩ := q D (I2.hok.fresh (Nat.le_of_eq hD))
  obtain ⟨s3, hs3⟩ : ∃ s3 : Shared, ({ s2 with heap := s2.heap.push { cls := .type "dict", data := .dict #[] } } : Shared) = s3 := ⟨_, rfl⟩
  obtain ⟨H3, hH3⟩ : ∃ H3, L2.upd H2 D (.dT []) = H3 := ⟨_, rfl⟩
  rw [hH3] at w0
  have push : s3.heap = s2.heap.push { cls := .type "dict", data := .dict #[] } := by rw [← hs3]
  have old : ∀ b o, s2.heap.get? b = some o → s3.heap.get? b = some o := fun b o e => by rw [push]; exact Heap.get?_push_of_some _ e
  have I3 : L2.Inv X pins σ H3 s3 := by
    rw [← hH3, ← hs3]
    refine I2.laid (t' := s2.toks) (fun b o e => Heap.get?_push_of_some _ e) (Nat.le_of_eq hD) ?_
    rw [← hD]
    exact dt_empty s2.heap I2.big
  have f3 : ∀ b ∈ fp, FpOk X pins H3 b ∧ b < s3.heap.objs.size := fun b hb => by
    obtain ⟨o, e, _⟩ := T.obj _ _ st2 b hb
    have lt : b < s2.heap.objs.size := Heap.lt_size e
    refine ⟨⟨?_, (f2 b hb).2⟩, by rw [push, Heap.size_push]; exact Nat.lt_succ_of_lt lt⟩
    rw [← hH3, upd_ne (by rw [← hD]; exact Nat.ne_of_lt lt)]
    exact (f2 b hb).1
  have st3 : tn 0 s3.heap := T.keep _ _ _ st2 fun b _ o e => old b o e
  have I4 := block_start I3 ok hN f3
  have pg := hg s3 H3 s3.heap.objs.size (cellsFrom (s3.heap.objs.size + 1) scope.names (cloFrom X.env.cells scope.names [])) fp
  have pt := ht s3 H3 s3.heap.objs.size (cellsFrom (s3.heap.objs.size + 1) scope.names (cloFrom X.env.cells scope.names [])) fp
  have pk := hk s3 H3 s3.heap.objs.size (cellsFrom (s3.heap.objs.size + 1) scope.names (cloFrom X.env.cells scope.names [])) fp
  have pv := he s3 H3 s3.heap.objs.size (cellsFrom (s3.heap.objs.size + 1) scope.names (cloFrom X.env.cells scope.names [])) fp
  rw [hs3]
  show codeAny _ _ (.compStart (.DictComp kx vx [⟨tg, iter, ifs, 0⟩] scope pos) 0 (.ref it) (.ref D) (compEnvC scope (cellsFrom (s3.heap.objs.size + 1) scope.names (cloFrom X.env.cells scope.names [])) s3.heap.objs.size X.env)) (compPost (model X.prog X.w) X.A X.xe use Qf (.ref D) s3.heap.objs.size) { s3 with heap := pushCells (s3.heap.push { cls := .type "dict", data := .dict #[] }) scope.names }
  have cL : (compEnvC scope (cellsFrom (s3.heap.objs.size + 1) scope.names (cloFrom X.env.cells scope.names [])) s3.heap.objs.size X.env).locals = s3.heap.objs.size := rfl
  generalize compEnvC scope (cellsFrom (s3.heap.objs.size + 1) scope.names (cloFrom X.env.cells scope.names [])) s3.heap.objs.size X.env = ce at I4 pg pt pk pv cL ⊢
  obtain ⟨s4, hs4⟩ : ∃ s4 : Shared, ({ s3 with heap := pushCells (s3.heap.push { cls := .type "dict", data := .dict #[] }) scope.names } : Shared) = s4 := ⟨_, rfl⟩
  rw [hs4] at I4
  have st4 : tn 0 s4.heap := T.keep _ _ _ st3 fun b _ o e => by rw [← hs4]; exact pushCells_keeps _ _ _ _ (Heap.get?_push_of_some _ e)
  rw [hs4]
  have loop := dcT_loop (X := X) (kx := kx) (vx := vx) (iter := iter) (pos := pos) (R := compPost (model X.prog X.w) X.A X.xe use Qf (.ref D) s3.heap.objs.size) hu hc T pg pt pk pv I4 st4 (fun b hb => (f3 b hb).1.1) w0 turn fun s' H' I' q' => by
    have I5 : L2.Inv X pins σ H' s' := I3.call' (ch := fp) I'.os I'.base I'.hok I'.bare fun b hb => ⟨(f3 b hb).1.2.2.2.1, (f3 b hb).1.2.1, (f3 b hb).1.2.2.2.2.1, (f3 b hb).1.2.2.2.2.2⟩
    have nC : H' s3.heap.objs.size = none := by
      have z : H' ce.locals = none := I'.free
      rw [cL] at z
      exact z
    obtain ⟨m, hn, _⟩ := I'.loc
    have hn : s'.heap.Ns ce.locals m := hn
    rw [cL] at hn
    exact hend D s3.heap.objs.size s' m H' I5 q' hn (I3.fpOk (Nat.le_refl _) nC)
  exact codeAny_compStart_dict loop (T.self X.A 0 _ _ _ st4 loop)
/-- as a value -/
theorem pe_dcT {pos : Pos} (hu : X.A.units < cLine) (hc : X.calm = true) (hN : X.N.Nodup) (hi : PI X tg iter wi) (ok : BlkOk X.N X.env.scope scope own)
    (hg : ∀ (s : Shared) (H : Hp) (C : Addr) (cl : List (Str × Addr)) (fp : List Addr), PG (X.blk s H scope (compEnvC scope cl C X.env) fp) tg g)
    (ht : ∀ (s : Shared) (H : Hp) (C : Addr) (cl : List (Str × Addr)) (fp : List Addr), PTs (X.blk s H scope (compEnvC scope cl C X.env) fp) ifs tt)
    (hk : ∀ (s : Shared) (H : Hp) (C : Addr) (cl : List (Str × Addr)) (fp : List Addr), PE (X.blk s H scope (compEnvC scope cl C X.env) fp) kx tk)
    (he : ∀ (s : Shared) (H : Hp) (C : Addr) (cl : List (Str × Addr)) (fp : List Addr), PE (X.blk s H scope (compEnvC scope cl C X.env) fp) vx tv)
    (hs : ∀ x, foldedSetIterable iter X.env x = pure x := by intro _; rfl) :
    PE X (.DictComp kx vx [⟨tg, iter, ifs, 0⟩] scope pos) (tDcT wi g tt tk tv (own.map (·.2))) := by
  refine ⟨fun pins s σ H Q I h => ?_⟩
  rw [arm_eval_DictComp]
  refine dcT_core hu hc hN I hi ok hg ht hk he hs h fun D C s' m H' I' q' hn f => ⟨m, hn, fun h'' sb => ?_⟩
  obtain ⟨f0, f1, f2, f3, f4, f5⟩ := f
  exact ⟨.ref D, H', I'.turned (t' := s'.toks) (fun b o hb e => (sb.2 b hb).trans e) f0 f1 f3 f4 f5, rfl, q'⟩
/-- name = {..}, the name a local: the store is the comprehension's own last act -/
theorem ps_setDcT {i : Nat} {y : Str} {py pos spos : Pos} (hu : X.A.units < cLine) (hc : X.calm = true) (hN : X.N.Nodup) (hy : X.N[i]? = some y) (hyl : X.env.scope.names.lookup y = some .local)
    (hsw : swapsWith (.DictComp kx vx [⟨tg, iter, ifs, 0⟩] scope pos) (some (.Name y py)) spos.line X.env = pure true) (hi : PI X tg iter wi) (ok : BlkOk X.N X.env.scope scope own)
    (hg : ∀ (s : Shared) (H : Hp) (C : Addr) (cl : List (Str × Addr)) (fp : List Addr), PG (X.blk s H scope (compEnvC scope cl C X.env) fp) tg g)
    (ht : ∀ (s : Shared) (H : Hp) (C : Addr) (cl : List (Str × Addr)) (fp : List Addr), PTs (X.blk s H scope (compEnvC scope cl C X.env) fp) ifs tt)
    (hk : ∀ (s : Shared) (H : Hp) (C : Addr) (cl : List (Str × Addr)) (fp : List Addr), PE (X.blk s H scope (compEnvC scope cl C X.env) fp) kx tk)
    (he : ∀ (s : Shared) (H : Hp) (C : Addr) (cl : List (Str × Addr)) (fp : List Addr), PE (X.blk s H scope (compEnvC scope cl C X.env) fp) vx tv)
    (hs : ∀ x, foldedSetIterable iter X.env x = pure x := by intro _; rfl) :
    PS X (.Assign [.Name y py] (.DictComp kx vx [⟨tg, iter, ifs, 0⟩] scope pos) spos) (tAsg (tDcT wi g tt tk tv (own.map (·.2))) (gName i)) := by
  refine ⟨fun pins s σ H D I h => ?_⟩
  rw [exec_Assign_Name_used _ _ _ _ hsw]
  refine wpAny_bind (wpAny_standAt (wpAny_bind ?_))
  show wpAny _ X.A (do let _ ← comprehension (.DictComp kx vx [⟨tg, iter, ifs, 0⟩] scope pos) scope X.env (firstIterPos [⟨tg, iter, ifs, 0⟩] pos) newDict false (eval iter X.env) (some (assign (.Name y py) X.env))) _ _ s
  have h : tDcT wi g tt tk tv (own.map (·.2)) σ H (fun x H1 => gName i x σ H1 D.nx) := h
  refine wpAny_bind (thn (dcT_core (Qf := fun _ s' => SP X pins D .next s') hu hc hN I hi ok hg ht hk he hs h fun L C s' m H' I' q hn f => ?_) fun _ s' hq => wpAny_pure (wpAny_pure hq))
  show wpAny _ _ (assign (.Name y py) X.env (.ref L)) _ _ _
  obtain ⟨f0, f1, f2, f3, f4, f5⟩ := f
  refine wpAny_assign_Name (store_ok2 (v := V.ref L) I' hN hy (.inl hyl) rfl (fun s2 I2 ⟨a, sb, ha⟩ => ⟨m, hn.sameBut sb fun e => ?_, fun h3 sb3 => ⟨_, H', I2.turned (t' := s2.toks) (fun b o hb e => (sb3.2 b hb).trans e) f0 f1 f3 f4 f5, q⟩⟩) (.inr hyl))
  rcases ha with z | z
  · exact f1 (e.trans z)
  · exact f4 y a z e.symm
theorem sw_trueD {gs : List Comprehension} {pos py : Pos} {y : Str} {l : Nat} {env : Env} (hk : env.scope.kind = .function) (hy : env.scope.names.lookup y = some .local) (hl : (py.line == pos.line) = true)
    (ha : (scope.names.any fun (n, k) => n == y && (k == .local || k == .cell)) = false) : swapsWith (.DictComp kx vx gs scope pos) (some (.Name y py)) l env = pure true := by
  have b : env.blockKind = .function := by unfold Env.blockKind; rw [hk]; rfl
  have k : env.kindOf y = some .local := hy
  unfold swapsWith
  simp only [b, k, ha, Expr.pos, hl]
  rfl
end
/-! ### any, all over a dict's keys -/
theorem sm_unlock {H H' : Hp} {d : Addr} {u : HO} [NT u] {od : Obj} (hd : H d = some u) (s : Sm (L2.upd H d (.frz od u)) H') : Sm H (L2.upd H' d u) := by
  refine ⟨fun b o _ h => ?_, fun b h => ?_, fun b h => ?_⟩
  · by_cases c : b = d
    · subst c
      rw [hd] at h
      rw [upd_same, h]
    · rw [upd_ne c]
      exact s b o (by rw [upd_ne c]; exact h)
  · have c := tabG_nt hd h
    exact tabG_upd c (s.tb b (tabG_upd c h))
  · have r := fr_upd h
    exact (fr_upd (s.fr b r.2)).2
section
variable {σ : L2.St} {vs : List Nat} {H : Hp} {Q : VK} {g : TG} {te : TE} {P : Addr}
theorem w_gxK {b0 : Bool} {n : Nat} {d : Addr} {kvs : List (List Key × V)} (tr : List Key × V → Bool) (hv : σ[n]? = some (some (.ref d))) (hd : H d = some (.dT kvs)) (ht : GxR.TabG H P)
    (he : ∀ (od : Obj) (i : Nat) (k : List Key) (v : V) (q : Addr) (H' : Hp), kvs[i]? = some (k, v) → Sm (L2.upd H d (.frz od (.dT kvs))) H' → H' q = some (.tup (k.map kV)) → ∀ R : VK, (∀ H2, Sm H' H2 → R (.bl (tr (k, v))) H2) → g (.ref q) (wipe σ vs) H' fun σ2 H2 => wipe σ2 vs = wipe σ vs ∧ te σ2 H2 R)
    (k : ∀ H', Sm H H' → Q (.bl (if b0 then kvs.all tr else kvs.any tr)) H') : tLockE (tGx b0 P (iKeys (tVar n)) g te vs) σ H Q := by
  refine ⟨d, _, hd, True.intro, fun od => ?_⟩
  refine ⟨_, hv, d, od, rfl, .inr ⟨kvs, upd_same, ?_⟩⟩
  have pd := tabG_nt hd ht
  have htf : GxR.TabG (L2.upd H d (.frz od (.dT kvs))) P := tabG_upd pd ht
  refine ⟨htf, fun H2 hT => ?_⟩
  have s0 := Sm.tabbed htf hT
  refine ⟨fun i m H' => m = kvs.length - i ∧ i ≤ kvs.length ∧ Sm (L2.upd H d (.frz od (.dT kvs))) H' ∧ ∀ x ∈ kvs.take i, tr x = b0, ⟨_, rfl, Nat.zero_le _, s0, fun x hx => by simp at hx⟩, ?_⟩
  rintro i m H' ⟨rfl, hi, s1, ha⟩
  have at1 := s1 d _ upd_same
  by_cases hlt : i < kvs.length
  · refine .inr ⟨⟨at1, hlt⟩, fun x H3 y => ?_⟩
    obtain ⟨rfl, kk, v, q, hx, rfl, hq⟩ := y
    refine he od i kk v q _ hx s1 hq _ fun H4 s2 => ⟨tr (kk, v), rfl, fun hb => ⟨_, ?_, rfl, hlt, s1.trans s2, fun z hz => ?_⟩, fun hb => ?_⟩
    · omega
    · rw [List.take_add_one, hx] at hz
      rcases List.mem_append.mp hz with hz | hz
      · exact ha z hz
      · rw [show z = (kk, v) by simpa using hz]; exact hb
    · have hm := List.mem_of_getElem? hx
      have e : (if b0 then kvs.all tr else kvs.any tr) = !b0 := by
        cases b0 with
        | true =>
          rw [if_pos rfl, Bool.not_true, List.all_eq_false]
          exact ⟨_, hm, by rw [hb]; simp⟩
        | false =>
          rw [if_neg Bool.false_ne_true, Bool.not_false, List.any_eq_true]
          exact ⟨_, hm, hb⟩
      have s12 := s1.trans s2
      have := k _ (sm_unlock hd s12)
      rw [e] at this
      exact ⟨s12 d _ upd_same, this⟩
  · have e : i = kvs.length := by omega
    subst e
    refine .inl ⟨⟨at1, Nat.le_refl _⟩, ?_⟩
    rw [List.take_length] at ha
    have e : (if b0 then kvs.all tr else kvs.any tr) = b0 := by
      cases b0 with
      | true =>
        rw [if_pos rfl, List.all_eq_true]
        exact ha
      | false =>
        rw [if_neg Bool.false_ne_true, List.any_eq_false]
        intro x hx
        rw [ha x hx]; simp
    have := k _ (sm_unlock hd s1)
    rw [e] at this
    exact ⟨at1, this⟩
end
/-! ### a dict comprehension over a range, its keys all different -/
def DcB (J : It) (g : TG) (tt : TT) (tk tv : TE) (vs : List Nat) (σ : L2.St) (H1 : Hp) (Q : VK) : Prop := ∀ D, H1 D = none → ∃ W : Nat → Nat → Hp → Prop, (∃ m, W 0 m (L2.upd H1 D (.dT []))) ∧ ∀ i m H, W i m H →
  (J.stop i H ∧ Q (.ref D) H) ∨ (J.go i H ∧ ∃ Nx : Hp → Prop, (∀ H', Nx H' → ∃ m', m' < m ∧ W (i + 1) m' H') ∧ ∀ x H', J.yld i H x H' → g x (wipe σ vs) H' fun σ2 H2 => wipe σ2 vs = wipe σ vs ∧ tt σ2 H2 fun b H3 =>
    if b = true then tk σ2 H3 fun y H4 => tv σ2 H4 fun z H5 => ∃ H6, DPut H5 D y z H6 ∧ Nx H6 else Nx H3)
theorem valV_none {kvs : List (List Key × V)} {k : List Key} (h : ∀ p ∈ kvs, p.1 ≠ k) : valV kvs k = none := by
  induction kvs with
  | nil => rfl
  | cons p r ih =>
    rw [valV_neg (h p (List.mem_cons_self ..))]
    exact ih fun q hq => h q (List.mem_cons_of_mem _ hq)
section
variable {σ : L2.St} {vs : List Nat} {H : Hp} {Q : VK} {tk tv : TE} {j : Nat}
theorem w_dc2 {g : TG} {tt : TT} {ta tb : TE} (k : ta σ H fun x H1 => tb σ H1 fun y H2 => ∃ i n : Int, [x, y] = [V.int i, V.int n] ∧ (-(2 ^ 62) ≤ i ∧ i < 2 ^ 62 ∧ -(2 ^ 62) ≤ n ∧ n < 2 ^ 62) ∧ DcB (Itr i (n - i).toNat) g tt tk tv vs σ H2 Q) : tDcT (iRng2 (tCons ta (tCons tb tNil))) g tt tk tv vs σ H Q := k
theorem w_dcr2 {l n : Int} (f : Nat → List Key × V) (h1 : -(2 ^ 62) ≤ l) (h2 : l < 2 ^ 62) (h3 : -(2 ^ 62) ≤ n) (h4 : n < 2 ^ 62) (hz : (n - l).toNat ≤ 1000000) (hw : ∀ x, wipe ((wipe σ vs).set j (some x)) vs = wipe σ vs)
    (hnd : ∀ i k, i < k → (f i).1 ≠ (f k).1)
    (he : ∀ (i : Nat) H', i < (n - l).toNat → Sm H H' → ∀ R : V → V → Hp → Prop, (∀ q H2, Sm H' H2 → H2 q = some (.tup ((f i).1.map kV)) → R (.ref q) (f i).2 H2) → tk ((wipe σ vs).set j (some (.int (l + (i : Int))))) H' fun y H4 => tv ((wipe σ vs).set j (some (.int (l + (i : Int))))) H4 fun z H5 => R y z H5)
    (k : ∀ D H', Sm H H' → H D = none → H' D = some (.dT ((List.range (n - l).toNat).map f)) → Q (.ref D) H') :
    ∃ i m : Int, [V.int l, V.int n] = [.int i, .int m] ∧ (-(2 ^ 62) ≤ i ∧ i < 2 ^ 62 ∧ -(2 ^ 62) ≤ m ∧ m < 2 ^ 62) ∧ DcB (Itr i (m - i).toNat) (gName j) tYes tk tv vs σ H Q := by
  refine ⟨l, n, rfl, ⟨h1, h2, h3, h4⟩, fun D hD => ?_⟩
  generalize (n - l).toNat = N at *
  refine ⟨fun i m H' => m = N - i ∧ i ≤ N ∧ Sm H H' ∧ H' D = some (.dT ((List.range i).map f)), ⟨N, rfl, Nat.zero_le _, same_upd hD, upd_same⟩, ?_⟩
  rintro i m H' ⟨rfl, hi, s1, hx⟩
  by_cases hlt : i < N
  · refine .inr ⟨hlt, fun H6 => Sm H H6 ∧ H6 D = some (.dT ((List.range (i + 1)).map f)), fun H6 h6 => ⟨_, ?_, rfl, hlt, h6.1, h6.2⟩, fun x H3 y => ?_⟩
    · omega
    · obtain ⟨e, y⟩ := y
      subst e y
      show wipe ((wipe σ vs).set j (some (.int (l + (i : Int))))) vs = wipe σ vs ∧ tk ((wipe σ vs).set j (some (.int (l + (i : Int))))) H3 _
      refine ⟨hw _, he i H3 hlt s1 _ fun q H5 s2 hq => ⟨_, DPut.t (s2 _ _ hx) hq ?_, sm_upd (s1.trans s2) hD, ?_⟩⟩
      · rw [List.length_map, List.length_range]
        exact Nat.lt_of_lt_of_le (show i < 1000000 by omega) (by decide)
      · rw [upd_same, putK_new _ (valV_none fun p hp => ?_), List.range_succ, List.map_append]
        · rfl
        · obtain ⟨a, ha, rfl⟩ := List.mem_map.mp hp
          exact hnd a i (List.mem_range.mp ha)
  · have e : i = N := by omega
    subst e
    exact .inl ⟨Nat.le_refl _, k D H' s1 hD hx⟩
end
/-! ### steps -/
section
variable {σ : L2.St} {H : Hp} {Q : VK} {D : Ends} {n m : Nat} {a t : Addr}
theorem dget_rd {kvs : List (List Key × V)} {k : List Key} (e : Rd H a (.dT kvs)) (eb : H t = some (.tup (k.map kV))) : DGet H a (.ref t) (valV kvs k) := .inr ⟨kvs, k, t, e, rfl, eb, rfl⟩
theorem w_dIn {o : Option V} (hy : σ[n]? = some (some (.ref t))) (hx : σ[m]? = some (some (.ref a))) (g : DGet H a (.ref t) o) (k : Q (.bl o.isSome) H) : tDIn (tVar n) (tVar m) σ H Q := ⟨_, hy, _, hx, a, o, rfl, g, k⟩
theorem w_dNotIn {o : Option V} (hy : σ[n]? = some (some (.ref t))) (hx : σ[m]? = some (some (.ref a))) (g : DGet H a (.ref t) o) (k : Q (.bl (!o.isSome)) H) : tDNotIn (tVar n) (tVar m) σ H Q := ⟨_, hy, _, hx, a, o, rfl, g, k⟩
theorem w_dGet {v : V} (hx : σ[m]? = some (some (.ref a))) (hy : σ[n]? = some (some (.ref t))) (g : DGet H a (.ref t) (some v)) (k : Q v H) : tDGet (tVar m) (tVar n) σ H Q := ⟨_, hx, _, hy, a, v, rfl, g, k⟩
theorem w_dput {td ty tv : TE} (k : tv σ H fun v H1 => td σ H1 fun x H2 => ty σ H2 fun y H3 => ∃ a H4, x = .ref a ∧ DPut H3 a y v H4 ∧ D.nx σ H4) : sDPut td ty tv D σ H := k
theorem rd_lock {b : Addr} {u v : HO} {od : Obj} {H1 : Hp} [NT u] [NT v] (ha : H a = some u) (hb : H b = some v) (s : Sm (L2.upd H b (.frz od v)) H1) : Rd H1 a u := by
  by_cases c : a = b
  · subst c
    rw [ha] at hb
    cases hb
    exact .inr ⟨od, s _ _ upd_same⟩
  · exact .inl (s _ _ (by rw [upd_ne c]; exact ha))
end
def IntD (kvs : List (List Key × V)) : Prop := ∀ p ∈ kvs, ∃ i, p.2 = V.int i
theorem IntD.val {kvs : List (List Key × V)} (h : IntD kvs) {k : List Key} {v : V} (e : valV kvs k = some v) : ∃ i, v = V.int i := by
  unfold valV at e
  obtain ⟨p, hp, rfl⟩ := Option.map_eq_some_iff.mp e
  exact h p (List.mem_of_find?_eq_some hp)
theorem valV_mem {kvs : List (List Key × V)} {k : List Key} {v : V} {i : Nat} (hnd : (kvs.map (·.1)).Nodup) (h : kvs[i]? = some (k, v)) : valV kvs k = some v := by
  induction kvs generalizing i with
  | nil => simp at h
  | cons p r ih =>
    rw [List.map_cons, List.nodup_cons] at hnd
    cases i with
    | zero =>
      have e : p = (k, v) := by simpa using h
      rw [valV_pos (by rw [e]), e]
    | succ i =>
      rw [List.getElem?_cons_succ] at h
      rw [valV_neg fun e => hnd.1 (by rw [e]; exact List.mem_map.mpr ⟨_, List.mem_of_getElem? h, rfl⟩)]
      exact ih hnd.2 h
section
variable {K : PySem.W.Frag} {H : Hp} {Q : VK} {a : Addr}
theorem Sm.seqT {K : PySem.W.Frag} {H H' : Hp} {a : Addr} {xs : List V} (e : Sm H H') (h : SqT K H a xs) : SqT K H' a xs := by
  rcases h with (h | ⟨o, h⟩) | h
  · exact .inl (.inl (e _ _ h))
  · exact .inl (.inr ⟨o, e _ _ h⟩)
  · exact .inr h
theorem w_isi_tt {xs : List V} (ha : H a = some (.tup xs)) (k : Q (.bl true) H) : rIsi K [.ref a, .ty "tuple"] H Q := ⟨_, _, _, _, true, rfl, .ty _, .base (.tup ha), kit_ty (by decide +kernel), k⟩
theorem w_isi_ss {x : Str} (k : Q (.bl true) H) : rIsi K [.str x, .ty "str"] H Q := ⟨_, _, _, _, true, rfl, .ty _, .base (.str x), kit_ty (by decide +kernel), k⟩
theorem w_ninW {x y z : Str} (h : SqT K H a [.str y, .str z]) (hx : x = y ∨ x = z) (k : Q (.bl false) H) : rIn K true (.str x) (.ref a) H Q := by
  refine ⟨a, [.str y, .str z], rfl, .inr h, rfl, rfl, ?_⟩
  have e : inV (.str x) [.str y, .str z] = true := by
    rcases hx with rfl | rfl <;> simp [inV, eqV]
  show Q (.bl (!inV (.str x) [.str y, .str z])) H
  rw [e]
  exact k
end
section
variable {K : PySem.W.Frag} {σ : L2.St} {H : Hp} {D : Ends} {tb : TS} {g : TG} {a : Addr} {xs : List V}
theorem w_tupL (hx : SqT K H a xs) (Pv : Nat → L2.St → Hp → Prop) (h0 : Pv 0 σ H) (hl : ∀ i σ' H', i ≤ xs.length → Pv i σ' H' → SqT K H' a xs)
    (hs : ∀ i x σ' H', xs[i]? = some x → Pv i σ' H' → g x σ' H' fun σ2 H2 => tb { D with nx := Pv (i + 1), ct := Pv (i + 1), bk := D.nx } σ2 H2) (hd : ∀ σ' H', Pv xs.length σ' H' → D.nx σ' H') :
    ∃ b, V.ref a = .ref b ∧ (∃ xs, SqT K H b xs) ∧ Loop (Itt K b) g tb D σ H := ⟨a, rfl, ⟨xs, hx⟩, for_tup Pv h0 hl hs hd⟩
end
theorem hu_of0 {A : Around} {k : Nat} (hr : Room k A) : A.units < cLine := Nat.lt_of_le_of_lt (Nat.le_add_right _ 64) hr.units
end SC

set_option Elab.async false
set_option linter.all false
set_option maxRecDepth 100000
set_option maxHeartbeats 4000000
/-! enumerate(xs, start=k) walked by a loop. -/
namespace SC
open PySem PySem.Spec PyProof.Rows L2
/-- the list at a as it stands at each turn, each item in a new pair, counted from k -/
def Itf (K : PySem.W.Frag) (k : Int) (a : Addr) : It :=
  ⟨(Ite K a).go, fun i H v H' => ∃ T x, v = .ref T ∧ H T = none ∧ H' = L2.upd H T (.tup [.int (k + (i : Int)), x]) ∧ ∀ xs, SqL K H a xs → xs[i]? = some x, (Ite K a).stop⟩
/-- the state of such an enumerate object e, its list iterator it -/
def EnAt (k : Int) (a e it : Addr) (i : Nat) (h : Heap) : Prop := (∃ old, IsEnum h e it (k + (i : Int)) old) ∧ h.IsListIter it a i ∧ e ≠ it
theorem turn_enumF {P : Program} {w : World} {K : PySem.W.Frag} {elts : List Expr} {kk : Nat} {tpos : Pos} (k : Int) (a e it : Addr) :
    Turn P w K (.Tuple elts kk tpos) (Itf K k a) [e, it] e (EnAt k a e it) where
  mem := List.mem_cons_self ..
  obj := by
    rintro i h ⟨⟨old, he⟩, ⟨o, ho, hc, hd⟩, _⟩ b hb
    rcases List.mem_cons.mp hb with rfl | hb
    · exact ⟨_, he, fun v q => nomatch q⟩
    · rw [List.mem_singleton.mp hb]
      exact ⟨o, ho, fun v q => by rw [hd] at q; cases q⟩
  keep := by
    rintro i h h' ⟨⟨old, he⟩, hi, hne⟩ kp
    exact ⟨⟨old, kp e (by simp) _ he⟩, hi.at fun o q => kp it (by simp) o q, hne⟩
  item := by
    rintro X rfl rfl rfl hc i pins s σ H E I hf ⟨⟨old, he⟩, hit, hne⟩ ⟨xs, x, hq, hx⟩
    obtain ⟨its, rv, p, hz⟩ := I.list hq
    obtain ⟨u, hu, ru⟩ := rv.get hx
    have lt1 : e < s.heap.objs.size := Heap.lt_size he
    have lt2 : it < s.heap.objs.size := by obtain ⟨_, q, _⟩ := hit; exact Heap.lt_size q
    have ai : a ≠ it := fun z => by
      obtain ⟨o, ho, _, hd⟩ := hit
      obtain ⟨o2, n, ho2, _, _, hd2⟩ := p
      rw [z, ho] at ho2
      cases ho2
      rw [hd] at hd2
      cases hd2
    have ea : e ≠ a := fun z => by
      obtain ⟨o2, n, ho2, _, _, hd2⟩ := p
      have he' : s.heap.get? e = _ := he
      rw [← z, he'] at ho2
      cases ho2
      cases hd2
    have D := Draws.list (prog := X.prog) (w := X.w) (A := X.A.in1) (I.ok.hd hc) it a ai its.toArray
    have hl : i < its.toArray.size := by
      rw [List.size_toArray]
      exact (List.getElem?_eq_some_iff.mp hu).1
    refine wpAny_pyNext_enum_itemC D he ⟨hit, p.isList⟩ hl hne (by simp [hne, ea]) fun y h' tk hy ho hs' hT hsz hk => ?_
    have ey : y = u := by
      rw [List.getElem?_toArray, hu] at hy
      exact (Option.some.inj hy).symm
    subst ey
    refine ⟨_, rfl, wpAny_letOwnedTupleGo_enum (s := { s with heap := h', toks := tk + 1 }) ho fun h'' he' sb => ?_⟩
    have far : ∀ b, b = e ∨ b = it → b ≠ s.heap.objs.size := fun b hb => by
      rcases hb with rfl | rfl
      · exact Nat.ne_of_lt lt1
      · exact Nat.ne_of_lt lt2
    have tup : h''.get? s.heap.objs.size = some { cls := .type "tuple", data := .seq #[.int (k + (i : Int)) tk, y] } := (sb.2 _ (Ne.symm (far e (.inl rfl)))).trans hT
    have I2 : L2.Inv X pins σ (L2.upd H s.heap.objs.size (.tup [.int (k + (i : Int)), x])) { s with heap := h'', toks := tk + 1 } :=
      I.turnedNew (ch := [e, it]) (fun b ob hb q => (sb.2 b (fun z => hb (by simp [z]))).trans (hk b ob (fun z => hb (by simp [z])) (fun z => hb (by simp [z])) q)) hf (Nat.le_refl _)
        ⟨by show 2 ≤ sizeLine; decide, [.int (k + (i : Int)) tk, y], .cons ⟨_, rfl⟩ (.cons ru .nil), ⟨_, tup, rfl, _, rfl⟩⟩
    refine ⟨.ref s.heap.objs.size, _, I2, rfl, ⟨_, x, rfl, I.hok.fresh (Nat.le_refl _), rfl, fun ys hy => by rw [I.list_inj hy hq]; exact hx⟩, ⟨⟨y, ?_⟩, hs'.1.at fun o q => (sb.2 it (Ne.symm hne)).trans q, hne⟩, fun b hb => ?_⟩
    · rw [show k + ((i + 1 : Nat) : Int) = k + (i : Int) + 1 by omega]
      exact he'
    · rw [upd_ne (far b (by simpa using hb))]
      exact (hf b hb).1
  done := by
    rintro X rfl rfl rfl hc i pins s σ H E I hf ⟨⟨old, he⟩, hit, hne⟩ ⟨xs, hq, hx⟩
    obtain ⟨its, rv, p, hz⟩ := I.list hq
    obtain ⟨f0, f1, f2, f3, f4, f5⟩ := hf it (by simp)
    have il := rv.length
    have ai : a ≠ it := fun z => by
      obtain ⟨o, ho, _, hd⟩ := hit
      obtain ⟨o2, n, ho2, _, _, hd2⟩ := p
      rw [z, ho] at ho2
      cases ho2
      rw [hd] at hd2
      cases hd2
    have hT : s.TypeIs (.ref e) "enumerate" := ⟨_, he, rfl⟩
    unfold pyNext
    refine wpAny_bind (wpAny_attempt (wpAny_callSpecial?_slot (name := Str.ofString "__next__") hT PySem.F.slot_enumerate_next
      (wpAny_call_entry PySem.F.slot_enumerate_next hT PySem.F.entry_enumerate_next ?_ (PySem.F.args_enumerate_next_1 _))))
    show wpAny _ _ (field (.ref e) 2 >>= _) _ _ _
    refine wpAny_bind (wpAny_field he rfl (x := .ref it) rfl ?_)
    refine wpAny_bind (wpAny_nextOf_list_end (I.ok.hd hc) hit p.isList (by simp; omega) fun h' x he' hx' => ?_)
    obtain ⟨o, ho, hc'⟩ := hx'
    refine wpAny_bind (wpAny_isInstance (T := "StopIteration") (b := true) ⟨o, ho, hc'⟩ isSubtype_stop ?_)
    exact wpAny_pure ⟨rfl, I.turned (t' := s.toks) (fun b o hb q => he' b o hb q) f0 f1 f3 f4 f5⟩
  self := by
    rintro A i s Q E ⟨⟨_, he⟩, _⟩ h
    exact wpAny_pyIter_enum he h
section
variable {M : Model} {A : Around} {E : Value → Shared → Prop} {s : Shared} {env : Env}
/-- the call of a built-in class with keywords -/
theorem callType_kw {pos : Pos} {T : String} {e : Expr} {rest : List Expr} {kws : List Keyword} {Q : Value → Shared → Prop}
    (h : wpAny M A (spliced (backTo pos (starEach (e :: rest) env))) (fun vs s₁ => wpAny M A (evalAll ((backToKw pos (keywordEach kws env)).map (·.2)))
      (fun kvs s₂ => wpAny M A (call (.type T) vs (((backToKw pos (keywordEach kws env)).filterMap (·.1)).zip kvs)) Q E s₂) E s₁) E s)
    (he : backTo pos (starEach (e :: rest) env) = (false, eval e env) :: backTo pos (starEach rest env)) (hplain : (backTo pos (starEach (e :: rest) env)).any (·.1) = false)
    (hall : (backToKw pos (keywordEach kws env)).all (·.1.isSome) = true) (hkw : (backToKw pos (keywordEach kws env)).any (·.1.isNone) = false) :
    wpAny M A (callWith pos (.type T) [] (backTo pos (starEach (e :: rest) env)) (backToKw pos (keywordEach kws env))) Q E s := by
  have g : wpAny M A (evalArgs (.type T) true (backTo pos (starEach (e :: rest) env)) (backToKw pos (keywordEach kws env))) (fun a s₁ => wpAny M A (call (.type T) ([] ++ a.pos) a.kw) Q E s₁) E s := by
    rw [he] at h ⊢
    exact evalArgs_kwB hall h
  unfold callWith
  refine wpAny_bind (wpAny_holding (wpAny_mono g (fun a s1 h1 => wpAny_bind (wpAny_standAt ?_)) fun _ _ x => x))
  simp only [hplain, hkw, Bool.or_false]
  refine wpAny_bind (wpAny_pure ?_)
  exact wpAny_bind (wpAny_mono h1 (fun r s2 hr => wpAny_bind (wpAny_holding (wpAny_point (wpAny_pure hr)))) fun _ _ x => x)
end
def iEnumF (K : PySem.W.Frag) (k : Int) (ta : TA) : TI := fun σ H R => ta σ H fun vs H1 => ∃ a xs, vs = [V.ref a] ∧ SqL K H1 a xs ∧ R (Itf K k a) H1
theorem pi_enumF {X : Cx} {e : Expr} {ta : TA} {p pos tpos cp kp : Pos} {elts : List Expr} {kk kc : Nat} {k : Int} (h0 : -(2 ^ 63) ≤ k) (h1 : k < 2 ^ 63) (hg : Gl X "enumerate") (hm : X.mg "enumerate" = none) (ha : PA X [e] ta)
    (hc : PE X (.Constant (.int k) kc cp) (tC (.int k)) := by exact pe_int) (he : backTo pos (starEach [e] X.env) = (false, eval e X.env) :: backTo pos (starEach [] X.env) := by rfl) (hplain : (backTo pos (starEach [e] X.env)).any (·.1) = false := by rfl) :
    PI X (.Tuple elts kk tpos) (.Call (.Name "enumerate" p) [e] [⟨some "start", .Constant (.int k) kc cp, kp⟩] pos) (iEnumF X.K k ta) := by
  refine ⟨fun pins s σ H R I h => ?_⟩
  refine wpAny_Call_Name_kw (ld_blt I hg hm boot_enumerate (callType_kw (thn (ha.run pos pins s σ H _ I h) fun us s1 ⟨vs, H1, I1, r1, q1⟩ => kws_cons (thn (hc.run pins s1 σ H1 (fun x H' => x = .int k ∧ H' = H1) I1 ⟨rfl, rfl⟩) fun c s2 ⟨x, H2, I2, rx, ex, eH⟩ => kws_nil ?_)) he hplain ?_ ?_))
  · subst ex eH
    obtain ⟨t, rfl⟩ := rx
    obtain ⟨a, xs, ex, hq, q⟩ := q1
    subst ex
    cases r1 with
    | cons r rr =>
      cases rr
      cases r
      obtain ⟨its, rv, pl, hz⟩ := I2.list hq
      refine enum_begins_start (begins_list a its.toArray) pl.isList h0 h1 fun h' he hit hsz hk => wpAny_pyIter_enum he ?_
      have I3 : L2.Inv X pins σ H2 { s2 with heap := h' } := I2.kept (t' := s2.toks) hk
      refine ⟨s2.heap.objs.size + 1, [s2.heap.objs.size + 1, s2.heap.objs.size], _, _, H2, rfl, I3, turn_enumF k a (s2.heap.objs.size + 1) s2.heap.objs.size, ⟨⟨.none, ?_⟩, ?_, Nat.succ_ne_self _⟩, fun b hb => ?_, q⟩
      · rw [show k + ((0 : Nat) : Int) = k by omega]
        exact he
      · exact ⟨_, hit, rfl, rfl⟩
      · have le : s2.heap.objs.size ≤ b := by
          rcases List.mem_cons.mp hb with rfl | hb
          · exact Nat.le_add_right _ _
          · rw [List.mem_singleton.mp hb]
            exact Nat.le_refl _
        exact I2.fpOk le (I2.hok.fresh le)
  all_goals rfl
section
variable {K : PySem.W.Frag} {σ : L2.St} {H : Hp} {D : Ends} {tb : TS} {g : TG} {a : Addr} {xs : List V} {ta : TA} {k : Int}
theorem w_forF (q : ta σ H fun vs H1 => ∃ a xs, vs = [V.ref a] ∧ SqL K H1 a xs ∧ Loop (Itf K k a) g tb D σ H1) : tFor (iEnumF K k ta) g tb D σ H := q
theorem w_enumF (hx : SqL K H a xs) (Pv : Nat → L2.St → Hp → Prop) (h0 : Pv 0 σ H) (hl : ∀ i σ' H', i ≤ xs.length → Pv i σ' H' → SqL K H' a xs)
    (hs : ∀ (i : Nat) x σ' H', xs[i]? = some x → Pv i σ' H' → ∀ T, H' T = none → g (.ref T) σ' (L2.upd H' T (.tup [.int (k + (i : Int)), x])) fun σ2 H2 => tb { D with nx := Pv (i + 1), ct := Pv (i + 1), bk := D.nx } σ2 H2) (hd : ∀ σ' H', Pv xs.length σ' H' → D.nx σ' H') :
    ∃ b ys, [V.ref a] = [V.ref b] ∧ SqL K H b ys ∧ Loop (Itf K k b) g tb D σ H := by
  refine ⟨a, xs, rfl, hx, fun i m σ' H' => m = xs.length - i ∧ i ≤ xs.length ∧ Pv i σ' H', ⟨xs.length, rfl, Nat.zero_le _, h0⟩, ?_⟩
  rintro i m σ' H' ⟨rfl, hi, p⟩
  have q := hl i σ' H' hi p
  by_cases c : i < xs.length
  · refine .inr ⟨⟨xs, xs[i], q, List.getElem?_eq_getElem c⟩, Pv (i + 1), fun σ2 H2 p2 => ⟨xs.length - (i + 1), by omega, rfl, c, p2⟩, fun v H2 y => ?_⟩
    obtain ⟨T, x, rfl, hT, rfl, hat⟩ := y
    exact hs i x σ' H' (hat xs q) p T hT
  · have e : i = xs.length := by omega
    subst e
    exact .inl ⟨⟨xs, q, Nat.le_refl _⟩, hd _ _ p⟩
end
/-! ### star functions whose code has a table -/
section
open StX
variable {P : Program} {w : World} {K : PySem.W.Frag} {mg : Str → Option Value} {base : Heap}
theorem okStarT {x qual : Str} {st : Stmt} {f c : Addr} {fd : FuncData} {N ps : List Str} {pv : Str} {k : Nat} {sp : Sp} (F : Fun K x qual st f fd) (S : FnScope N (ps ++ [pv]) (defScope st)) (hc : fd.code = .ref c)
    (hb : ∀ (kV doc pm : Value) (an : Option Addr) (cdv ct : Value) (us rest : List Value), us.length = ps.length → bindArgs (PySem.W.fnOf x qual (defArgs st) (defBody st) (defScope st) .none kV doc pm an cdv ct) ⟨us ++ rest, []⟩ = (newTuple rest >>= fun t => pure (ps.zip us ++ [(pv, t)])))
    (hbody : ∀ (A : Around) (outer : List Env) (s : Shared) (H : Hp) (vs : List V) (Q : VK) (E : XK), Room k (A.deeper (envOfC qual (defScope st) s.heap.objs.size f (.ref c))) → sp vs H Q E →
      ∃ t, PSs (cxOf CX0 P w K mg base N qual (defScope st) f (.ref c) A outer s H E).nox (defBody st) t ∧ t { nx := fun _ H' => Q .non H', rt := Q } (start N vs) H) : FnR P w K mg base CX0 (k + 1) f (spStar ps.length sp) := by
  obtain ⟨oc, od, kV, doc, pm, an, cdv, ct, osl, rfl, lk, hcd⟩ := F.ex
  have ec : cdv = .ref c := hc
  subst ec
  refine fn_star lk hcd S cxUp_none (hb kV doc pm an (.ref c) ct) fun A outer s H vs Q E hr hsp => ?_
  obtain ⟨t, h, q⟩ := hbody A outer s H vs Q E hr hsp
  exact ⟨t, h.nox, q⟩
theorem okStarKT {x qual : Str} {st : Stmt} {f c : Addr} {fd : FuncData} {N ps ks : List Str} {pv : Str} {k : Nat} {sp : Sp} (hc : fd.code = .ref c) (idx : List Nat) (hi : idx.length = ps.length) (F : Fun K x qual st f fd) (S : FnScope N (ps ++ [pv]) (defScope st))
    (hb : ∀ (kV doc pm : Value) (an : Option Addr) (cdv ct : Value) (ws : List Value), ws.length = ks.length → bindArgs (PySem.W.fnOf x qual (defArgs st) (defBody st) (defScope st) .none kV doc pm an cdv ct) ⟨[], ks.zip ws⟩ = (newTuple [] >>= fun t => pure (ps.zip (pickBy .none idx [] ws) ++ [(pv, t)])))
    (hbody : ∀ (A : Around) (outer : List Env) (s : Shared) (H : Hp) (vs : List V) (Q : VK) (E : XK), Room k (A.deeper (envOfC qual (defScope st) s.heap.objs.size f (.ref c))) → sp vs H Q E →
      ∃ t, PSs (cxOf CX0 P w K mg base N qual (defScope st) f (.ref c) A outer s H E).nox (defBody st) t ∧ t { nx := fun _ H' => Q .non H', rt := Q } (start N vs) H) : FnRk P w K mg base CX0 (k + 1) f ks (spStarK idx sp) := by
  obtain ⟨oc, od, kV, doc, pm, an, cdv, ct, osl, rfl, lk, hcd⟩ := F.ex
  have ec : cdv = .ref c := hc
  subst ec
  intro A outer s H ws zs Q E hr e0 r hl hsp
  have hn : H s.heap.objs.size = Option.none := e0.hok.fresh (Nat.le_refl _)
  refine run_bnd lk hcd S hr e0 (G := fun xs H2 => ∃ p, H p = Option.none ∧ xs = pickBy .non idx [] zs ++ [V.ref p] ∧ H2 = upd H p (.tup [])) (fun A' Ex Q' h => ?_) fun s2 H2 xs ⟨p, hp, ex, eH⟩ hr' => ?_
  · rw [hb kV doc pm an (.ref c) ct ws (by rw [← r.length]; exact hl)]
    refine wpAny_bind (wpAny_newTuple (wpAny_pure ?_) (Nat.zero_le _))
    have new : ObjOk P w (upd H s.heap.objs.size (.tup [])) (s.heap.push ({ cls := .type "tuple", data := .seq ([] : List Value).toArray } : Obj)) s.heap.objs.size (.tup []) := ⟨Nat.zero_le _, [], .nil, ⟨_, Heap.get?_push_size _ rfl, rfl, _, rfl⟩⟩
    have un := un_laid (fs := frs outer) (s := s) (o := ({ cls := .type "tuple", data := .seq ([] : List Value).toArray } : Obj)) (u := .tup []) hn
    have r1 : Vals (pickBy .non idx [] zs) (pickBy .none idx [] ws) := vals_pick .nil r idx
    have l1 : (pickBy .none idx [] ws).length = ps.length := by rw [← hi]; simp [pickBy]
    have z := h _ _ (pickBy .non idx [] zs ++ [V.ref s.heap.objs.size]) (pickBy .none idx [] ws ++ [Value.ref s.heap.objs.size]) (env0_laid e0 new) un rfl (fun e s' z => False.elim z) (r1.append (.cons rfl .nil))
      (by rw [List.length_append, List.length_append, r1.length, l1] <;> rfl) ⟨_, hn, rfl, rfl⟩
    rw [List.zip_append l1.symm] at z
    exact z
  · subst ex eH
    obtain ⟨t, h, q⟩ := hbody A outer s2 _ _ Q E hr' (hsp p hp)
    exact ⟨t, h.nox, q⟩
end
/-! ### any, all over a tuple; the kinds and the keys of a dict that is written -/
section
variable {K : PySem.W.Frag} {σ : L2.St} {vs : List Nat} {H : Hp} {Q : VK} {g : TG} {te : TE} {P : Addr}
theorem w_gxT {b0 : Bool} {a : Addr} {xs : List V} (tr : Nat → Bool) (hs : SqT K H a xs) (ht : GxR.TabG H P)
    (he : ∀ (i : Nat) x H', xs[i]? = some x → Sm H H' → ∀ R : VK, (∀ H2, Sm H' H2 → R (.bl (tr i)) H2) → g x (wipe σ vs) H' fun σ2 H2 => wipe σ2 vs = wipe σ vs ∧ te σ2 H2 R)
    (k : ∀ H', Sm H H' → Q (.bl (if b0 then (List.range xs.length).all tr else (List.range xs.length).any tr)) H') : ∃ b, V.ref a = .ref b ∧ (∃ xs, SqT K H b xs) ∧ GxB b0 P (Itt K b) g te vs σ H Q := by
  refine ⟨a, rfl, ⟨xs, hs⟩, ht, fun H2 hT => ?_⟩
  have s0 := Sm.tabbed ht hT
  refine ⟨fun i m H' => m = xs.length - i ∧ i ≤ xs.length ∧ Sm H H' ∧ ∀ j, j < i → tr j = b0, ⟨_, rfl, Nat.zero_le _, s0, fun j hj => absurd hj (Nat.not_lt_zero _)⟩, ?_⟩
  rintro i m H' ⟨rfl, hi, s1, ha⟩
  by_cases hlt : i < xs.length
  · refine .inr ⟨⟨xs, xs[i], s1.seqT hs, by simp [hlt]⟩, fun x H3 y => ?_⟩
    obtain ⟨rfl, y⟩ := y
    have hx := y xs (s1.seqT hs)
    refine he i x _ hx s1 _ fun H4 s2 => ⟨tr i, rfl, fun hb => ⟨_, ?_, rfl, hlt, s1.trans s2, fun j hj => ?_⟩, fun hb => ?_⟩
    · omega
    · by_cases z : j = i
      · rw [z]; exact hb
      · exact ha j (by omega)
    · have e : (if b0 then (List.range xs.length).all tr else (List.range xs.length).any tr) = !b0 := by
        cases b0 with
        | true =>
          rw [if_pos rfl, Bool.not_true, List.all_eq_false]
          exact ⟨i, List.mem_range.mpr hlt, by rw [hb]; simp⟩
        | false =>
          rw [if_neg Bool.false_ne_true, Bool.not_false, List.any_eq_true]
          exact ⟨i, List.mem_range.mpr hlt, hb⟩
      have := k H4 (s1.trans s2)
      rw [e] at this
      exact this
  · have e : i = xs.length := by omega
    subst e
    refine .inl ⟨⟨xs, s1.seqT hs, Nat.le_refl _⟩, ?_⟩
    have e : (if b0 then (List.range xs.length).all tr else (List.range xs.length).any tr) = b0 := by
      cases b0 with
      | true =>
        rw [if_pos rfl, List.all_eq_true]
        exact fun j hj => ha j (List.mem_range.mp hj)
      | false =>
        rw [if_neg Bool.false_ne_true, List.any_eq_false]
        intro j hj
        rw [ha j (List.mem_range.mp hj)]; simp
    have := k H' s1
    rw [e] at this
    exact this
end
theorem IntD.map {f : Nat → List Key × V} {l : List Nat} (h : ∀ i, ∃ z, (f i).2 = V.int z) : IntD (l.map f) := fun p hp => by
  obtain ⟨i, _, rfl⟩ := List.mem_map.mp hp
  exact h i
theorem IntD.app {a b : List (List Key × V)} (h1 : IntD a) (h2 : IntD b) : IntD (a ++ b) := fun p hp => (List.mem_append.mp hp).elim (h1 p) (h2 p)
theorem IntD.put {kvs : List (List Key × V)} (h : IntD kvs) {k : List Key} {z : Int} : IntD (putK kvs k (.int z)) := fun p hp => by
  unfold putK at hp
  split at hp
  · obtain ⟨q, hq, e⟩ := List.mem_map.mp hp
    split at e
    · exact ⟨z, by rw [← e]⟩
    · rw [← e]; exact h q hq
  · rcases List.mem_append.mp hp with hp | hp
    · exact h p hp
    · rw [List.mem_singleton.mp hp]; exact ⟨z, rfl⟩
theorem nodup_put {kvs : List (List Key × V)} (h : (kvs.map (·.1)).Nodup) {k : List Key} {v : V} : ((putK kvs k v).map (·.1)).Nodup := by
  unfold putK
  split
  · rw [List.map_map]
    have e : (kvs.map ((fun x => x.1) ∘ fun kv => if kv.1 = k then (kv.1, v) else kv)) = kvs.map (·.1) := List.map_congr_left fun p _ => by
      show (if p.1 = k then (p.1, v) else p).1 = p.1
      split <;> rfl
    rw [e]
    exact h
  · rename_i n
    rw [List.map_append, List.nodup_append]
    refine ⟨h, by simp, fun a ha b hb => ?_⟩
    have eb : b = k := by simpa using hb
    subst eb
    obtain ⟨p, hp, rfl⟩ := List.mem_map.mp ha
    intro e
    apply n
    rw [List.any_eq_true]
    exact ⟨p, hp, decide_eq_true e⟩
theorem all_range {α : Type} {cs : List α} {f : α → Bool} {g : Nat → Bool} (h : ∀ i (hi : i < cs.length), g i = f cs[i]) : (List.range cs.length).all g = cs.all f := by
  apply Bool.eq_iff_iff.mpr
  rw [List.all_eq_true, List.all_eq_true]
  constructor
  · intro z x hx
    obtain ⟨i, hi, rfl⟩ := List.mem_iff_getElem.mp hx
    rw [← h i hi]
    exact z i (List.mem_range.mpr hi)
  · intro z i hi
    have hi := List.mem_range.mp hi
    rw [h i hi]
    exact z _ (List.getElem_mem hi)
end SC

set_option Elab.async false
set_option linter.all false
set_option maxRecDepth 100000
set_option maxHeartbeats 4000000
/-! The law's own call where defs ask for repr and codes have tables. -/
namespace SC
open PySem PySem.Spec PyProof.Rows L2 StX
/-- what the law may see: its script, unless the top made it, and the empty tables -/
def lawHp (K : PySem.W.Frag) (a : Addr) (o : HO) (ts : List Addr) : Hp := fun b => if b = a ∧ (K.lookup a).isNone = true then some o else if b ∈ ts then some (.tbl #[]) else none
theorem lawHp_some {K : PySem.W.Frag} {a b : Addr} {o u : HO} {ts : List Addr} (h : lawHp K a o ts b = some u) : (b = a ∧ u = o ∧ K.lookup a = none) ∨ (b ∈ ts ∧ u = .tbl #[]) := by
  unfold lawHp at h
  split at h
  · rename_i c
    exact .inl ⟨c.1, (Option.some.inj h).symm, Option.isNone_iff_eq_none.mp c.2⟩
  · split at h
    · rename_i c
      exact .inr ⟨c, (Option.some.inj h).symm⟩
    · cases h
theorem law_runGT {P : Program} {w : World} {K : PySem.W.Frag} {mg mb : Str → Option Value} {k : Nat} {fa a : Addr} {cs : List (Addr × Addr)} {fd : FuncData} {x : Str} {sp : Sp} {s₁ : Shared} {vs : List Value} {ns : List Int}
    (KX : K.In s₁.heap) (hns : s₁.heap.Ns mainGlobals mg) (hb : s₁.heap.Ns builtinsNs mb) (hbb : ∀ x : Str, x ≠ "__name__" → mb x = bootBuiltins x) (hlim : s₁.heap.NoLimit) (hg : s₁.gens = #[])
    (hT : ∀ p ∈ cs, s₁.heap.get? p.2 = some { cls := .none, data := .fields #[] }) (nT : ∀ p ∈ cs, K.lookup p.2 = none) (C : ∀ p ∈ cs, PySem.W.CodeHd s₁.heap p.1 p.2)
    (hbm : ∃ (bm : Addr) (ob : Obj), mg "__builtins__" = some (.ref bm) ∧ bm ≠ builtinsNs ∧ s₁.heap.get? bm = some ob ∧ ob.cls = .type "module" ∧ ob.dict = some builtinsNs ∧ ob.data = .plain)
    (ha : s₁.heap.get? a = some { cls := .type "list", data := .seq vs.toArray }) (hi : IntsAre vs ns) (hl : ns.length ≤ sizeLine) (hr : Room k callerA)
    (F : ∀ base : Heap, K.In base → base.Ns mainGlobals mg → (∀ p ∈ cs, GxR.TabB base mg p.1 p.2) → FnG P w K mg base CX0 k fa fd [x] sp) (hbind : ∀ (s : Shared) (u : Value), BindsTo s fd ⟨[u], []⟩ [(x, u)])
    (hsp : ∀ H : Hp, (∀ p ∈ cs, H p.2 = some (.tbl #[])) → SqL K H a (ns.map V.int) → sp [.ref a] H (fun v _ => v = .bl true) fun _ _ _ => False) :
    codeAny (model P w) callerA (.call (.ref fa) ⟨[.ref a], []⟩) (fun r s' => r = .ok (.ret (.bool true)) ∧ OldK s₁.heap s'.heap ∧ s'.os = s₁.os ∧ AllBare s'.gens) s₁ := by
  have rv := vals_ints hi
  have hlen := hi.length
  generalize eo : HO.frz { cls := .type "list", data := .seq vs.toArray } (.lst (ns.map V.int)) = fz
  generalize eH : lawHp K a fz (cs.map (·.2)) = H
  have tabAt : ∀ b ∈ cs.map (·.2), s₁.heap.get? b = some { cls := .none, data := .fields #[] } ∧ K.lookup b = none := fun b z => by
    obtain ⟨p, hp, rfl⟩ := List.mem_map.mp z
    exact ⟨hT p hp, nT p hp⟩
  have aT : a ∉ cs.map (·.2) := fun z => by
    have q := (tabAt a z).1
    rw [ha] at q
    cases (congrArg Obj.data (Option.some.inj q) : Data.seq vs.toArray _ = Data.fields #[])
  have sees : ∀ {b : Addr} {u : HO}, H b = some u → (b = a ∧ u = fz ∧ K.lookup a = none) ∨ (b ∈ cs.map (·.2) ∧ u = .tbl #[]) := fun h => lawHp_some (by rw [eH]; exact h)
  have tabs : ∀ p ∈ cs, H p.2 = some (.tbl #[]) := fun p hp => by
    have m := List.mem_map.mpr ⟨p, hp, (rfl : p.2 = p.2)⟩
    rw [← eH]
    unfold lawHp
    rw [if_neg fun z => aT (by rw [← z.1]; exact m), if_pos m]
  have seq : SqL K H a (ns.map V.int) := by
    cases hk : K.lookup a with
    | none => exact .inl (.inr ⟨{ cls := .type "list", data := .seq vs.toArray }, by rw [← eH, eo]; exact if_pos ⟨rfl, by rw [hk]; rfl⟩⟩)
    | some o =>
      have e := KX a o hk
      rw [ha] at e
      cases e
      exact .inr ⟨_, vs.toArray, _, hk, rfl, rfl, rfl, by rw [List.size_toArray, hlen]; exact hl, by simpa using rv⟩
  have ok : HOk P w H s₁.heap := fun b u h => by
    rcases sees h with ⟨rfl, rfl, _⟩ | ⟨m, rfl⟩
    · rw [← eo]
      exact ⟨ha, by rw [List.length_map]; exact hl, vs, _, rv, ha⟩
    · exact (tabAt b m).1
  have free : ∀ {b : Addr} {o : Obj}, s₁.heap.get? b = some o → ((∀ xs n, o.data ≠ .seq xs n) ∧ o.data ≠ .fields #[]) ∨ K.lookup b = some o → H b = none := fun {b o} e c => by
    cases q : H b with
    | none => rfl
    | some u =>
      rcases sees q with ⟨rfl, _, hk⟩ | ⟨m, _⟩
      · rcases c with c | c
        · rw [ha] at e
          cases e
          exact absurd rfl (c.1 _ _)
        · rw [hk] at c
          cases c
      · obtain ⟨t1, t2⟩ := tabAt b m
        rcases c with c | c
        · rw [t1] at e
          cases e
          exact absurd rfl c.2
        · rw [t2] at c
          cases c
  have kept : ∀ {b : Addr} {o : Obj}, s₁.heap.get? b = some o → ((∀ xs n, o.data ≠ .seq xs n) ∧ o.data ≠ .fields #[]) ∨ K.lookup b = some o → (hidT s₁.heap H).get? b = some o := fun e c => hidT_get e (free e c)
  have ns_ : ∀ {b : Addr} {m : Str → Option Value}, s₁.heap.Ns b m → (hidT s₁.heap H).Ns b m := fun ⟨o, es, ep, e, d, r⟩ => ⟨o, es, ep, kept e (.inl ⟨fun xs n z => (by rw [d] at z; cases z), fun z => (by rw [d] at z; cases z)⟩), d, r⟩
  have inb : K.In (hidT s₁.heap H) := fun b o e => kept (KX b o e) (.inr e)
  have md : Mod K mg (hidT s₁.heap H) := ⟨inb, ns_ hns, ⟨mb, ns_ hb, hbb⟩, let ⟨mc, h1, h2⟩ := hlim; ⟨mc, ns_ h1, h2⟩⟩
  have TB : ∀ p ∈ cs, GxR.TabB (hidT s₁.heap H) mg p.1 p.2 := fun p hp => by
    have tp := hT p hp
    refine ⟨?_, ?_, fun z => ?_⟩
    · obtain ⟨o, us, file, tf, flags, tg, inF, text, tt, e1, r1, r2, r3, r⟩ := C p hp
      exact ⟨o, us, file, tf, flags, tg, inF, text, tt, kept e1 (.inl ⟨fun vs n z => (by rw [r2] at z; cases z), fun z => (by rw [r2] at z; cases z; simp at r3)⟩), r1, r2, r3, r⟩
    · obtain ⟨bm, ob, b1, b2, b3, b4, b5, b6⟩ := hbm
      refine ⟨bm, ob, b1, b2, fun q => ?_, fun q => ?_, kept b3 (.inl ⟨fun vs n z => (by rw [b6] at z; cases z), fun z => (by rw [b6] at z; cases z)⟩), b4, b5, b6⟩
      · obtain ⟨o, es, ep, e, hd, _⟩ := hns
        rw [q, e] at b3
        cases b3
        rw [hd] at b6
        cases b6
      · rw [q, tp] at b3
        cases b3
        cases b6
    · obtain ⟨o, es, ep, e, hd, _⟩ := hns
      rw [z, tp] at e
      cases e
      cases hd
  have e0 : Env0 P w K mg (hidT s₁.heap H) callerA [] s₁ H := ⟨rfl, md, fun b o e => of_hidT e, Nat.le_of_eq (hidT_size _ _), trivial, fun b hb => absurd (show b ∈ ([] : List Addr) from hb) (by simp), ok, .of_eq hg⟩
  refine codeAny_mono ((F _ inb (ns_ hns) TB).2 callerA [] s₁ H ⟨[.ref a], []⟩ [.ref a] [.ref a] _ _ rfl hr e0 (hbind s₁ (.ref a)) (.cons rfl .nil) (hsp H tabs seq)) fun r s' h => ?_
  match r, h with
  | .error e, h => exact False.elim h
  | .ok .next, h => exact False.elim h
  | .ok .brk, h => exact False.elim h
  | .ok .cont, h => exact False.elim h
  | .ok (.ret u), h =>
    obtain ⟨v, H', os, bare, un, ok', rel, ev⟩ := h
    subst ev
    obtain rfl : u = Value.bool true := rel
    have same : ∀ b o, b ∉ cs.map (·.2) → s₁.heap.get? b = some o → s'.heap.get? b = some o := fun b o nb e => by
      cases q : H b with
      | none => exact un.keep b o e q (by simp [frs]) (by simp)
      | some u =>
        rcases sees q with ⟨rfl, rfl, _⟩ | ⟨m, _⟩
        · rw [ha] at e
          cases e
          rw [← eo] at q
          exact (ok' b _ (un.frzs b _ _ q)).1
        · exact absurd m nb
    have grown : ∀ b ∈ cs.map (·.2), ∃ more : Array Value, s'.heap.get? b = some { cls := .none, data := .fields more } := fun b m => by
      obtain ⟨p, hp, rfl⟩ := List.mem_map.mp m
      obtain ⟨more, z⟩ := un.tbls p.2 #[] (tabs p hp)
      exact ⟨_, ok' p.2 _ z⟩
    refine ⟨rfl, ⟨fun b o e => ?_, fun b o e => ?_⟩, os, bare⟩
    · by_cases m : b ∈ cs.map (·.2)
      · obtain ⟨more, hm⟩ := grown b m
        obtain ⟨p, hp, rfl⟩ := List.mem_map.mp m
        rw [hT p hp] at e
        cases e
        exact .inr (.inl ⟨((C p hp).tab (hT p hp)).isCodeTable, rfl, #[], more, rfl, by rw [Array.empty_append]; exact hm⟩)
      · exact .inl (same b o m e)
    · by_cases m : b ∈ cs.map (·.2)
      · obtain ⟨more, hm⟩ := grown b m
        exact ⟨_, hm⟩
      · exact ⟨o, same b o m e⟩
/-- what the head's heap h knows of the law's promise -/
def LawAtG (l : PySem.W.OpenLaw) (w : World) (K : PySem.W.Frag) (k n : Nat) (x : Str) (mg : Str → Option Value) (fa : Addr) (h : Heap) : Prop :=
  ∃ (fd : FuncData) (cs : List (Addr × Addr)) (sp : Sp), (∀ p ∈ cs, h.get? p.2 = some { cls := .none, data := .fields #[] }) ∧ (∀ p ∈ cs, K.lookup p.2 = none) ∧ (∀ p ∈ cs, PySem.W.CodeHd h p.1 p.2) ∧ (∀ (s : Shared) (u : Value), BindsTo s fd ⟨[u], []⟩ [(x, u)]) ∧
    (∀ (H : Hp) (a : Addr) (ns : List Int), ns.length ≤ n → (∀ z ∈ ns, Builtin.Int.intBits z ≤ 1048576) → (∀ p ∈ cs, H p.2 = some (.tbl #[])) → SqL K H a (ns.map V.int) → sp [.ref a] H (fun v _ => v = .bl true) fun _ _ _ => False) ∧
    ∀ base : Heap, K.In base → base.Ns mainGlobals mg → (∀ p ∈ cs, GxR.TabB base mg p.1 p.2) → FnG l.prog w K mg base CX0 k fa fd [x] sp
theorem walk_tabsG {l : PySem.W.OpenLaw} {n k : Nat} {q : Program} {loose : List Str} {XP : (Str → Option Value) → Heap → Prop} {YP : World → Heap → Prop} {d : DefRec} {K : Params → PySem.W.Frag} {x : Str} (names : List Str)
    (hn : l.most = some n) (hn2 : n ≤ sizeLine) (hdf : d.params.defaults = []) (hr : Room k callerA) (hrec : ∀ y ∈ names, ((recsOf q).any fun e => e.name == y) = true) (hY : ∀ (w : World) (h : Heap), YP w h → (K w.params).In h)
    (F : ∀ (w : World) (mg : Str → Option Value) (fa : Addr) (h : Heap), (K w.params).In h → h.Ns mainGlobals mg → mg d.name = some (.ref fa) → (∀ y ∈ names, ∀ c P, PySem.W.tabIn (K w.params) y = some (c, P) → PySem.W.CodeHd h c P ∧ h.get? P = some { cls := .none, data := .fields #[] }) → LawAtG l w (K w.params) k n x mg fa h) :
    PySem.W.WalkO q loose XP YP l.row.toRowW d [] (fun f vs => PySem.call f vs) := by
  refine Att.attach_callB hn hdf fun w s₀ s₁ mg mb fa o pm cd doc a vs ns G Y ho hd hcd hmg hobj hints hlen hbits hg => ?_
  have KX := hY w _ Y
  obtain ⟨fd, cs, sp, hT, nT, C, hb, hsp, hF⟩ := F w mg fa _ KX G.T.g hmg fun y hy c P ht => by
    obtain ⟨dL, hm, hn1⟩ := List.any_eq_true.mp (hrec y hy)
    have z : ((recsOf q).find? fun e => e.name == y).isSome = true := List.find?_isSome.mpr ⟨dL, hm, hn1⟩
    obtain ⟨d', hd'⟩ := Option.isSome_iff_exists.mp z
    exact PySem.W.tab_of G.T KX hd' ht
  exact law_runGT KX G.T.g G.T.b G.T.builtins G.T.nolimit hg hT nT C G.T.bmain hobj hints (Nat.le_trans hlen hn2) hr hF hb fun H hH hS => hsp H a ns hlen hbits hH hS
/-! ### how often an int stands in a list -/
def rCount (K : PySem.W.Frag) : V → List V → Hp → VK → Prop := fun x xs H Q => ∃ (a : Addr) (ns : List Int) (k : Int), x = V.ref a ∧ xs = [V.int k] ∧ SqL K H a (ns.map V.int) ∧ Q (.int (ns.count k : Nat)) H
theorem mt_count {X : Cx} : MtR X "list.count" (rCount X.K) := by
  intro pins s σ H x xs v us Q I rx rxs h
  obtain ⟨a, ns, k, rfl, rfl, hs, q⟩ := h
  cases rx
  cases rxs with
  | cons ry rt =>
    cases rt
    obtain ⟨t, rfl⟩ := ry
    obtain ⟨its, rv, p, _⟩ := I.list hs
    exact count_list_ints p.isList (Vals.ints rv) ⟨.int (ns.count k : Nat), H, I.tok _, ⟨_, rfl⟩, q⟩
theorem w_count {K : PySem.W.Frag} {H : Hp} {Q : VK} {a : Addr} {ns : List Int} {k : Int} (h : SqL K H a (ns.map V.int)) (q : Q (.int (ns.count k : Nat)) H) : rCount K (.ref a) [.int k] H Q := ⟨a, ns, k, rfl, rfl, h, q⟩
end SC

set_option Elab.async false
set_option linter.all false
set_option maxRecDepth 100000
set_option maxHeartbeats 4000000
/-! What claims and results decide; a claim holds of a result as its winners say. -/
namespace SC
open PySem PySem.Spec PyProof.Rows L2 StX
def keyM (p : Int × Int) : List Key := [.inl p.1, .inl p.2]
theorem keyM_inj {a b c d : Int} (h : keyM (a, b) = keyM (c, d)) : a = c ∧ b = d := by
  have z := List.cons.inj h
  exact ⟨Sum.inl.inj z.1, Sum.inl.inj (List.cons.inj z.2).1⟩
def decE (n s : Int) (i : Nat) : List Key × V := (keyM (1 + (i : Int), blk (p2 (n - (1 + (i : Int)))) s), .int (blk (p2 (n - (1 + (i : Int)) + 1)) s))
def decs (n s : Int) (wd : Str) (r : Nat) : List (List Key × V) := if wd = "out" then putK ((List.range r).map (decE n s)) (keyM ((r : Int), blk (p2 (n - (r : Int))) s)) (.int (oth n (r : Int) s)) else (List.range r).map (decE n s)
def conT (ks : List (List Key × V)) (p : List Key × V) : Bool := decide (valV ks p.1 = some p.2)
def difT (ls : List (List Key × V)) (p : List Key × V) : Bool := match valV ls p.1 with
  | some z => decide (z ≠ p.2)
  | none => false
/-- claims as triples -/
abbrev Clm := Str × Int × Nat
def cV (c : Clm) : List V := [.str c.1, .int c.2.1, .int c.2.2]
def ClmOk (n : Int) (c : Clm) : Prop := (c.1 = "won" ∨ c.1 = "out") ∧ (1 ≤ c.2.1 ∧ c.2.1 ≤ p2 n) ∧ (1 ≤ c.2.2 ∧ (c.2.2 : Int) ≤ n)
/-- the decided matches of a result: the halves of the winners -/
def dbrRow (s : Nat) (B : List Int) (d : Nat) (j : Nat) : List Key × V := (keyM (1 + (d : Int), 1 + (j : Int)), .int (blk (p2 ((s : Int) - (1 + (d : Int)) + 1)) ((PL s B (d + 1)).getD j 0)))
def dbr (s : Nat) (B : List Int) : Nat → List (List Key × V)
  | 0 => []
  | d + 1 => dbr s B d ++ (List.range (PL s B (d + 1)).length).map (dbrRow s B d)
theorem dbr_keys {s : Nat} {B : List Int} : ∀ {d : Nat} {p : List Key × V}, p ∈ dbr s B d → ∃ a b : Int, a ≤ (d : Int) ∧ p.1 = keyM (a, b)
  | 0, p, h => by cases h
  | d + 1, p, h => by
    rcases List.mem_append.mp h with h | h
    · obtain ⟨a, b, l, e⟩ := dbr_keys h
      exact ⟨a, b, by omega, e⟩
    · obtain ⟨j, _, rfl⟩ := List.mem_map.mp h
      exact ⟨1 + (d : Int), 1 + (j : Int), by omega, rfl⟩
theorem dbr_len {s : Nat} {B : List Int} : ∀ d : Nat, (dbr s B d).length = (FD s B d).length
  | 0 => rfl
  | d + 1 => by rw [dbr, List.length_append, List.length_map, List.length_range, dbr_len d, FD_succ, List.length_append]
def satC (s : Nat) (B : List Int) (c : Clm) : Bool := (decs (s : Int) c.2.1 c.1 c.2.2).all (conT (dbr s B s))
theorem decE_nd {n s : Int} {r : Nat} : (((List.range r).map (decE n s)).map (·.1)).Nodup := by
  rw [List.map_map]
  refine List.Pairwise.map _ (fun a b (hab : a ≠ b) e => ?_) List.nodup_range
  have z := (keyM_inj (show keyM (1 + (a : Int), blk (p2 (n - (1 + (a : Int)))) s) = keyM (1 + (b : Int), blk (p2 (n - (1 + (b : Int)))) s) from e)).1
  omega
theorem decs_int {n s : Int} {wd : Str} {r : Nat} : IntD (decs n s wd r) := by
  have h : IntD ((List.range r).map (decE n s)) := IntD.map fun i => ⟨_, rfl⟩
  unfold decs
  split
  · exact h.put
  · exact h
theorem decs_nd {n s : Int} {wd : Str} {r : Nat} : ((decs n s wd r).map (·.1)).Nodup := by
  unfold decs
  split
  · exact nodup_put decE_nd
  · exact decE_nd
theorem dbr_int {s : Nat} {B : List Int} : ∀ d : Nat, IntD (dbr s B d)
  | 0 => fun p h => by cases h
  | d + 1 => (dbr_int d).app (IntD.map fun j => ⟨_, rfl⟩)
/-- what the law says of a claim, by the winners -/
def truC (ws : List Int) (c : Clm) : Bool := if c.1 = "won" then decide ((c.2.2 : Int) ≤ (ws.count c.2.1 : Nat)) else decide (((ws.count c.2.1 : Nat) : Int) = (c.2.2 : Int) - 1)
/-! ### the winners' blocks -/
theorem getD_mem {ps : List Int} {j : Nat} (h : j < ps.length) : ps.getD j 0 ∈ ps := by
  rw [List.getD_eq_getElem?_getD, List.getElem?_eq_getElem h]
  exact List.getElem_mem h
theorem mem_getD {ps : List Int} {x : Int} (h : x ∈ ps) : ∃ j, j < ps.length ∧ ps.getD j 0 = x := by
  obtain ⟨j, hj, e⟩ := List.mem_iff_getElem.mp h
  refine ⟨j, hj, ?_⟩
  rw [List.getD_eq_getElem?_getD, List.getElem?_eq_getElem hj, ← e]
  rfl
theorem rnd_sub {ps bs : List Int} {x : Int} (h : x ∈ rnd ps bs) : x ∈ ps := by
  unfold rnd at h
  obtain ⟨i, hi, rfl⟩ := List.mem_map.mp h
  have hi := List.mem_range.mp hi
  rcases win_mem (bs.getD i 0) (prAt ps i) with z | z <;> rw [z]
  · exact getD_mem (by omega)
  · exact getD_mem (by omega)
theorem PL_down {s : Nat} {B : List Int} {d : Nat} {x : Int} (h : x ∈ PL s B (d + 1)) : x ∈ PL s B d := rnd_sub h
theorem PL_mem {s : Nat} {B : List Int} : ∀ d : Nat, ∀ x ∈ PL s B d, 1 ≤ x ∧ x ≤ p2 (s : Int)
  | 0, x, h => by
    have h : x ∈ seeds s := h
    unfold seeds at h
    obtain ⟨i, hi, rfl⟩ := List.mem_map.mp h
    have hi := List.mem_range.mp hi
    rw [p2_nat]
    omega
  | d + 1, x, h => PL_mem d x (PL_down h)
theorem PL_zero {s : Nat} {B : List Int} {x : Int} (h : 1 ≤ x ∧ x ≤ p2 (s : Int)) : x ∈ PL s B 0 := by
  rw [p2_nat] at h
  show x ∈ seeds s
  unfold seeds
  refine List.mem_map.mpr ⟨(x - 1).toNat, List.mem_range.mpr (by omega), by omega⟩
theorem FD_mem {s : Nat} {B : List Int} : ∀ {d : Nat}, ∀ x ∈ FD s B d, 1 ≤ x ∧ x ≤ p2 (s : Int)
  | 0, x, h => by cases h
  | d + 1, x, h => by
    rw [FD_succ] at h
    rcases List.mem_append.mp h with h | h
    · exact FD_mem x h
    · exact PL_mem _ x h
theorem p2_sub {s d : Nat} (h : d ≤ s) : p2 ((s : Int) - (d : Int)) = ((2 ^ (s - d) : Nat) : Int) := by
  rw [show (s : Int) - (d : Int) = ((s - d : Nat) : Int) by omega, p2_nat]
theorem p2_step {s d : Nat} (h : d < s) : p2 ((s : Int) - (d : Int)) = 2 * p2 ((s : Int) - ((d + 1 : Nat) : Int)) := by
  rw [← p2_succ (by omega)]
  congr 1
  omega
theorem PL_blk {s : Nat} {B : List Int} : ∀ {d : Nat}, d ≤ s → ∀ j : Nat, j < 2 ^ (s - d) → blk (p2 ((s : Int) - (d : Int))) ((PL s B d).getD j 0) = 1 + (j : Int)
  | 0, _, j, hj => by
    have e : (PL s B 0).getD j 0 = 1 + (j : Int) := by
      show (seeds s).getD j 0 = _
      unfold seeds
      rw [List.getD_eq_getElem?_getD, List.getElem?_map, List.getElem?_range (by simpa using hj)]
      rfl
    rw [e, p2_sub (Nat.zero_le _)]
    exact blk_top (by omega) (by omega)
  | d + 1, h, j, hj => by
    have pl := PL_len (s := s) (B := B) (d := d) (by omega)
    have ph := pow_half (s := s) (d := d) (by omega)
    have e : (PL s B (d + 1)).getD j 0 = win ((B.drop (FD s B d).length).getD j 0) (prAt (PL s B d) j) := by
      rw [PL_succ]
      unfold rnd
      rw [List.getD_eq_getElem?_getD, List.getElem?_map, List.getElem?_range (by omega)]
      rfl
    have a1 := PL_blk (s := s) (B := B) (d := d) (by omega) j (by omega)
    have a2 := PL_blk (s := s) (B := B) (d := d) (by omega) ((PL s B d).length - 1 - j) (by omega)
    have m1 := (PL_mem (B := B) d _ (getD_mem (ps := PL s B d) (j := j) (by omega))).1
    have m2 := (PL_mem (B := B) d _ (getD_mem (ps := PL s B d) (j := (PL s B d).length - 1 - j) (by omega))).1
    have em := p2_sub (s := s) (d := d + 1) h
    rw [p2_step (by omega)] at a1 a2
    rw [e]
    rcases win_mem ((B.drop (FD s B d).length).getD j 0) (prAt (PL s B d) j) with z | z <;> rw [z]
    · exact half_in (b := 1 + (j : Int)) (p2_pos _) (by omega) (by omega) m1 (.inl a1)
    · exact half_in (b := 1 + (j : Int)) (p2_pos _) (by omega) (by omega) m2 (.inr (by
        show blk _ ((PL s B d).getD ((PL s B d).length - 1 - j) 0) = _
        rw [a2, em]; omega))
/-- the winner of a seed's block -/
def wat (s : Nat) (B : List Int) (d : Nat) (x : Int) : Int := (PL s B d).getD (blk (p2 ((s : Int) - (d : Int))) x - 1).toNat 0
theorem wat_lt {s d : Nat} {x : Int} (h : d ≤ s) : (blk (p2 ((s : Int) - (d : Int))) x - 1).toNat < 2 ^ (s - d) ∧ blk (p2 ((s : Int) - (d : Int))) x = 1 + ((blk (p2 ((s : Int) - (d : Int))) x - 1).toNat : Int) := by
  have r := blk_range (m := p2 ((s : Int) - (d : Int))) (s := x) (p2_pos _)
  have e := p2_sub h
  constructor <;> omega
theorem wat_mem {s d : Nat} {B : List Int} {x : Int} (h : d ≤ s) : wat s B d x ∈ PL s B d := getD_mem (by rw [PL_len h]; exact (wat_lt h).1)
theorem wat_self {s d : Nat} {B : List Int} {x : Int} (h : d ≤ s) (hx : x ∈ PL s B d) : wat s B d x = x := by
  obtain ⟨j, hj, e⟩ := mem_getD hx
  rw [PL_len h] at hj
  have b := PL_blk (B := B) h j hj
  rw [e] at b
  unfold wat
  rw [b, show (1 + (j : Int) - 1).toNat = j by omega, e]
theorem wat_blk {s d : Nat} {B : List Int} {x : Int} (h : d ≤ s) : blk (p2 ((s : Int) - (d : Int))) (wat s B d x) = blk (p2 ((s : Int) - (d : Int))) x := by
  have w := wat_lt (x := x) h
  unfold wat
  rw [PL_blk h _ w.1, ← w.2]
theorem wat_next {s i : Nat} {B : List Int} {x : Int} (h : i < s) (hx : x ∈ PL s B i) : blk (p2 ((s : Int) - (i : Int))) (wat s B (i + 1) x) = blk (p2 ((s : Int) - (i : Int))) x ↔ x ∈ PL s B (i + 1) := by
  constructor
  · intro e
    have m := wat_mem (s := s) (B := B) (d := i + 1) (x := x) (by omega)
    have a := wat_self (s := s) (d := i) (by omega) (PL_down m)
    have b := wat_self (s := s) (d := i) (by omega) hx
    have c : wat s B i (wat s B (i + 1) x) = wat s B i x := by
      unfold wat at e ⊢
      rw [e]
    rw [a, b] at c
    rw [c] at m
    exact m
  · intro m
    rw [wat_self (by omega) m]
theorem wat_half {s i : Nat} {B : List Int} {x : Int} (h : i < s) (hx : 1 ≤ x) : blk (p2 ((s : Int) - (i : Int))) (wat s B (i + 1) x) = p2 ((s : Int) - (i : Int)) + 1 - blk (p2 ((s : Int) - (i : Int))) x ↔ ¬ blk (p2 ((s : Int) - (i : Int))) (wat s B (i + 1) x) = blk (p2 ((s : Int) - (i : Int))) x := by
  have m := wat_mem (s := s) (B := B) (d := i + 1) (x := x) (by omega)
  have e := wat_blk (s := s) (B := B) (d := i + 1) (x := x) (by omega)
  have m1 := (PL_mem _ _ m).1
  rw [p2_step h]
  have b1 := blk_below (m := p2 ((s : Int) - ((i + 1 : Nat) : Int))) (p2_pos _) m1
  have b2 := blk_below (m := p2 ((s : Int) - ((i + 1 : Nat) : Int))) (p2_pos _) hx
  rw [e] at b1
  have r := blk_range (m := p2 ((s : Int) - ((i + 1 : Nat) : Int))) (s := x) (p2_pos _)
  omega
/-! ### how often a seed wins -/
theorem FD_le {s : Nat} {B : List Int} {x : Int} : ∀ d : Nat, (FD s B d).count x ≤ d
  | 0 => by simp [FD, plP]
  | d + 1 => by
    rw [FD_succ, List.count_append]
    have := FD_le (s := s) (B := B) (x := x) d
    have := List.nodup_iff_count.mp (PL_nd s B (d + 1)) x
    omega
theorem FD_in {s : Nat} {B : List Int} {x : Int} : ∀ {d : Nat}, x ∈ PL s B d → (FD s B d).count x = d
  | 0, _ => by simp [FD, plP]
  | d + 1, h => by
    rw [FD_succ, List.count_append, FD_in (PL_down h)]
    have := List.nodup_iff_count.mp (PL_nd s B (d + 1)) x
    have := List.count_pos_iff.mpr h
    omega
theorem PL_out {s : Nat} {B : List Int} {x : Int} {d : Nat} (h : x ∉ PL s B d) : ∀ k : Nat, x ∉ PL s B (d + k)
  | 0 => h
  | k + 1 => fun z => PL_out h k (PL_down z)
theorem FD_out {s : Nat} {B : List Int} {x : Int} {d : Nat} (h : x ∉ PL s B d) : ∀ k : Nat, (FD s B (d + k)).count x = (FD s B d).count x
  | 0 => rfl
  | k + 1 => by
    rw [← Nat.add_assoc, FD_succ, List.count_append, FD_out h k, List.count_eq_zero.mpr (show x ∉ PL s B (d + k + 1) from PL_out h (k + 1))]
    omega
theorem le_count {s r : Nat} {B : List Int} {x : Int} (hx : 1 ≤ x ∧ x ≤ p2 (s : Int)) (hr : r ≤ s) : r ≤ (FD s B s).count x ↔ x ∈ PL s B r := by
  constructor
  · intro h
    by_cases c : x ∈ PL s B r
    · exact c
    · match r, hr, h, c with
      | 0, _, _, c => exact PL_zero hx
      | r + 1, hr, h, c =>
        have e := FD_out c (s - (r + 1))
        rw [show r + 1 + (s - (r + 1)) = s by omega, FD_succ, List.count_append, List.count_eq_zero.mpr c] at e
        have := FD_le (s := s) (B := B) (x := x) r
        omega
  · intro h
    have e := FD_in h
    obtain ⟨q, z⟩ := FD_pre (s := s) (B := B) (d := r) (s - r)
    rw [show r + (s - r) = s by omega] at z
    rw [z, List.count_append]
    omega
/-! ### what a result decides -/
theorem valV_appL {a b : List (List Key × V)} {k : List Key} {v : V} (h : valV a k = some v) : valV (a ++ b) k = some v := by
  induction a with
  | nil => cases h
  | cons p r ih =>
    rw [List.cons_append]
    by_cases e : p.1 = k
    · rw [valV_pos e] at h ⊢
      exact h
    · rw [valV_neg e] at h ⊢
      exact ih h
theorem valV_appR {a b : List (List Key × V)} {k : List Key} (h : valV a k = none) : valV (a ++ b) k = valV b k := by
  induction a with
  | nil => rfl
  | cons p r ih =>
    rw [List.cons_append]
    by_cases e : p.1 = k
    · rw [valV_pos e] at h
      cases h
    · rw [valV_neg e] at h ⊢
      exact ih h
theorem dbr_val {s : Nat} {B : List Int} : ∀ {t : Nat}, t ≤ s → ∀ {d j : Nat}, d < t → j < 2 ^ (s - (d + 1)) → valV (dbr s B t) (keyM (1 + (d : Int), 1 + (j : Int))) = some (.int (blk (p2 ((s : Int) - (1 + (d : Int)) + 1)) ((PL s B (d + 1)).getD j 0)))
  | 0, _, d, j, h, _ => absurd h (Nat.not_lt_zero _)
  | t + 1, ht, d, j, h, hj => by
    show valV (dbr s B t ++ _) _ = _
    by_cases c : d < t
    · exact valV_appL (dbr_val (by omega) c hj)
    · have e : d = t := by omega
      subst e
      rw [valV_appR (valV_none fun p hp q => ?_)]
      · refine valV_mem (i := j) ?_ ?_
        · rw [List.map_map]
          refine List.Pairwise.map _ (fun a b (hab : a ≠ b) e => ?_) List.nodup_range
          have z := (keyM_inj (show keyM (1 + (d : Int), 1 + (a : Int)) = keyM (1 + (d : Int), 1 + (b : Int)) from e)).2
          omega
        · rw [List.getElem?_map, List.getElem?_range (by rw [PL_len (by omega)]; exact hj)]
          rfl
      · obtain ⟨a, b, l, e⟩ := dbr_keys hp
        have z := (keyM_inj (e.symm.trans q)).1
        omega
theorem dbr_at {s i : Nat} {B : List Int} {x : Int} (h : i < s) : valV (dbr s B s) (decE (s : Int) x i).1 = some (.int (blk (p2 ((s : Int) - (i : Int))) (wat s B (i + 1) x))) := by
  have w := wat_lt (s := s) (d := i + 1) (x := x) (by omega)
  have e : (decE (s : Int) x i).1 = keyM (1 + (i : Int), 1 + ((blk (p2 ((s : Int) - ((i + 1 : Nat) : Int))) x - 1).toNat : Int)) := by
    rw [← w.2]
    show keyM (1 + (i : Int), blk (p2 ((s : Int) - (1 + (i : Int)))) x) = _
    rw [show (s : Int) - (1 + (i : Int)) = (s : Int) - ((i + 1 : Nat) : Int) by omega]
  rw [e, dbr_val (Nat.le_refl _) h w.1, show (s : Int) - (1 + (i : Int)) + 1 = (s : Int) - (i : Int) by omega]
  rfl
theorem con_at {s i : Nat} {B : List Int} {x : Int} (h : i < s) (hx : x ∈ PL s B i) : conT (dbr s B s) (decE (s : Int) x i) = decide (x ∈ PL s B (i + 1)) := by
  unfold conT
  rw [dbr_at h]
  refine decide_eq_decide.mpr (Iff.trans ⟨fun e => ?_, fun e => ?_⟩ (wat_next h hx))
  · have e := V.int.inj (Option.some.inj e)
    rw [show (s : Int) - (1 + (i : Int)) + 1 = (s : Int) - (i : Int) by omega] at e
    exact e
  · rw [e, show (decE (s : Int) x i).2 = V.int (blk (p2 ((s : Int) - (1 + (i : Int)) + 1)) x) from rfl, show (s : Int) - (1 + (i : Int)) + 1 = (s : Int) - (i : Int) by omega]
theorem con_all {s : Nat} {B : List Int} {x : Int} (hx : 1 ≤ x ∧ x ≤ p2 (s : Int)) : ∀ {r : Nat}, r ≤ s → ((∀ i, i < r → conT (dbr s B s) (decE (s : Int) x i) = true) ↔ x ∈ PL s B r)
  | 0, _ => ⟨fun _ => PL_zero hx, fun _ i h => absurd h (Nat.not_lt_zero _)⟩
  | r + 1, h => by
    have ih := con_all (B := B) hx (r := r) (by omega)
    constructor
    · intro a
      have m := ih.mp fun i hi => a i (by omega)
      have z := a r (by omega)
      rw [con_at h m] at z
      exact of_decide_eq_true z
    · intro m i hi
      have md := PL_down m
      by_cases c : i < r
      · exact ih.mpr md i c
      · have e : i = r := by omega
        subst e
        rw [con_at h md]
        exact decide_eq_true m
theorem all_map_range {f : Nat → List Key × V} {g : List Key × V → Bool} {r : Nat} : ((List.range r).map f).all g = true ↔ ∀ i, i < r → g (f i) = true := by
  rw [List.all_eq_true]
  constructor
  · intro h i hi
    exact h _ (List.mem_map.mpr ⟨i, List.mem_range.mpr hi, rfl⟩)
  · rintro h p hp
    obtain ⟨i, hi, rfl⟩ := List.mem_map.mp hp
    exact h i (List.mem_range.mp hi)
theorem decs_out {n s : Int} {r : Nat} (h : 1 ≤ r) : decs n s "out" r = (List.range r).map fun i => if i + 1 = r then ((decE n s i).1, V.int (oth n (r : Int) s)) else decE n s i := by
  unfold decs
  rw [if_pos rfl]
  unfold putK
  have ek : keyM ((r : Int), blk (p2 (n - (r : Int))) s) = (decE n s (r - 1)).1 := by
    show _ = keyM (1 + ((r - 1 : Nat) : Int), blk (p2 (n - (1 + ((r - 1 : Nat) : Int)))) s)
    rw [show 1 + ((r - 1 : Nat) : Int) = (r : Int) by omega]
  rw [if_pos ?_, List.map_map]
  · refine List.map_congr_left fun i hi => ?_
    have hi := List.mem_range.mp hi
    show (if (decE n s i).1 = _ then _ else _) = _
    by_cases c : i + 1 = r
    · rw [if_pos c, if_pos (by rw [ek, ← c]; rfl)]
    · rw [if_neg c, if_neg fun e => ?_]
      have z := (keyM_inj (show keyM (1 + (i : Int), blk (p2 (n - (1 + (i : Int)))) s) = keyM ((r : Int), blk (p2 (n - (r : Int))) s) from e)).1
      omega
  · rw [List.any_eq_true]
    exact ⟨_, List.mem_map.mpr ⟨r - 1, List.mem_range.mpr (by omega), rfl⟩, decide_eq_true ek.symm⟩
theorem sat_won {s r : Nat} {B : List Int} {x : Int} (hx : 1 ≤ x ∧ x ≤ p2 (s : Int)) (hr : 1 ≤ r ∧ r ≤ s) : (decs (s : Int) x "won" r).all (conT (dbr s B s)) = true ↔ r ≤ (FD s B s).count x := by
  rw [show decs (s : Int) x "won" r = (List.range r).map (decE (s : Int) x) by unfold decs; rw [if_neg (by decide)], all_map_range, con_all hx hr.2, ← le_count hx hr.2]
theorem sat_out {s q : Nat} {B : List Int} {x : Int} (hx : 1 ≤ x ∧ x ≤ p2 (s : Int)) (hr : q + 1 ≤ s) : (decs (s : Int) x "out" (q + 1)).all (conT (dbr s B s)) = true ↔ (FD s B s).count x = q := by
  rw [decs_out (by omega), all_map_range]
  have l1 := le_count (s := s) (r := q) (B := B) hx (by omega)
  have l2 := le_count (s := s) (r := q + 1) (B := B) hx (by omega)
  have a := con_all (B := B) hx (r := q) (by omega)
  have last : x ∈ PL s B q → (conT (dbr s B s) ((decE (s : Int) x q).1, V.int (oth (s : Int) ((q + 1 : Nat) : Int) x)) = true ↔ ¬ x ∈ PL s B (q + 1)) := fun m => by
    unfold conT
    rw [dbr_at (by omega), decide_eq_true_iff, ← wat_next (by omega) m, ← wat_half (by omega) hx.1]
    unfold oth
    rw [show (s : Int) - ((q + 1 : Nat) : Int) + 1 = (s : Int) - (q : Int) by omega]
    constructor
    · intro e
      exact V.int.inj (Option.some.inj e)
    · intro e
      rw [e]
  constructor
  · intro z
    have m := a.mp fun i hi => by
      have := z i (by omega)
      rw [if_neg (by omega)] at this
      exact this
    have k := z q (by omega)
    rw [if_pos rfl] at k
    have k := (last m).mp k
    have := l1.mpr m
    have : ¬ q + 1 ≤ (FD s B s).count x := fun t => k (l2.mp t)
    omega
  · intro z i hi
    have m : x ∈ PL s B q := l1.mp (by omega)
    by_cases e : i = q
    · subst e
      rw [if_pos rfl]
      exact (last m).mpr fun t => by
        have := l2.mpr t
        omega
    · rw [if_neg (by omega)]
      exact a.mpr m i (by omega)
theorem sat_true {s : Nat} {B : List Int} {c : Clm} (h : ClmOk (s : Int) c) : satC s B c = truC (FD s B s) c := by
  obtain ⟨w, x, r⟩ := c
  obtain ⟨hw, hx, h1, h2⟩ := h
  apply Bool.eq_iff_iff.mpr
  rcases hw with hw | hw
  · have hw : w = "won" := hw
    subst hw
    refine (sat_won (r := r) (x := x) hx ⟨h1, Int.ofNat_le.mp h2⟩).trans ?_
    show _ ↔ truC (FD s B s) ("won", x, r) = true
    unfold truC
    rw [if_pos rfl, decide_eq_true_iff]
    exact Int.ofNat_le.symm
  · have hw : w = "out" := hw
    subst hw
    match r, h1, h2 with
    | 0, h1, _ => exact absurd (show 1 ≤ 0 from h1) (by decide)
    | q + 1, h1, h2 =>
      refine (sat_out (q := q) (x := x) hx (Int.ofNat_le.mp h2)).trans ?_
      have z : truC (FD s B s) ("out", x, q + 1) = decide ((((FD s B s).count x : Nat) : Int) = ((q + 1 : Nat) : Int) - 1) := if_neg (show ¬ ("out" : Str) = "won" by decide)
      rw [z, decide_eq_true_iff]
      constructor <;> intro e <;> omega
end SC

set_option Elab.async false
set_option linter.all false
set_option maxRecDepth 100000
set_option maxHeartbeats 4000000
/-! repr of nested data; lists of claims; a comprehension over zip. -/
namespace SC
open PySem PySem.Spec PyProof.Rows L2 StX
/-! ### data that repr shows -/
structure Good (w k : Nat) (d : PyData) : Prop where
  lay : d.canLay0 = true
  dep : d.depth ≤ k
  wt : d.weight ≤ w
  sh : d.intsShort 13 = true
  shw : d.showable = true
  nd : d.hasDict = false
theorem good_int {i : Int} (h : i.natAbs ≤ 1000000) : Good 20 0 (.int i) := by
  have e : i.natAbs < 10 ^ 12 := Nat.lt_of_le_of_lt h (by decide)
  have l : i.natAbs.log2 < 20 := by
    by_cases z : i.natAbs = 0
    · rw [z]; decide
    · rw [Nat.log2_lt z]; exact Nat.lt_of_le_of_lt h (by decide)
  refine ⟨rfl, by simp [PyData.depth], ?_, ?_, ?_, rfl⟩
  · simp only [PyData.weight]
    split <;> omega
  · simp only [PyData.intsShort]
    exact decide_eq_true (PyData.shown_int_le e)
  · simp only [PyData.showable]
    exact decide_eq_true (by omega)
theorem good_str {x : Str} {w : Nat} (h : (PyData.str x).canLay0 = true) (hw : x.cps.size ≤ w) : Good w 0 (.str x) := ⟨h, by simp [PyData.depth], by simp only [PyData.weight]; exact hw, rfl, rfl, rfl⟩
theorem good_all {w k : Nat} : ∀ {ds : List PyData}, (∀ d ∈ ds, Good w k d) → PyData.canLayAll0 ds = true ∧ PyData.depthAll ds ≤ k ∧ PyData.weightAll ds ≤ (w + 1) * ds.length ∧ PyData.intsShortAll 13 ds = true ∧ PyData.showableAll ds = true ∧ PyData.hasDictAll ds = false
  | [], _ => ⟨rfl, by simp [PyData.depthAll], by simp [PyData.weightAll], rfl, rfl, rfl⟩
  | d :: ds, h => by
    obtain ⟨a1, a2, a3, a4, a5, a6⟩ := h d (List.mem_cons_self ..)
    obtain ⟨b1, b2, b3, b4, b5, b6⟩ := good_all fun d hd => h d (List.mem_cons_of_mem _ hd)
    refine ⟨by simp only [PyData.canLayAll0, a1, b1, Bool.and_self], ?_, ?_, by simp only [PyData.intsShortAll, a4, b4, Bool.and_self], by simp only [PyData.showableAll, a5, b5, Bool.and_self], by simp only [PyData.hasDictAll, a6, b6, Bool.or_self]⟩
    · simp only [PyData.depthAll]
      omega
    · simp only [PyData.weightAll, List.length_cons, Nat.mul_succ]
      omega
theorem good_list {w k n : Nat} {ds : List PyData} (h : ∀ d ∈ ds, Good w k d) (hn : ds.length ≤ n) : Good ((w + 1) * n) (k + 1) (.list ds) := by
  obtain ⟨b1, b2, b3, b4, b5, b6⟩ := good_all h
  have m := Nat.mul_le_mul_left (w + 1) hn
  refine ⟨by simpa only [PyData.canLay0] using b1, ?_, ?_, by simpa only [PyData.intsShort] using b4, by simpa only [PyData.showable] using b5, by simpa only [PyData.hasDict] using b6⟩
  · simp only [PyData.depth]
    omega
  · simp only [PyData.weight]
    omega
theorem good_tuple {w k n : Nat} {ds : List PyData} (h : ∀ d ∈ ds, Good w k d) (hn : ds.length ≤ n) : Good ((w + 1) * n) (k + 1) (.tuple ds) := by
  obtain ⟨b1, b2, b3, b4, b5, b6⟩ := good_all h
  have m := Nat.mul_le_mul_left (w + 1) hn
  refine ⟨by simpa only [PyData.canLay0] using b1, ?_, ?_, by simpa only [PyData.intsShort] using b4, by simpa only [PyData.showable] using b5, by simpa only [PyData.hasDict] using b6⟩
  · simp only [PyData.depth]
    omega
  · simp only [PyData.weight]
    omega
theorem Good.mono {w k w' k' : Nat} {d : PyData} (g : Good w k d) (h1 : w ≤ w') (h2 : k ≤ k') : Good w' k' d := ⟨g.lay, Nat.le_trans g.dep h2, Nat.le_trans g.wt h1, g.sh, g.shw, g.nd⟩
theorem w_repG {K : PySem.W.Frag} {H : Hp} {Q : VK} {a : Addr} {d : PyData} {w k : Nat} (h : Dp K H (.ref a) d) (g : Good w k d) (h1 : w ≤ 1000000) (h2 : k ≤ 60) (q : Q (.str d.shown) H) : rReprD K [.ref a] H Q := by
  refine w_repr h g.shw g.nd (Nat.le_trans g.dep h2) ?_ q
  refine PyData.shown_fits_of_layable0 (B := 13) (by decide) (by decide) ?_ g.sh
  unfold PyData.layable0
  rw [g.lay, decide_eq_true (Nat.le_trans g.dep (by omega)), decide_eq_true (Nat.le_trans g.wt (Nat.le_trans h1 (by decide)))]
  rfl
theorem shaped_good {w k : Nat} {d : PyData} (g : Good w k d) (h2 : k ≤ 60) : SeqAt.shaped d = true := by
  unfold SeqAt.shaped
  rw [g.lay, decide_eq_true (Nat.le_trans g.dep (by omega))]
  rfl
theorem good_ints {ns : List Int} {n : Nat} (h : ∀ i ∈ ns, i.natAbs ≤ 1000000) (hn : ns.length ≤ n) : Good (21 * n) 1 (.list (ns.map PyData.int)) :=
  good_list (fun d hd => by
    obtain ⟨i, hi, rfl⟩ := List.mem_map.mp hd
    exact good_int (h i hi)) (by rw [List.length_map]; exact hn)
/-! ### claims at addresses -/
def cD (c : Clm) : PyData := .tuple [.str c.1, .int c.2.1, .int c.2.2]
theorem good_clm {n : Int} {c : Clm} (h : ClmOk n c) (hn : n ≤ 100) (hb : c.2.1 ≤ 1000000) : Good 63 1 (cD c) := by
  obtain ⟨hw, hx, hr⟩ := h
  refine (good_tuple (w := 20) (k := 0) (n := 3) (fun d hd => ?_) (Nat.le_refl _)).mono (Nat.le_refl _) (Nat.le_refl _)
  rcases List.mem_cons.mp hd with rfl | hd
  · rcases hw with e | e <;> rw [e] <;> exact good_str (by decide +kernel) (by decide +kernel)
  · rcases List.mem_cons.mp hd with rfl | hd
    · exact good_int (by omega)
    · rw [List.mem_singleton.mp hd]
      exact good_int (by omega)
/-- claims stand at their addresses -/
def Cl (H : Hp) (ps : List (Addr × Clm)) : Prop := ∀ p ∈ ps, H p.1 = some (.tup (cV p.2))
def rV (ps : List (Addr × Clm)) : List V := ps.map fun p => V.ref p.1
theorem Cl.go {H H' : Hp} {ps : List (Addr × Clm)} (h : Cl H ps) (e : Sm H H') : Cl H' ps := fun p hp => e _ _ (h p hp)
theorem Cl.kp {H H' : Hp} {a : Addr} {N : Int} {ps : List (Addr × Clm)} (h : Cl H ps) (s : Src a N H) (g : Kp a H H') : Cl H' ps := fun p hp => g _ _ (fun z => by
  obtain ⟨c0, c1, c2, hs, _⟩ := s
  have := h p hp
  rw [z, hs] at this
  cases this) (h p hp)
theorem Cl.updL {H : Hp} {a : Addr} {o u : HO} {ps : List (Addr × Clm)} (h : Cl H ps) (ha : H a = some o) (no : ∀ vs, o ≠ .tup vs) : Cl (L2.upd H a u) ps := fun p hp => by
  have e := h p hp
  rw [upd_ne fun z => ?_]
  · exact e
  · rw [z, ha] at e
    exact no _ (Option.some.inj e)
theorem Cl.sub {H : Hp} {ps qs : List (Addr × Clm)} (h : Cl H ps) (s : ∀ p ∈ qs, p ∈ ps) : Cl H qs := fun p hp => h p (s p hp)
theorem Cl.snoc {H : Hp} {ps : List (Addr × Clm)} {p : Addr × Clm} (h : Cl H ps) (e : H p.1 = some (.tup (cV p.2))) : Cl H (ps ++ [p]) := fun q hq => by
  rcases List.mem_append.mp hq with hq | hq
  · exact h q hq
  · rw [List.mem_singleton.mp hq]; exact e
theorem Cl.refs {H : Hp} {ps : List (Addr × Clm)} (h : Cl H ps) : RefsTo H (ps.map (·.1)) ((ps.map (·.2)).map cV) := by
  refine ⟨by simp, fun j a v h1 h2 => ?_⟩
  rw [List.getElem?_map] at h1
  obtain ⟨p, hp, rfl⟩ := Option.map_eq_some_iff.mp h1
  rw [List.getElem?_map, List.getElem?_map, hp] at h2
  have z := Option.some.inj h2
  rw [← z]
  exact h p (List.mem_of_getElem? hp)
theorem Cl.dp {K : PySem.W.Frag} {H : Hp} : ∀ {ps : List (Addr × Clm)}, Cl H ps → DpAll K H (rV ps) (ps.map fun p => cD p.2)
  | [], _ => .nil
  | p :: ps, h => .cons (.tup (.inl (.inl (h p (List.mem_cons_self ..)))) (.cons (.str _) (.cons (.int _) (.cons (.int _) .nil)))) (Cl.dp fun q hq => h q (List.mem_cons_of_mem _ hq))
/-! ### a list that is not empty -/
theorem w_ne0D {K : PySem.W.Frag} {H : Hp} {Q : VK} {p q : Addr} (ds : List PyData) (h1 : Dp K H (.ref p) (.list ds)) (h2 : H q = some (.lst [])) (sh : SeqAt.shaped (.list ds) = true) (k : Q (.bl (decide (ds ≠ []))) H) : rNeD K (.ref p) (.ref q) H Q := by
  refine ⟨_, _, h1, .lst (.inl (.inl h2)) .nil, sh, shaped_ints [], ?_⟩
  cases ds with
  | nil =>
    rw [show PyData.eqv (.list ([] : List PyData)) (.list []) = true from eqv_ints []]
    simpa using k
  | cons n r =>
    have e : PyData.eqv (.list (n :: r)) (.list []) = false := by rfl
    rw [e]
    simpa using k
/-! ### a comprehension over zip -/
section
variable {K : PySem.W.Frag} {σ : L2.St} {H : Hp} {Q : VK} {ta : TA} {tt : TT} {te : TE} {vs : List Nat} {j1 j2 : Nat} {g : TG}
theorem w_lcZ (k : ta σ H fun vs1 H1 => ∃ a b xs ys, vs1 = [.ref a, .ref b] ∧ SqL K H1 a xs ∧ SqL K H1 b ys ∧ LcB (Itz K a b) g tt te vs σ H1 Q) : tLc (iZip K ta) g tt te vs σ H Q := k
theorem w_lcz {a b : Addr} {xs ys : List V} (pf : Nat → Bool) (f : Nat → V) (hx : SqL K H a xs) (hy : SqL K H b ys) (hl : ys.length = xs.length) (hz : xs.length ≤ 1000000) (hw : ∀ x y, wipe (((wipe σ vs).set j1 (some x)).set j2 (some y)) vs = wipe σ vs)
    (ht : ∀ (i : Nat) x y H', xs[i]? = some x → ys[i]? = some y → Sm H H' → ∀ R : Bool → Hp → Prop, (∀ H2, Sm H' H2 → R (pf i) H2) → tt (((wipe σ vs).set j1 (some x)).set j2 (some y)) H' R)
    (he : ∀ (i : Nat) x y H', xs[i]? = some x → ys[i]? = some y → pf i = true → Sm H H' → ∀ R : VK, (∀ H2, Sm H' H2 → R (f i) H2) → te (((wipe σ vs).set j1 (some x)).set j2 (some y)) H' R)
    (k : ∀ p H', Sm H H' → H p = none → H' p = some (.lst (((List.range xs.length).filter pf).map f)) → Q (.ref p) H') :
    ∃ a' b' xs ys, [V.ref a, V.ref b] = [.ref a', .ref b'] ∧ SqL K H a' xs ∧ SqL K H b' ys ∧ LcB (Itz K a' b') (gTup K 2 (gCons (gName j1) (gCons (gName j2) gNil))) tt te vs σ H Q := by
  refine ⟨a, b, xs, ys, rfl, hx, hy, fun D hD => ?_⟩
  refine ⟨fun i m H' => m = xs.length - i ∧ i ≤ xs.length ∧ Sm H H' ∧ H' D = some (.lst (((List.range i).filter pf).map f)), ⟨xs.length, rfl, Nat.zero_le _, same_upd hD, upd_same⟩, ?_⟩
  rintro i m H' ⟨rfl, hi, s1, h1⟩
  by_cases c : i < xs.length
  · have ex : xs[i]? = some xs[i] := List.getElem?_eq_getElem c
    have ey : ys[i]? = some (ys[i]'(by omega)) := List.getElem?_eq_getElem _
    refine .inr ⟨⟨xs, ys, _, _, s1.seq hx, s1.seq hy, ex, ey⟩, fun H2 => Sm H H2 ∧ H2 D = some (.lst (((List.range (i + 1)).filter pf).map f)), fun H2 h2 => ⟨xs.length - (i + 1), by omega, rfl, c, h2.1, h2.2⟩, fun v H2 y => ?_⟩
    obtain ⟨T, x, y, rfl, hT, rfl, hax, hay⟩ := y
    have e1 : x = xs[i] := Option.some.inj ((hax xs (s1.seq hx)).symm.trans ex)
    have e2 : y = ys[i]'(by omega) := Option.some.inj ((hay ys (s1.seq hy)).symm.trans ey)
    subst e1 e2
    have nT : D ≠ T := ne_of_none h1 hT
    have sT : Sm H' (L2.upd H' T (.tup [xs[i], ys[i]'(by omega)])) := same_upd hT
    have hd := sT _ _ h1
    refine w_gtup (.inl (.inl upd_same)) rfl (w_gcons (w_gname (w_gcons (w_gname (w_gnil ?_)))))
    generalize L2.upd H' T (.tup [xs[i], ys[i]'(by omega)]) = H3 at *
    have s3 := s1.trans sT
    refine ⟨hw _ _, ht i _ _ H3 ex ey s3 _ fun H4 s4 => ?_⟩
    rw [List.range_succ, List.filter_append, List.filter_cons, List.filter_nil]
    by_cases z : pf i = true
    · rw [if_pos z, if_pos z]
      refine he i _ _ H4 ex ey z (s3.trans s4) _ fun H5 s5 => ⟨_, s5 _ _ (s4 _ _ hd), ?_, sm_upd ((s3.trans s4).trans s5) hD, ?_⟩
      · rw [List.length_map]
        have h1 := List.length_filter_le pf (List.range i)
        rw [List.length_range] at h1
        exact Nat.lt_of_lt_of_le (show _ < 1000000 by omega) (by decide)
      · rw [upd_same, List.map_append]
        rfl
    · rw [if_neg z, if_neg z, List.append_nil]
      exact ⟨s3.trans s4, s4 _ _ hd⟩
  · have e : i = xs.length := by omega
    subst e
    exact .inl ⟨⟨xs, ys, s1.seq hx, s1.seq hy, .inl (Nat.le_refl _)⟩, k D H' s1 hD h1⟩
end
/-- what the comprehension keeps -/
theorem filter_range {α β : Type} (ps : List α) (f : α → β) (pf : α → Bool) (d : α) : (((List.range ps.length).filter fun i => pf (ps.getD i d)).map fun i => f (ps.getD i d)) = (ps.filter pf).map f := by
  have e : ps = (List.range ps.length).map fun i => ps.getD i d := by
    apply List.ext_getElem
    · simp
    · intro i h1 h2
      simp [List.getD_eq_getElem?_getD, h1]
  conv => rhs; rw [e]
  rw [List.filter_map, List.map_map]
  rfl
end SC

set_option Elab.async false
set_option linter.all false
set_option maxRecDepth 100000
set_option maxHeartbeats 4000000
/-! A def that is handed the caught error: its promise where this one object is pinned, its call, isinstance in it. -/
namespace SC
open PySem PySem.Spec PyProof.Rows L2
/-- what a def promises while p's object is pinned -/
structure FnE (P : Program) (w : World) (K : PySem.W.Frag) (mg : Str → Option Value) (base : Heap) (CX : CXT) (k : Nat) (f : Addr) (fd : FuncData) (ps : List Str) (p : Addr × Obj) (sp : Sp) : Prop where
  len : ∀ vs H Q E, sp vs H Q E → vs.length = ps.length
  go : ∀ (A : Around) (outer : List Env) (s : Shared) (H : Hp) (args : Args) (us : List Value) (vs : List V) (Q : VK) (E : XK),
    L2H.RoomH k A → L2H.PinOk outer H s p → Env0 P w K mg base A outer s H → BindsTo s fd args (ps.zip us) → Vals vs us → sp vs H Q E → codeAny (model P w) A (.call (.ref f) args) (CR CX outer P w H s Q E) s
section
variable {P : Program} {w : World} {K : PySem.W.Frag} {mg : Str → Option Value} {base : Heap} {CX : CXT}
theorem okE {x qual : Str} {st : Stmt} {f : Addr} {fd : FuncData} {N ps : List Str} {k : Nat} {p : Addr × Obj} {sp : Sp} (F : Fun K x qual st f fd) (S : FnScope N ps (defScope st)) (len : ∀ vs H Q E, sp vs H Q E → vs.length = ps.length)
    (hb : ∀ (cdv : Value) (A : Around) (outer : List Env) (s : Shared) (H : Hp) (vs : List V) (Q : VK) (E : XK), L2H.RoomH k (A.deeper (envOfC qual (defScope st) s.heap.objs.size f cdv)) → sp vs H Q E →
      ∃ t, PSs (L2H.cxH CX P w K mg base N qual (defScope st) f cdv A outer s H E p) (defBody st) t ∧ t { nx := fun _ H' => Q .non H', rt := Q } (L2.start N vs) H) : FnE P w K mg base CX (k + 1) f fd ps p sp := by
  obtain ⟨oc, od, kV, doc, pm, an, cdv, ct, osl, rfl, lk, hcd⟩ := F.ex
  refine ⟨len, ?_⟩
  intro A outer s H args us vs Q E room pin env bnd rel hsp
  have same_len := len _ _ _ _ hsp
  have inK : K.In s.heap := env.mod.kin.keeps fun b o z => (env.bs b o z).1
  have noLim : s.heap.NoLimit := env.mod.nolimit.keeps fun b o z => (env.bs b o z).1
  have kinds : ∀ y ∈ ps.zip us, (defScope st).names.lookup y.1 = some .local ∨ ((defScope st).names.lookup y.1 = some .cell ∧ ((cellsFrom (s.heap.objs.size + 1) (defScope st).names []).lookup y.1).isSome = true) := by
    rintro ⟨n, v⟩ hy
    rcases S.par n (List.of_mem_zip hy).1 with q | q
    · exact Or.inl q
    · exact Or.inr ⟨q, PySem.W.cellsFrom_some _ _ _ (Or.inl q)⟩
  refine codeAny_call_function room.depth (inK _ _ lk) rfl S.co S.gen rfl
    (PySem.W.codeRec_of inK hcd) (bnd _ _ _ _ ?_)
  refine wpAny_newFunctionEnv_cells S.kind kinds ?_
  intro e he s1 made
  subst he
  refine ⟨noLim.keeps made.toInCall.keep, codeAny_func ?_⟩
  obtain ⟨t, body, reads⟩ := hb cdv A outer s H vs Q E (room.deeper _) hsp
  have J := L2H.inv_startH (CX := CX) (E := E) S pin env same_len rel made
  refine wpAny_mono (body.run [] s1 _ H _ J reads) (fun fl s' ends => ?_) (fun _ _ z => z)
  cases fl with
  | ret u => exact let ⟨v, _, H', J', rv, q⟩ := ends; ⟨v, H', J'.os, J'.bare, J'.base, J'.hok, rv, q⟩
  | next => exact let ⟨_, H', J', q⟩ := ends; ⟨V.non, H', J'.os, J'.bare, J'.base, J'.hok, rfl, q⟩
  | brk => exact let ⟨_, _, _, q⟩ := ends; q.elim
  | cont => exact let ⟨_, _, _, q⟩ := ends; q.elim
end
section
variable {X : Cx} {CX : CXT} {k : Nat} {f : Addr} {fd : FuncData} {ps : List Str} {p : Addr × Obj} {sp : Sp} {E : L2.St → XK} {x : Str} {pq pos : Pos} {e : Expr} {es : List Expr} {t : TA}
theorem pe_callE (F : FnE X.prog X.w X.K X.mg X.base CX k f fd ps p sp) (hr : L2H.RoomH k X.A) (hp : p ∈ X.pn) (hg : Gl X x) (hm : X.mg x = some (.ref f)) (hk : PySem.W.keepIn X.K (.ref f) = true) (hb : Binds X.K fd ps []) (hx : ∀ σ, PassesAt CX X σ (E σ))
    (ha : PA X (e :: es) t) (hdb : (x == ("__debug__" : Str)) = false := by decide) (he : starEach (e :: es) X.env = (false, eval e X.env) :: starEach es X.env := by rfl) (hpl : (backTo pos (starEach es X.env)).any (·.1) = false := by rfl) :
    PE X (.Call (.Name x pq) (e :: es) [] pos) (tCallS sp E t) := by
  constructor
  intro pins s σ H Q I h
  refine wpAny_Call_Name_kw (ld_glob I hg hm ?_ hdb)
  refine PySem.W.callWith_K (h₀ := X.base) I.ok.mod.kin hk (thn (ha.run pos pins s σ H _ I h) ?_) he hpl
  rintro us s1 ⟨vs, H1, I1, r, q⟩
  refine ⟨I1.kIn, ?_⟩
  have hl : us.length = ps.length := r.length.symm.trans (F.len _ _ _ _ q)
  have b := hb s1 us I1.kIn (by simpa using hl)
  rw [List.append_nil] at b
  have pin := I1.pin p (List.mem_append_left _ hp)
  have out : p.1 ∉ frs X.stack := by
    intro hm2
    rcases List.mem_cons.mp (I1.stkSub p.1 hm2) with z | z
    · exact pin.2.2.1 z
    · exact pin.2.2.2.1 z
  refine wpAny_call (codeAny_mono (F.go X.A X.stack s1 H1 ⟨us, []⟩ us vs Q (E σ) hr ⟨pin.1, pin.2.1, out, pin.2.2.2.2⟩ I1.env0 b r q) ?_)
  intro res s' hq
  match res, hq with
  | .error err, hq => exact hx σ pins H1 s1 err s' I1 hq
  | .ok (.ret u), hq => exact I1.after hq
  | .ok .next, hq => exact hq.elim
  | .ok .brk, hq => exact hq.elim
  | .ok .cont, hq => exact hq.elim
/-- isinstance of the pinned error, of the class at D -/
theorem call_isP {D : Addr} (hp : p ∈ X.pn) (C : ExcC X.K D) (hz : Zc (.ref D) none p.2) (hf : ∃ vs, p.2.data = .fields vs) : CallR X (.builtin "isinstance") (rIsE X.K D p.1) := by
  intro pins s σ H xs us Q I r h
  obtain ⟨c, cv, b, rfl, only, kit, q⟩ := h
  match us, r with
  | _, .cons rx (.cons rt .nil) =>
    cases rx
    cases only _ rt
    have there := (I.pin p (List.mem_append_left _ hp)).1
    obtain ⟨a, ⟨oc, od, oda, osl⟩⟩ := p
    obtain ⟨vs, hv⟩ := hf
    obtain ⟨z1, z2⟩ := hz
    dsimp only at z1 z2 hv there
    subst z1 z2 hv
    exact PySem.W.kia_one (PySem.W.handS_kitx_exc C.hg C.hk C.hs C.hd C.ha C.hn C.ht C.hm) I.kIn ⟨there, rfl, rfl, trivial⟩ kit
      (fun z => nomatch z) fun tk => ⟨.bl b, H, I.kept (t' := tk) fun _ _ z => z, rfl, q⟩
end
section
variable {K : PySem.W.Frag} {H : Hp} {Q : VK} {a D C : Addr} {b : Bool}
theorem w_isEr (h : PySem.W.kitOne K (.ref D) (.ref C) = some b) (k : Q (.bl b) H) : rIsE K D a [.ref a, .ref C] H Q := ⟨_, .ref C, b, rfl, fun u r => by cases r; rfl, h, k⟩
theorem w_isEt {T : String} (h : PySem.W.kitOne K (.ref D) (.type T) = some b) (k : Q (.bl b) H) : rIsE K D a [.ref a, .ty T] H Q := ⟨_, .type T, b, rfl, fun u r => by cases r; rfl, h, k⟩
end
end SC

set_option Elab.async false
set_option linter.all false
set_option maxRecDepth 100000
set_option maxHeartbeats 4000000
set_option exponentiation.threshold 2000
/-! Errors caught; repr of lists that hold values of any kind. -/
namespace SC
open PySem PySem.Spec PyProof.Rows L2 StX
/-! ### lists whose address is told to be no table of modules -/
def NewLS (xs : List V) (H : Hp) (Q : VK) : Prop := xs.length ≤ sizeLine ∧ ∀ p, H p = none → p ≠ sysModules → Q (.ref p) (L2.upd H p (.lst xs))
def tLstS (t : TA) : TE := fun σ H Q => t σ H fun xs H1 => NewLS xs H1 Q
section
variable {X : Cx} {es : List Expr} {t : TA} {pos : Pos}
theorem pe_lstS (h : PA X es t) : PE X (.List es pos) (tLstS t) := by
  refine ⟨fun pins s σ H Q I hq => ?_⟩
  refine wpAny_List_spliced (thn (h.run pos pins s σ H _ I hq) fun us s1 ⟨xs, H1, I1, r, z, q⟩ => ⟨by rw [← r.length]; exact z, ?_⟩)
  have hf : H1 s1.heap.objs.size = none := I1.hok.fresh (Nat.le_refl _)
  refine ⟨.ref s1.heap.objs.size, L2.upd H1 s1.heap.objs.size (.lst xs), I1.laid (t' := s1.toks) (fun b u e => Heap.get?_push_of_some _ e) (Nat.le_refl _) ?_, rfl, q _ hf (Nat.ne_of_gt I1.big)⟩
  exact ⟨z, us, 0, r, Heap.get?_push_size _ rfl⟩
end
theorem w_lstS {σ : L2.St} {H : Hp} {Q : VK} {t : TA} (k : t σ H fun xs H1 => NewLS xs H1 Q) : tLstS t σ H Q := k
theorem w_newLS {H : Hp} {Q : VK} {xs : List V} (hz : xs.length ≤ 1000000) (k : ∀ p H', Sm H H' → H p = none → p ≠ sysModules → H' p = some (.lst xs) → Q (.ref p) H') : NewLS xs H Q := ⟨Nat.le_trans hz (by decide), fun p hp ns => k p _ (same_upd hp) hp ns upd_same⟩
/-! ### what a value of any kind reads as; av: addresses that it keeps clear of -/
mutual
inductive Dq (av : List Addr) (H : Hp) : V → PyData → Prop
  | non : Dq av H .non .none
  | bl (b : Bool) : Dq av H (.bl b) (.bool b)
  | int (i : Int) : Dq av H (.int i) (.int i)
  | str (x : Str) : Dq av H (.str x) (.str x)
  | lst {a : Addr} {xs : List V} {ds : List PyData} : H a = some (.lst xs) → a ∉ av → a ≠ sysModules → DqAll av H xs ds → Dq av H (.ref a) (.list ds)
  | tup {a : Addr} {xs : List V} {ds : List PyData} : H a = some (.tup xs) → a ∉ av → DqAll av H xs ds → Dq av H (.ref a) (.tuple ds)
  | dic {a : Addr} : H a = some (.dK []) → a ∉ av → Dq av H (.ref a) (.dict [])
inductive DqAll (av : List Addr) (H : Hp) : List V → List PyData → Prop
  | nil : DqAll av H [] []
  | cons {v : V} {vs : List V} {d : PyData} {ds : List PyData} : Dq av H v d → DqAll av H vs ds → DqAll av H (v :: vs) (d :: ds)
end
mutual
theorem Dq.go {av av' : List Addr} {H H' : Hp} (sub : ∀ b ∈ av', b ∈ av) (s : ∀ b o [NT o], b ∉ av → H b = some o → H' b = some o) : ∀ {v : V} {d : PyData}, Dq av H v d → Dq av' H' v d
  | _, _, .non => .non
  | _, _, .bl b => .bl b
  | _, _, .int i => .int i
  | _, _, .str x => .str x
  | _, _, .lst h m n r => .lst (s _ _ m h) (fun z => m (sub _ z)) n (DqAll.go sub s r)
  | _, _, .tup h m r => .tup (s _ _ m h) (fun z => m (sub _ z)) (DqAll.go sub s r)
  | _, _, .dic h m => .dic (s _ _ m h) (fun z => m (sub _ z))
theorem DqAll.go {av av' : List Addr} {H H' : Hp} (sub : ∀ b ∈ av', b ∈ av) (s : ∀ b o [NT o], b ∉ av → H b = some o → H' b = some o) : ∀ {vs : List V} {ds : List PyData}, DqAll av H vs ds → DqAll av' H' vs ds
  | _, _, .nil => .nil
  | _, _, .cons h r => .cons (Dq.go sub s h) (DqAll.go sub s r)
end
theorem Dq.sm {av : List Addr} {H H' : Hp} {v : V} {d : PyData} (h : Dq av H v d) (s : Sm H H') : Dq av H' v d := h.go (fun _ z => z) fun b o _ _ e => s b o e
theorem Dq.kp {av : List Addr} {H H' : Hp} {v : V} {d : PyData} {a : Addr} (h : Dq av H v d) (g : Kp a H H') (m : a ∈ av) : Dq av H' v d := h.go (fun _ z => z) fun b o _ n e => g b o (fun z => n (z ▸ m)) e
theorem Dq.updL {av : List Addr} {H : Hp} {v : V} {d : PyData} {p : Addr} {o : HO} (h : Dq av H v d) (m : p ∈ av) : Dq av (L2.upd H p o) v d := h.go (fun _ z => z) fun b o _ n e => by
  have z : b ≠ p := fun z => n (by rw [z]; exact m)
  rw [upd_ne z]
  exact e
theorem Dq.sub {av av' : List Addr} {H : Hp} {v : V} {d : PyData} (h : Dq av H v d) (s : ∀ b ∈ av', b ∈ av) : Dq av' H v d := h.go s fun b o _ _ e => e
theorem Dq.kd {av : List Addr} {H : Hp} {v : V} {d : PyData} (h : Dq av H v d) : Kd H v := by
  cases h with
  | non => exact .non
  | bl b => exact .bl b
  | int i => exact .int i
  | str x => exact .str x
  | lst h _ _ _ => exact .lst h
  | tup h _ _ => exact .tup h
  | dic h _ => exact .dic h
section
variable {X : Cx} {pins : List (Addr × Obj)} {σ : L2.St} {H : Hp} {s : Shared} {av : List Addr}
mutual
theorem Dq.reads (I : Inv X pins σ H s) : ∀ (d : PyData) (v : V) (u : Value), Dq av H v d → RelV v u → ∃ as, Reads s.heap u d as ∧ sysModules ∉ as
  | .none, _, _, h, r => by
    cases h
    cases r
    exact ⟨_, Reads.none, by simp⟩
  | .bool b, _, _, h, r => by
    cases h
    cases r
    exact ⟨_, Reads.bool b, by simp⟩
  | .int i, _, _, h, r => by
    cases h
    obtain ⟨t, rfl⟩ := r
    exact ⟨_, Reads.int i t, by simp⟩
  | .str x, _, _, h, r => by
    cases h
    obtain ⟨t, rfl⟩ := r
    exact ⟨_, Reads.str x t, by simp⟩
  | .list ds, _, _, h, r => by
    cases h with
    | lst hs hm hn ha =>
      cases r
      obtain ⟨its, rv, ⟨o, n, ho, hc, _, hd⟩, _⟩ := I.list (.inl (.inl hs))
      obtain ⟨as, hr, na⟩ := DqAll.reads I ds _ its ha rv
      exact ⟨_, Reads.list ho hc hd hr, by
        intro z
        rcases List.mem_cons.mp z with z | z
        · exact hn z.symm
        · exact na z⟩
  | .tuple ds, _, _, h, r => by
    cases h with
    | tup hs hm ha =>
      cases r
      obtain ⟨its, rv, ⟨o, ho, hc, n, hd⟩, _⟩ := I.tuple (.inl (.inl hs))
      obtain ⟨as, hr, na⟩ := DqAll.reads I ds _ its ha rv
      exact ⟨_, Reads.tuple ho hc hd hr, na⟩
  | .dict kvs, v, u, h, r => by
    cases h with
    | @dic a hs hm =>
      cases r
      obtain ⟨_, hn, vs, rk, o, es, ep, h1, h2, h3, h4, h5, h6⟩ := dk_of I.hok hs
      have hn : ¬ (a == sysModules) = true := by rw [hn]; exact Bool.false_ne_true
      cases rk
      have e : es.toList = [] := by
        cases q : es.toList with
        | nil => rfl
        | cons x r =>
          rw [q] at h5
          cases h5
      refine ⟨_, Reads.dict (as := []) (bs := []) h1 h2.1 h3 (by rw [e]; exact .nil) (by rw [e]; exact .nil), ?_⟩
      intro z
      have z : sysModules = a := by simpa using z
      exact hn (beq_iff_eq.mpr z.symm)
theorem DqAll.reads (I : Inv X pins σ H s) : ∀ (ds : List PyData) (vs : List V) (us : List Value), DqAll av H vs ds → Vals vs us → ∃ as, ReadsAll s.heap us ds as ∧ sysModules ∉ as
  | [], _, _, h, r => by
    cases h
    cases r
    exact ⟨_, ReadsAll.nil, by simp⟩
  | d :: ds, _, _, h, r => by
    cases h with
    | cons h1 h2 =>
      cases r with
      | cons r1 r2 =>
        obtain ⟨as, q1, n1⟩ := Dq.reads I d _ _ h1 r1
        obtain ⟨bs, q2, n2⟩ := DqAll.reads I ds _ _ h2 r2
        exact ⟨_, ReadsAll.cons q1 q2, fun z => (List.mem_append.mp z).elim n1 n2⟩
end
end
/-- repr of a list of values of any kind -/
def rReprQ : List V → Hp → VK → Prop := fun xs H Q => ∃ (a : Addr) (d : PyData) (av : List Addr), xs = [.ref a] ∧ Dq av H (.ref a) d ∧ d.showable = true ∧ d.depth ≤ 60 ∧ d.shown.length ≤ sizeLine ∧ Q (.str d.shown) H
theorem call_reprQ {X : Cx} (hg : X.A.guards = some []) (hu : X.A.units + 64 < cLine) : CallR X (.builtin "repr") rReprQ := by
  intro pins s σ H xs us Q I r h
  obtain ⟨a, d, av, rfl, hd, sh, hz, hl, q⟩ := h
  obtain rfl := Vals.ref1 r
  obtain ⟨as, rd, na⟩ := Dq.reads I d _ _ hd (show RelV (.ref a) (.ref a) from rfl)
  exact PySem.repr_of_reads' rd sh (fun _ => na) hg (by omega) (fun _ _ e => e) (fun h' u tk hk => ⟨.str d.shown, H, I.kept hk, ⟨u, rfl⟩, q⟩) hl
/-- data that repr shows, ints of some hundred digits -/
structure GoodQ (w k : Nat) (d : PyData) : Prop where
  sh : d.leavesShort 1921 = true
  dep : d.depth ≤ k
  wt : d.weight ≤ w
  shw : d.showable = true
theorem goodq_int {i : Int} (h : i.natAbs ≤ 2 ^ 400) : GoodQ 402 0 (.int i) := by
  have l : i.natAbs.log2 < 401 := by
    by_cases z : i.natAbs = 0
    · rw [z]; decide
    · rw [Nat.log2_lt z]; exact Nat.lt_of_le_of_lt h (by decide)
  refine ⟨?_, by simp [PyData.depth], ?_, ?_⟩
  · simp only [PyData.leavesShort]
    exact decide_eq_true (int_text_len_1921 (by omega))
  · simp only [PyData.weight]
    split <;> omega
  · simp only [PyData.showable]
    exact decide_eq_true (by omega)
theorem goodq_all {w k : Nat} : ∀ {ds : List PyData}, (∀ d ∈ ds, GoodQ w k d) → PyData.leavesShortAll 1921 ds = true ∧ PyData.depthAll ds ≤ k ∧ PyData.weightAll ds ≤ (w + 1) * ds.length ∧ PyData.showableAll ds = true
  | [], _ => ⟨rfl, by simp [PyData.depthAll], by simp [PyData.weightAll], rfl⟩
  | d :: ds, h => by
    obtain ⟨a1, a2, a3, a4⟩ := h d (List.mem_cons_self ..)
    obtain ⟨b1, b2, b3, b4⟩ := goodq_all fun d hd => h d (List.mem_cons_of_mem _ hd)
    refine ⟨by simp only [PyData.leavesShortAll, a1, b1, Bool.and_self], ?_, ?_, by simp only [PyData.showableAll, a4, b4, Bool.and_self]⟩
    · simp only [PyData.depthAll]
      omega
    · simp only [PyData.weightAll, List.length_cons, Nat.mul_succ]
      omega
theorem goodq_list {w k n : Nat} {ds : List PyData} (h : ∀ d ∈ ds, GoodQ w k d) (hn : ds.length ≤ n) : GoodQ ((w + 1) * n) (k + 1) (.list ds) := by
  obtain ⟨b1, b2, b3, b4⟩ := goodq_all h
  have m := Nat.mul_le_mul_left (w + 1) hn
  refine ⟨by simpa only [PyData.leavesShort] using b1, ?_, ?_, by simpa only [PyData.showable] using b4⟩
  · simp only [PyData.depth]
    omega
  · simp only [PyData.weight]
    omega
theorem goodq_tuple {w k n : Nat} {ds : List PyData} (h : ∀ d ∈ ds, GoodQ w k d) (hn : ds.length ≤ n) : GoodQ ((w + 1) * n) (k + 1) (.tuple ds) := by
  obtain ⟨b1, b2, b3, b4⟩ := goodq_all h
  have m := Nat.mul_le_mul_left (w + 1) hn
  refine ⟨by simpa only [PyData.leavesShort] using b1, ?_, ?_, by simpa only [PyData.showable] using b4⟩
  · simp only [PyData.depth]
    omega
  · simp only [PyData.weight]
    omega
theorem GoodQ.mono {w k w' k' : Nat} {d : PyData} (g : GoodQ w k d) (h1 : w ≤ w') (h2 : k ≤ k') : GoodQ w' k' d := ⟨g.sh, Nat.le_trans g.dep h2, Nat.le_trans g.wt h1, g.shw⟩
theorem w_repQ {H : Hp} {Q : VK} {a : Addr} {d : PyData} {w k : Nat} {av : List Addr} (h : Dq av H (.ref a) d) (g : GoodQ w k d) (h1 : w ≤ 8000) (h2 : k ≤ 60) (q : Q (.str d.shown) H) : rReprQ [.ref a] H Q := by
  refine ⟨a, d, av, rfl, h, g.shw, Nat.le_trans g.dep h2, ?_, q⟩
  have z := PyData.shown_le 1921 (by decide) d g.sh
  have y := Nat.mul_le_mul_left (1921 + 2) (Nat.le_trans g.wt h1)
  have e : sizeLine = 16777216 := by decide
  omega
/-! ### what the classes of errors say -/
/-- what is asked of the class at place i among Cs, whose first is the class of all own errors -/
def excFacts (K : PySem.W.Frag) (Cs : List Addr) (i : Nat) : Bool :=
  (PySem.W.findIn K (.ref (Cs.getD i 0)) "__getattribute__" == some (some (.builtin "BaseException.__getattribute__"))) && (PySem.W.findIn K (.ref (Cs.getD i 0)) "__getattr__" == some none) && (PySem.W.subIn K (.ref (Cs.getD i 0)) (.type "BaseException") == some true) && PySem.W.hasDictIn K (Cs.getD i 0) &&
  (PySem.W.findIn K (.ref (Cs.getD i 0)) "__class__" == some (some (.builtin "object.__class__"))) && (PySem.W.specialIn K (.builtin "object.__class__") "__get__" == some (some (.builtin "getset_descriptor.__get__"))) && (PySem.W.takesIn K (.builtin "object.__class__") == some true) && (PySem.W.mroIn K (Cs.getD i 0) (.type "object") == some true) &&
  (PySem.W.exmOne K (.ref (Cs.getD i 0)) (.ref (Cs.getD 0 0)) == some true) && (PySem.W.kitOne K (.ref (Cs.getD i 0)) (.type "ValueError") == some true) && (List.range Cs.length).all fun j => PySem.W.kitOne K (.ref (Cs.getD i 0)) (.ref (Cs.getD j 0)) == some (j == i || j == 0)
structure ExF (K : PySem.W.Frag) (Cs : List Addr) (i : Nat) : Prop where
  c : ExcC K (Cs.getD i 0)
  m : PySem.W.exmOne K (.ref (Cs.getD i 0)) (.ref (Cs.getD 0 0)) = some true
  v : PySem.W.kitOne K (.ref (Cs.getD i 0)) (.type "ValueError") = some true
  k : ∀ j, j < Cs.length → PySem.W.kitOne K (.ref (Cs.getD i 0)) (.ref (Cs.getD j 0)) = some (j == i || j == 0)
theorem exF_of {K : PySem.W.Frag} {Cs : List Addr} {i : Nat} (h : excFacts K Cs i = true) : ExF K Cs i := by
  unfold excFacts at h
  simp only [Bool.and_eq_true, beq_iff_eq, List.all_eq_true, List.mem_range] at h
  obtain ⟨⟨⟨⟨⟨⟨⟨⟨⟨⟨h1, h2⟩, h3⟩, h4⟩, h5⟩, h6⟩, h7⟩, h8⟩, h9⟩, h10⟩, h11⟩ := h
  exact ⟨⟨h1, h2, h3, h4, h5, h6, h7, h8⟩, h9, h10, h11⟩
theorem room_suite {j k : Nat} {A : Around} {x : Option Value} (hr : Room k A) (h : j ≤ k) : L2H.RoomH j (A.mark x) := ⟨(hr.mono h).dp, (hr.mono h).un⟩
/-! ### calls that may raise, by keywords; a call that lets nothing out -/
theorem pass0At {X : Cx} {σ : L2.St} {E : XK} : PassesAt CX0 X σ E := fun _ _ _ _ _ _ h => h.elim
def tCallNS (n m : Nat) (sp : Sp) (gV : List V → List V → List V) (E : L2.St → XK) (t tk : TA) : TE := fun σ H Q => t σ H fun vs H1 => tk σ H1 fun zs H2 => CallN n m sp gV (E σ) vs zs H2 Q
section
variable {X : Cx} {CX : CXT} {k n : Nat} {f : Addr} {fd : FuncData} {ps ks : List Str} {sp : Sp} {E : L2.St → XK} {x : Str} {p pos : Pos} {e : Expr} {es : List Expr} {kws : List Keyword} {t tk : TA} {g : List Value → List Value → List Value} {gV : List V → List V → List V}
theorem run_fnNS {pins : List (Addr × Obj)} {σ : L2.St} {H : Hp} {s : Shared} {Q : VK} {us ws : List Value} {vs zs : List V} (F : FnOk X.prog X.w X.K X.mg X.base CX k f fd ps sp) (hr : Room k X.A) (hb : KBn X.K fd ps n ks g gV) (hx : PassesAt CX X σ (E σ))
    (I : Inv X pins σ H s) (r : Vals vs us) (rz : Vals zs ws) (l1 : vs.length = n) (l2 : zs.length = ks.length) (h : sp (gV vs zs) H Q (E σ)) : wpAny (model X.prog X.w) X.A (call (.ref f) us (ks.zip ws)) (EP X pins σ Q) X.xe s := by
  have r2 := hb.rel r rz
  refine wpAny_call (codeAny_mono (F.run X.A X.stack s H ⟨us, ks.zip ws⟩ (g us ws) (gV vs zs) Q (E σ) hr I.env0 (hb.to s us ws I.kIn (r.length.symm.trans l1) (rz.length.symm.trans l2)) r2 h) fun r s' hq => ?_)
  cases r with
  | error e => exact hx pins H s e s' I hq
  | ok fl =>
    cases fl with
    | ret u => exact I.after hq
    | next => exact False.elim hq
    | brk => exact False.elim hq
    | cont => exact False.elim hq
theorem pe_callN0S (F : FnOk X.prog X.w X.K X.mg X.base CX k f fd ps sp) (hr : Room k X.A) (hg : Gl X x) (hm : X.mg x = some (.ref f)) (hk : PySem.W.keepIn X.K (.ref f) = true) (hb : KBn X.K fd ps 0 ks g gV) (hx : ∀ σ, PassesAt CX X σ (E σ))
    (hkw : PK X kws tk) (hall : (backToKw pos (keywordEach kws X.env)).all (·.1.isSome) = true := by rfl) (hks : (backToKw pos (keywordEach kws X.env)).filterMap (·.1) = ks := by rfl)
    (hdb : (x == ("__debug__" : Str)) = false := by decide)
    (hpl : ((backTo pos (starEach [] X.env)).any (·.1) || (backToKw pos (keywordEach kws X.env)).any (·.1.isNone)) = false := by rfl) :
    PE X (.Call (.Name x p) [] kws pos) (tCallNS 0 ks.length sp gV E tNil tk) := by
  refine ⟨fun pins s σ H Q I h => ?_⟩
  refine wpAny_Call_Name_kw (ld_glob I hg hm ?_ hdb)
  refine PySem.W.callWith_KW0 (h₀ := X.base) I.ok.mod.kin hk hall ?_ hpl
  refine thn (hkw.run pos pins s σ H _ I h) fun ws s2 ⟨zs, H2, I2, rz, l1, l2, q2⟩ => ⟨I2.kIn, ?_⟩
  rw [hks]
  exact run_fnNS (us := []) F hr hb (hx σ) I2 .nil rz l1 l2 q2
end
section
variable {σ : L2.St} {H : Hp} {Q : VK} {sp : Sp} {E : L2.St → XK} {t tk : TA} {n m : Nat} {gV : List V → List V → List V}
theorem w_callNS (k : t σ H fun vs H1 => tk σ H1 fun zs H2 => CallN n m sp gV (E σ) vs zs H2 Q) : tCallNS n m sp gV E t tk σ H Q := k
theorem w_callSS (k : t σ H fun vs H1 => sp vs H1 Q (E σ)) : L2.tCallS sp E t σ H Q := k
end
theorem out_ifo {c : Bool} {C : Addr} {Q : VK} {E : XK} {H : Hp} {o : Out} (h1 : c = true → o.to Q E H) (h2 : c = false → E (.ref C) none H) : (if c = true then o else .err C).to Q E H := by
  cases c with
  | true => exact h1 rfl
  | false => exact h2 rfl
theorem out_val {Q : VK} {E : XK} {H : Hp} {v : V} (h : Q v H) : (Out.val v).to Q E H := h
theorem w_setL' {p : Addr} {xs ys : List V} {i : Int} {n : Nat} {v : V} {H : Hp} {R : Hp → Prop} (h : H p = some (.lst xs)) (hj : ixN xs.length i = some n) (e : xs.set n v = ys) (k : R (L2.upd H p (.lst ys))) : rSetL (.ref p) (.int i) v H R := w_setL h hj (by rw [e]; exact k)
/-! ### checks of a value from some int on -/
def fromI (v : V) (l : Int) : Bool := match v with
  | .int i => decide (l ≤ i)
  | _ => false
theorem fromI_int {v : V} {l : Int} (e : fromI v l = true) : ∃ i, v = .int i ∧ l ≤ i := by
  cases v with
  | int i => exact ⟨i, rfl, of_decide_eq_true e⟩
  | _ => cases e
def SpFrom : Sp := fun vs H Q _ => ∃ v l, vs = [v, .int l] ∧ Kd H v ∧ ∀ H', Sm H H' → Q (.bl (fromI v l)) H'
theorem w_from {H : Hp} {Q : VK} {E : XK} {v : V} {l : Int} (hv : Kd H v) (q : ∀ H', Sm H H' → Q (.bl (fromI v l)) H') : SpFrom ([v, .int l] ++ []) H Q E := ⟨v, l, rfl, hv, q⟩
/-- a value that is no int from l on -/
def Odd (v : V) (l : Int) : Prop := ∀ i, v = .int i → i < l
theorem Odd.from {v : V} {l : Int} (h : Odd v l) : fromI v l = false := by
  cases v with
  | int i => exact decide_eq_false (by have := h i rfl; omega)
  | _ => rfl
theorem Odd.inR {v : V} {l x : Int} (h : Odd v l) : SC.inR v l x = false := by
  cases v with
  | int i => exact decide_eq_false (by have := h i rfl; omega)
  | _ => rfl
/-! ### a caught error's name -/
section
variable {K : PySem.W.Frag} {H : Hp} {Q : VK} {a : Addr} {Cs : List Addr} {i : Nat}
theorem w_isX (f : ExF K Cs i) (j : Nat) {b : Bool} (hj : j < Cs.length) (hb : (j == i || j == 0) = b) (k : Q (.bl b) H) : rIsE K (Cs.getD i 0) a [.ref a, .ref (Cs.getD j 0)] H Q := w_isEr (by rw [f.k j hj, hb]) k
theorem w_isXv (f : ExF K Cs i) (k : Q (.bl true) H) : rIsE K (Cs.getD i 0) a [.ref a, .ty "ValueError"] H Q := w_isEt f.v k
end
/-! ### the names of all classes of a caught error -/
def nmL (nm : List Str) (i j : Nat) : List V := if i ≤ j then [V.str (nm.getD i "")] else []
theorem nmL_step {nm : List Str} {i j : Nat} : nmL nm i j ++ (List.replicate (if (j + 1 == i || j + 1 == 0) = true then (1 : Int) else 0).toNat [V.str (nm.getD (j + 1) "")]).flatten = nmL nm i (j + 1) := by
  unfold nmL
  by_cases c : j + 1 = i
  · subst c
    rw [if_neg (by omega), if_pos (Nat.le_refl _)]
    have e : (j + 1 == j + 1 || j + 1 == 0) = true := by simp
    rw [e, if_pos rfl]
    rfl
  · have e : (j + 1 == i || j + 1 == 0) = false := by simp [c]
    rw [e, if_neg Bool.false_ne_true]
    by_cases d : i ≤ j
    · rw [if_pos d, if_pos (by omega)]
      simp
    · rw [if_neg d, if_neg (by omega)]
      simp
section
variable {K : PySem.W.Frag} {H : Hp} {a L : Addr} {Cs : List Addr} {i : Nat} {σ : L2.St} {D : Ends} {nm : List Str}
theorem w_kfirst {x : Str} {c : Addr} (f : ExF K Cs i) (hi : 0 < i) (hj : 1 < Cs.length) (hx : nm.getD 1 "" = x) (hc : Cs.getD 1 0 = c) {y1 y2 : Option V} (k : ∀ L' H', Sm H H' → H L' = none → H' L' = some (.lst (nmL nm i 1)) → D.nx [some (.ref a), some (.ref L'), y2] H') :
    tAsg (tOp rRep (tLst (tCons (tC (.str x)) tNil)) (tCB rInt1 (tCons (tCB (rIsE K (Cs.getD i 0) a) (tCons (tVar 0) (tCons (tC (.ref c)) tNil))) tNil))) (gName 1) D [some (.ref a), y1, y2] H := by
  subst hx hc
  refine w_asg ?_
  refine w_op ?_
  refine w_lst' ?_
  refine w_cons ?_
  refine w_c ?_
  refine w_nil ?_
  refine w_newZ (by simp) fun L1 H1 e1 f1 h1 => ?_
  refine w_cb ?_
  refine w_cons ?_
  refine w_cb ?_
  refine w_cons ?_
  refine w_var rfl ?_
  refine w_cons ?_
  refine w_c ?_
  refine w_nil ?_
  refine w_isX f 1 hj rfl ?_
  refine w_nil ?_
  refine w_intB ?_
  have o : ∀ b : Bool, (if b = true then (1 : Int) else 0) = 0 ∨ (if b = true then (1 : Int) else 0) = 1 := fun b => by cases b <;> simp
  refine w_rep h1 ?_ ?_ ?_ fun L2 H2 e2 f2 h2 => ?_
  · rcases o (1 == i || 1 == 0) with e | e <;> rw [e] <;> decide
  · rcases o (1 == i || 1 == 0) with e | e <;> rw [e] <;> decide
  · rcases o (1 == i || 1 == 0) with e | e <;> rw [e] <;> simp
  · refine w_gname (k L2 H2 (e1.trans e2) (e1.fr _ f2) ?_)
    have z := nmL_step (nm := nm) (i := i) (j := 0)
    rw [show nmL nm i 0 = [] from if_neg (by omega), List.nil_append] at z
    rw [h2, ← z]
theorem w_kstep {x : Str} {c : Addr} (f : ExF K Cs i) (j j' : Nat) (hjj : j + 1 = j') (hj : j' < Cs.length) (hx : nm.getD j' "" = x) (hc : Cs.getD j' 0 = c) {y2 : Option V} (hL : H L = some (.lst (nmL nm i j))) (k : ∀ L' H', Sm H H' → H L' = none → H' L' = some (.lst (nmL nm i j')) → D.nx [some (.ref a), some (.ref L'), y2] H') :
    tAsg (tOp rCat (tVar 1) (tOp rRep (tLst (tCons (tC (.str x)) tNil)) (tCB rInt1 (tCons (tCB (rIsE K (Cs.getD i 0) a) (tCons (tVar 0) (tCons (tC (.ref c)) tNil))) tNil)))) (gName 1) D [some (.ref a), some (.ref L), y2] H := by
  subst hx hc hjj
  refine w_asg ?_
  refine w_op ?_
  refine w_var rfl ?_
  refine w_op ?_
  refine w_lst' ?_
  refine w_cons ?_
  refine w_c ?_
  refine w_nil ?_
  refine w_newZ (by simp) fun L1 H1 e1 f1 g1 => ?_
  refine w_cb ?_
  refine w_cons ?_
  refine w_cb ?_
  refine w_cons ?_
  refine w_var rfl ?_
  refine w_cons ?_
  refine w_c ?_
  refine w_nil ?_
  refine w_isX f (j + 1) hj rfl ?_
  refine w_nil ?_
  refine w_intB ?_
  have o : ∀ b : Bool, (if b = true then (1 : Int) else 0) = 0 ∨ (if b = true then (1 : Int) else 0) = 1 := fun b => by cases b <;> simp
  have ll : (nmL nm i j).length ≤ 1 := by unfold nmL; split <;> simp
  refine w_rep g1 ?_ ?_ ?_ fun L2 H2 e2 f2 g2 => ?_
  · rcases o (j + 1 == i || j + 1 == 0) with e | e <;> rw [e] <;> decide
  · rcases o (j + 1 == i || j + 1 == 0) with e | e <;> rw [e] <;> decide
  · rcases o (j + 1 == i || j + 1 == 0) with e | e <;> rw [e] <;> simp
  refine w_cat ((e1.trans e2) _ _ hL) g2 ?_ fun L3 H3 e3 f3 g3 => ?_
  · rcases o (j + 1 == i || j + 1 == 0) with e | e <;> rw [e] <;> simp <;> omega
  · refine w_gname (k L3 H3 ((e1.trans e2).trans e3) ((e1.trans e2).fr _ f3) ?_)
    rw [g3, nmL_step]
end
end SC

set_option Elab.async false
set_option linter.all false
set_option maxRecDepth 100000
set_option maxHeartbeats 4000000
set_option exponentiation.threshold 2000
/-! Lists of any winners, whether they are a result; data without dicts, repr and str of them. -/
namespace SC
open PySem PySem.Spec PyProof.Rows L2 StX
/-! ### the rows of a full list of winners -/
def stp (s d : Nat) : Nat := 2 ^ s - 2 ^ (s - d)
theorem stp_succ {s d : Nat} (h : d < s) : stp s (d + 1) = stp s d + 2 ^ (s - (d + 1)) := by
  unfold stp
  have := pow_half h
  have : 2 ^ (s - d) ≤ 2 ^ s := Nat.pow_le_pow_right (by decide) (by omega)
  omega
theorem stp_zero {s : Nat} : stp s 0 = 0 := by unfold stp; rw [Nat.sub_zero, Nat.sub_self]
theorem stp_full {s : Nat} : stp s s + 1 = 2 ^ s := by
  unfold stp
  rw [Nat.sub_self]
  have : 0 < 2 ^ s := Nat.pow_pos (by decide)
  omega
theorem stp_le {s d : Nat} (h : d ≤ s) : stp s d + 2 ^ (s - d) = 2 ^ s := by
  unfold stp
  have : 2 ^ (s - d) ≤ 2 ^ s := Nat.pow_le_pow_right (by decide) (by omega)
  omega
def PW (s : Nat) (ws : List Int) : Nat → List Int
  | 0 => seeds s
  | d + 1 => (ws.drop (stp s d)).take (2 ^ (s - (d + 1)))
theorem seeds_len (s : Nat) : (seeds s).length = 2 ^ s := by simp [seeds]
theorem PW_len {s : Nat} {ws : List Int} (h : ws.length + 1 = 2 ^ s) : ∀ {d : Nat}, d ≤ s → (PW s ws d).length = 2 ^ (s - d)
  | 0, _ => by rw [Nat.sub_zero]; exact seeds_len s
  | d + 1, hd => by
    have h1 := stp_succ (s := s) (d := d) (by omega)
    have h2 := stp_le (s := s) (d := d + 1) hd
    have h3 : 0 < 2 ^ (s - (d + 1)) := Nat.pow_pos (by decide)
    show ((ws.drop (stp s d)).take (2 ^ (s - (d + 1)))).length = _
    rw [List.length_take, List.length_drop]
    omega
def FW (s : Nat) (ws : List Int) (d : Nat) : List Int := ws.take (stp s d)
theorem FW_succ {s d : Nat} {ws : List Int} (h : d < s) : FW s ws (d + 1) = FW s ws d ++ PW s ws (d + 1) := by
  unfold FW
  rw [stp_succ h, List.take_add]
  rfl
theorem FW_len {s d : Nat} {ws : List Int} (h : ws.length + 1 = 2 ^ s) (hd : d ≤ s) : (FW s ws d).length = stp s d := by
  have h2 := stp_le (s := s) (d := d) hd
  have h3 : 0 < 2 ^ (s - d) := Nat.pow_pos (by decide)
  unfold FW
  rw [List.length_take]
  omega
theorem FW_full {s : Nat} {ws : List Int} (h : ws.length + 1 = 2 ^ s) : FW s ws s = ws := by
  have := stp_full (s := s)
  exact List.take_of_length_le (by omega)
def MW (s : Nat) (ws : List Int) : Nat → List (Int × Int)
  | 0 => []
  | d + 1 => MW s ws d ++ prs (PW s ws d)
theorem MW_len {s : Nat} {ws : List Int} (h : ws.length + 1 = 2 ^ s) : ∀ {d : Nat}, d ≤ s → (MW s ws d).length = stp s d
  | 0, _ => stp_zero.symm
  | d + 1, hd => by
    show (MW s ws d ++ prs (PW s ws d)).length = _
    rw [List.length_append, MW_len h (by omega), prs_len, PW_len h (by omega), stp_succ (by omega)]
    have := pow_half (s := s) (d := d) (by omega)
    omega
theorem MW_pre {s : Nat} {ws : List Int} {d : Nat} : ∀ k : Nat, ∃ r, MW s ws (d + k) = MW s ws d ++ r
  | 0 => ⟨[], by simp⟩
  | k + 1 => by
    obtain ⟨r, e⟩ := MW_pre (s := s) (ws := ws) (d := d) k
    exact ⟨r ++ prs (PW s ws (d + k)), by rw [← Nat.add_assoc, ← List.append_assoc, ← e]; rfl⟩
theorem MW_at {s : Nat} {ws : List Int} (h : ws.length + 1 = 2 ^ s) {d j : Nat} (hd : d < s) (hj : j < 2 ^ (s - (d + 1))) : (MW s ws s)[stp s d + j]? = some (prAt (PW s ws d) j) := by
  obtain ⟨r, e⟩ := MW_pre (s := s) (ws := ws) (d := d + 1) (s - (d + 1))
  rw [show d + 1 + (s - (d + 1)) = s by omega] at e
  have l0 := MW_len h (d := d) (by omega)
  have lp := PW_len h (d := d) (by omega)
  have ph := pow_half (s := s) (d := d) (by omega)
  have l1 : (prs (PW s ws d)).length = 2 ^ (s - (d + 1)) := by rw [prs_len]; omega
  rw [e]
  show ((MW s ws d ++ prs (PW s ws d)) ++ r)[_]? = _
  rw [List.append_assoc, List.getElem?_append_right (by omega), List.getElem?_append_left (by omega), show stp s d + j - (MW s ws d).length = j by omega]
  unfold prs
  rw [List.getElem?_map, List.getElem?_range (by omega)]
  rfl
theorem PW_at {s : Nat} {ws : List Int} {d j : Nat} (hj : j < 2 ^ (s - (d + 1))) : (PW s ws (d + 1))[j]? = ws[stp s d + j]? := by
  show ((ws.drop (stp s d)).take (2 ^ (s - (d + 1))))[j]? = _
  rw [List.getElem?_take_of_lt hj, List.getElem?_drop]
/-- each index is a place of a round -/
theorem stp_split {s : Nat} : ∀ {n i : Nat}, n ≤ s → i < stp s n → ∃ d j, d < n ∧ j < 2 ^ (s - (d + 1)) ∧ i = stp s d + j
  | 0, i, _, h => by rw [stp_zero] at h; omega
  | n + 1, i, hn, h => by
    by_cases c : i < stp s n
    · obtain ⟨d, j, h1, h2, h3⟩ := stp_split (by omega) c
      exact ⟨d, j, by omega, h2, h3⟩
    · rw [stp_succ (by omega)] at h
      exact ⟨n, i - stp s n, by omega, by omega, by omega⟩
def hit (s : Nat) (ws : List Int) (i : Nat) : Bool := decide (ws.getD i 0 = ((MW s ws s).getD i (0, 0)).1 ∨ ws.getD i 0 = ((MW s ws s).getD i (0, 0)).2)
def okW (s : Nat) (ws : List Int) : Bool := (List.range ws.length).all (hit s ws)
/-- whether a list of any values is a result -/
def resL (s : Nat) (vs : List V) : Bool := decide (vs.length + 1 = 2 ^ s) && (vs.all isI && okW s (vs.map iv))
theorem resL_not {s : Nat} {vs : List V} {i : Nat} {v : V} (h : vs[i]? = some v) (hv : isI v = false) : resL s vs = false := by
  unfold resL
  have : vs.all isI = false := by
    rw [List.all_eq_false]
    exact ⟨v, List.mem_of_getElem? h, by rw [hv]; exact Bool.false_ne_true⟩
  rw [this, Bool.false_and, Bool.and_false]
theorem resL_miss {s : Nat} {vs : List V} {i : Nat} (h : i < vs.length) (hv : hit s (vs.map iv) i = false) : resL s vs = false := by
  unfold resL
  have : okW s (vs.map iv) = false := by
    unfold okW
    rw [List.all_eq_false]
    exact ⟨i, List.mem_range.mpr (by rw [List.length_map]; exact h), by rw [hv]; exact Bool.false_ne_true⟩
  rw [this, Bool.and_false, Bool.and_false]
theorem resL_all {s : Nat} {vs : List V} (hl : vs.length + 1 = 2 ^ s) (h : ∀ i v, vs[i]? = some v → isI v = true ∧ hit s (vs.map iv) i = true) : resL s vs = true := by
  unfold resL okW
  rw [decide_eq_true hl, Bool.true_and, Bool.and_eq_true, List.all_eq_true, List.all_eq_true]
  refine ⟨fun v hv => ?_, fun i hi => ?_⟩
  · obtain ⟨i, hi⟩ := List.getElem?_of_mem hv
    exact (h i v hi).1
  · rw [List.mem_range, List.length_map] at hi
    exact (h i _ (List.getElem?_eq_getElem hi)).2
/-- a list or something else -/
inductive Tg (H : Hp) : V → Option (List V) → Prop
  | lst {a : Addr} {xs : List V} (e : H a = some (.lst xs)) (k : ∀ x ∈ xs, Kd H x) : Tg H (.ref a) (some xs)
  | oth {v : V} (k : Kd H v) (n : ∀ a xs, v = .ref a → H a ≠ some (.lst xs)) : Tg H v none
def resO (s : Nat) : Option (List V) → Bool
  | none => false
  | some vs => resL s vs
theorem Tg.kd {H : Hp} {v : V} {o : Option (List V)} (h : Tg H v o) : Kd H v := by
  cases h with
  | lst e k => exact .lst e
  | oth k n => exact k
theorem Tg.same {H H' : Hp} {v : V} {o : Option (List V)} (h : Tg H v o) (s : Sm H H') : Tg H' v o := by
  cases h with
  | lst e k => exact .lst (s _ _ e) fun x hx => (k x hx).same s
  | oth k n =>
    refine .oth (k.same s) fun a xs e z => ?_
    subst e
    cases k with
    | lst e => exact n _ _ rfl e
    | tup e => rw [s _ _ e] at z; cases z
    | dic e => rw [s _ _ e] at z; cases z
def isLs : Option (List V) → Bool
  | none => false
  | some _ => true
section
variable {K : PySem.W.Frag} {H : Hp} {Q : VK} {v : V}
theorem w_isLst {o : Option (List V)} (h : Tg H v o) (k : Q (.bl (isLs o)) H) : rIsi K [v, .ty "list"] H Q := by
  cases h with
  | lst e _ => exact ⟨_, _, _, _, true, rfl, .ty _, .base (.lst e), kit_ty (by decide +kernel), k⟩
  | oth kd n =>
    cases kd with
    | int i => exact ⟨_, _, _, _, false, rfl, .ty _, .base (.int i), kit_ty (by decide +kernel), k⟩
    | bl b => exact ⟨_, _, _, _, false, rfl, .ty _, .base (.bl b), kit_ty (by decide +kernel), k⟩
    | non => exact ⟨_, _, _, _, false, rfl, .ty _, .base .non, kit_ty (by decide +kernel), k⟩
    | str s => exact ⟨_, _, _, _, false, rfl, .ty _, .base (.str s), kit_ty (by decide +kernel), k⟩
    | lst e => exact absurd e (n _ _ rfl)
    | tup e => exact ⟨_, _, _, _, false, rfl, .ty _, .base (.tup e), kit_ty (by decide +kernel), k⟩
    | dic e => exact ⟨_, _, _, _, false, rfl, .ty _, .base (.dK e), kit_ty (by decide +kernel), k⟩
end
/-! ### data without dicts -/
mutual
inductive Dz (av : List Addr) (H : Hp) : V → PyData → Prop
  | non : Dz av H .non .none
  | bl (b : Bool) : Dz av H (.bl b) (.bool b)
  | int (i : Int) : Dz av H (.int i) (.int i)
  | str (x : Str) : Dz av H (.str x) (.str x)
  | lst {a : Addr} {xs : List V} {ds : List PyData} : H a = some (.lst xs) → a ∉ av → DzAll av H xs ds → Dz av H (.ref a) (.list ds)
  | tup {a : Addr} {xs : List V} {ds : List PyData} : H a = some (.tup xs) → a ∉ av → DzAll av H xs ds → Dz av H (.ref a) (.tuple ds)
inductive DzAll (av : List Addr) (H : Hp) : List V → List PyData → Prop
  | nil : DzAll av H [] []
  | cons {v : V} {vs : List V} {d : PyData} {ds : List PyData} : Dz av H v d → DzAll av H vs ds → DzAll av H (v :: vs) (d :: ds)
end
mutual
theorem Dz.go {av : List Addr} {H H' : Hp} (s : ∀ b o [NT o], b ∉ av → H b = some o → H' b = some o) : ∀ {v : V} {d : PyData}, Dz av H v d → Dz av H' v d
  | _, _, .non => .non
  | _, _, .bl b => .bl b
  | _, _, .int i => .int i
  | _, _, .str x => .str x
  | _, _, .lst h m r => .lst (s _ _ m h) m (DzAll.go s r)
  | _, _, .tup h m r => .tup (s _ _ m h) m (DzAll.go s r)
theorem DzAll.go {av : List Addr} {H H' : Hp} (s : ∀ b o [NT o], b ∉ av → H b = some o → H' b = some o) : ∀ {vs : List V} {ds : List PyData}, DzAll av H vs ds → DzAll av H' vs ds
  | _, _, .nil => .nil
  | _, _, .cons h r => .cons (Dz.go s h) (DzAll.go s r)
end
theorem Dz.sm {av : List Addr} {H H' : Hp} {v : V} {d : PyData} (h : Dz av H v d) (s : Sm H H') : Dz av H' v d := h.go fun b o _ _ e => s b o e
theorem Dz.kp {av : List Addr} {H H' : Hp} {v : V} {d : PyData} {a : Addr} (h : Dz av H v d) (g : Kp a H H') (m : a ∈ av) : Dz av H' v d := h.go fun b o _ n e => g b o (fun z => n (z ▸ m)) e
theorem Dz.kd {av : List Addr} {H : Hp} {v : V} {d : PyData} (h : Dz av H v d) : Kd H v := by
  cases h with
  | non => exact .non
  | bl b => exact .bl b
  | int i => exact .int i
  | str x => exact .str x
  | lst h _ _ => exact .lst h
  | tup h _ _ => exact .tup h
theorem dzAll_kd {av : List Addr} {H : Hp} : ∀ {vs : List V} {ds : List PyData}, DzAll av H vs ds → ∀ v ∈ vs, Kd H v
  | _, _, .nil, _, h => absurd h List.not_mem_nil
  | _, _, .cons h r, v, hv => by
    rcases List.mem_cons.mp hv with rfl | hv
    · exact h.kd
    · exact dzAll_kd r v hv
section
variable {X : Cx} {pins : List (Addr × Obj)} {σ : L2.St} {H : Hp} {s : Shared} {av : List Addr}
mutual
theorem Dz.reads (I : Inv X pins σ H s) : ∀ (d : PyData) (v : V) (u : Value), Dz av H v d → RelV v u → ∃ as, Reads s.heap u d as ∧ d.hasDict = false
  | .none, _, _, h, r => by
    cases h
    cases r
    exact ⟨_, Reads.none, rfl⟩
  | .bool b, _, _, h, r => by
    cases h
    cases r
    exact ⟨_, Reads.bool b, rfl⟩
  | .int i, _, _, h, r => by
    cases h
    obtain ⟨t, rfl⟩ := r
    exact ⟨_, Reads.int i t, rfl⟩
  | .str x, _, _, h, r => by
    cases h
    obtain ⟨t, rfl⟩ := r
    exact ⟨_, Reads.str x t, rfl⟩
  | .list ds, _, _, h, r => by
    cases h with
    | lst hs hm ha =>
      cases r
      obtain ⟨its, rv, ⟨o, n, ho, hc, _, hd⟩, _⟩ := I.list (.inl (.inl hs))
      obtain ⟨as, hr, na⟩ := DzAll.reads I ds _ its ha rv
      exact ⟨_, Reads.list ho hc hd hr, by simpa only [PyData.hasDict] using na⟩
  | .tuple ds, _, _, h, r => by
    cases h with
    | tup hs hm ha =>
      cases r
      obtain ⟨its, rv, ⟨o, ho, hc, n, hd⟩, _⟩ := I.tuple (.inl (.inl hs))
      obtain ⟨as, hr, na⟩ := DzAll.reads I ds _ its ha rv
      exact ⟨_, Reads.tuple ho hc hd hr, by simpa only [PyData.hasDict] using na⟩
  | .dict kvs, v, u, h, r => nomatch h
theorem DzAll.reads (I : Inv X pins σ H s) : ∀ (ds : List PyData) (vs : List V) (us : List Value), DzAll av H vs ds → Vals vs us → ∃ as, ReadsAll s.heap us ds as ∧ PyData.hasDictAll ds = false
  | [], _, _, h, r => by
    cases h
    cases r
    exact ⟨_, ReadsAll.nil, rfl⟩
  | d :: ds, _, _, h, r => by
    cases h with
    | cons h1 h2 =>
      cases r with
      | cons r1 r2 =>
        obtain ⟨as, q1, n1⟩ := Dz.reads I d _ _ h1 r1
        obtain ⟨bs, q2, n2⟩ := DzAll.reads I ds _ _ h2 r2
        exact ⟨_, ReadsAll.cons q1 q2, by simp only [PyData.hasDictAll, n1, n2, Bool.or_self]⟩
end
end
/-- what str makes of a value -/
def strOfD : PyData → Str
  | .str x => x
  | d => d.shown
/-- data that is shown -/
structure Shw (d : PyData) : Prop where
  sh : d.showable = true
  dep : d.depth ≤ 60
  len : d.shown.length ≤ sizeLine
  int : ∀ i, d = .int i → i.natAbs.log2 < 1920
def rReprZ : List V → Hp → VK → Prop := fun xs H Q => ∃ (v : V) (d : PyData) (av : List Addr), xs = [v] ∧ (Dz av H v d ∨ Dq av H v d ∧ d = .dict []) ∧ Shw d ∧ Q (.str d.shown) H
def rStrZ : List V → Hp → VK → Prop := fun xs H Q => ∃ (v : V) (d : PyData) (av : List Addr), xs = [v] ∧ Dz av H v d ∧ Shw d ∧ Q (.str (strOfD d)) H
theorem call_reprZ {X : Cx} (hg : X.A.guards = some []) (hu : X.A.units + 64 < cLine) : CallR X (.builtin "repr") rReprZ := by
  intro pins s σ H xs us Q I r h
  obtain ⟨v, d, av, rfl, hd, ⟨sh, hz, hl, hi⟩, q⟩ := h
  obtain ⟨u, rfl, ru⟩ := vals1 r
  rcases hd with hd | ⟨hd, rfl⟩
  · obtain ⟨as, rd, na⟩ := Dz.reads I d _ _ hd ru
    cases hd with
    | non =>
      cases ru
      exact P.repr_of_none ⟨.str _, H, I.tok _, ⟨_, rfl⟩, q⟩
    | bl b =>
      cases ru
      exact P.repr_of_bool ⟨.str _, H, I.tok _, ⟨_, rfl⟩, q⟩
    | int i =>
      obtain ⟨t, rfl⟩ := ru
      exact P.repr_of_int (hi i rfl) ⟨.str _, H, I.tok _, ⟨_, rfl⟩, q⟩
    | str x =>
      obtain ⟨t, rfl⟩ := ru
      exact P.repr_of_str ⟨.str _, H, I.tok _, ⟨_, rfl⟩, q⟩ hl
    | lst _ _ _ =>
      cases ru
      exact PySem.repr_of_reads' rd sh (fun z => by rw [na] at z; cases z) hg (by omega) (fun _ _ e => e) (fun h' u tk hk => ⟨.str _, H, I.kept hk, ⟨u, rfl⟩, q⟩) hl
    | tup _ _ _ =>
      cases ru
      exact PySem.repr_of_reads' rd sh (fun z => by rw [na] at z; cases z) hg (by omega) (fun _ _ e => e) (fun h' u tk hk => ⟨.str _, H, I.kept hk, ⟨u, rfl⟩, q⟩) hl
  · obtain ⟨as, rd, na⟩ := Dq.reads I _ _ _ hd ru
    cases hd with
    | dic _ _ =>
      cases ru
      exact PySem.repr_of_reads' rd sh (fun _ => na) hg (by omega) (fun _ _ e => e) (fun h' u tk hk => ⟨.str _, H, I.kept hk, ⟨u, rfl⟩, q⟩) hl
theorem call_strZ {X : Cx} (hg : X.A.guards = some []) (hu : X.A.units + 64 < cLine) : CallR X (.type "str") rStrZ := by
  intro pins s σ H xs us Q I r h
  obtain ⟨v, d, av, rfl, hd, ⟨sh, hz, hl, hi⟩, q⟩ := h
  obtain ⟨u, rfl, ru⟩ := vals1 r
  obtain ⟨as, rd, na⟩ := Dz.reads I d _ _ hd ru
  cases hd with
  | non =>
    cases ru
    exact P.str_of_none ⟨.str _, H, I.tok _, ⟨_, rfl⟩, q⟩
  | bl b =>
    cases ru
    exact P.str_of_bool ⟨.str _, H, I.tok _, ⟨_, rfl⟩, q⟩
  | int i =>
    obtain ⟨t, rfl⟩ := ru
    exact P.str_of_int (hi i rfl) ⟨.str _, H, I.tok _, ⟨_, rfl⟩, q⟩
  | str x =>
    obtain ⟨t, rfl⟩ := ru
    exact P.str_of_str ⟨.str _, H, I, ⟨_, rfl⟩, q⟩
  | lst _ _ _ =>
    cases ru
    exact PySem.str_of_reads rd sh (fun z => by rw [na] at z; cases z) hg (by omega) (fun _ _ e => e) (fun h' u tk hk => ⟨.str _, H, I.kept hk, ⟨u, rfl⟩, q⟩) hl
  | tup _ _ _ =>
    cases ru
    exact PySem.str_of_reads rd sh (fun z => by rw [na] at z; cases z) hg (by omega) (fun _ _ e => e) (fun h' u tk hk => ⟨.str _, H, I.kept hk, ⟨u, rfl⟩, q⟩) hl
theorem w_reprZ {H : Hp} {Q : VK} {v : V} {d : PyData} {av : List Addr} (h : Dz av H v d ∨ Dq av H v d ∧ d = .dict []) (g : Shw d) (q : Q (.str d.shown) H) : rReprZ [v] H Q := ⟨v, d, av, rfl, h, g, q⟩
theorem w_strZ {H : Hp} {Q : VK} {v : V} {d : PyData} {av : List Addr} (h : Dz av H v d) (g : Shw d) (q : Q (.str (strOfD d)) H) : rStrZ [v] H Q := ⟨v, d, av, rfl, h, g, q⟩
def rTupL (K : PySem.W.Frag) : List V → Hp → VK → Prop := fun xs H Q => ∃ p ys, xs = [.ref p] ∧ SqL K H p ys ∧ ∀ l, H l = none → Q (.ref l) (L2.upd H l (.tup ys))
theorem c_tupL {X : Cx} {K : PySem.W.Frag} (hK : X.K = K) : CallR X (.type "tuple") (rTupL K) := by
  subst hK
  intro pins s σ H xs us Q I r h
  obtain ⟨p, ys, rfl, hs, q⟩ := h
  exact call_tuple_of pins s σ H _ us Q I r ⟨p, ys, rfl, .inl ⟨hs, q⟩⟩
theorem w_tupZ {K : PySem.W.Frag} {H : Hp} {Q : VK} {p : Addr} {ys : List V} (h : SqL K H p ys) (k : ∀ l H', Sm H H' → H l = none → H' l = some (.tup ys) → Q (.ref l) H') : rTupL K [.ref p] H Q := ⟨p, ys, rfl, h, fun l hl => k l _ (same_upd hl) hl upd_same⟩
def RevZ (K : PySem.W.Frag) (x : V) (H1 : Hp) (Q : VK) : Prop := ∃ a xs, x = .ref a ∧ SqL K H1 a xs ∧ ∀ p, H1 p = none → Q (.ref p) (L2.upd H1 p (.lst xs.reverse))
theorem w_revZ {K : PySem.W.Frag} {σ : L2.St} {H : Hp} {Q : VK} {te : TE} (k : te σ H fun x H1 => RevZ K x H1 Q) : tRevL K te σ H Q := k
theorem w_revY {K : PySem.W.Frag} {H : Hp} {Q : VK} {a : Addr} {xs : List V} (h : SqL K H a xs) (k : ∀ p H', Sm H H' → H p = none → H' p = some (.lst xs.reverse) → Q (.ref p) H') : RevZ K (.ref a) H Q := ⟨a, xs, rfl, h, fun p hp => k p _ (same_upd hp) hp upd_same⟩
theorem cutZ_drop {xs : List V} {n : Nat} : cutV xs (some (n : Int)) none = xs.drop n := by
  unfold cutV
  rw [HT.sIx_nat]
  have e0 : HT.sIx xs.length xs.length none = xs.length := rfl
  rw [e0]
  by_cases h : n ≤ xs.length
  · rw [Nat.min_eq_left h, List.take_of_length_le (by rw [List.length_drop]; omega)]
  · rw [Nat.min_eq_right (by omega), List.drop_eq_nil_of_le (by omega), List.drop_eq_nil_of_le (by omega)]
    simp
/-! ### the values that a near result may hold -/
def lv0 : List PyData := (List.range 67).map (fun i : Nat => PyData.int (Int.ofNat i)) ++ [.bool true, .none]
def lvS (l : List PyData) : List PyData := l ++ l.map (fun d => .str (strOfD d)) ++ l.map (fun d => .list [d])
def lv : Nat → List PyData
  | 0 => lv0
  | n + 1 => lvS (lv n)
def okD (d : PyData) : Bool := d.leavesShort 8 && decide (d.depth ≤ 2) && decide (d.weight ≤ 40) && d.showable && decide (d.shown.length ≤ 60) && (match d with | .int i => decide (i.natAbs.log2 < 8) | _ => true)
theorem lv_ok : ((lv 2).all okD) = true := by decide +kernel
theorem lv_mono {n : Nat} {d : PyData} (h : d ∈ lv n) : d ∈ lv (n + 1) := List.mem_append_left _ (List.mem_append_left _ h)
theorem lv_str {n : Nat} {d : PyData} (h : d ∈ lv n) : .str (strOfD d) ∈ lv (n + 1) := List.mem_append_left _ (List.mem_append_right _ (List.mem_map.mpr ⟨d, h, rfl⟩))
theorem lv_list {n : Nat} {d : PyData} (h : d ∈ lv n) : .list [d] ∈ lv (n + 1) := List.mem_append_right _ (List.mem_map.mpr ⟨d, h, rfl⟩)
theorem lv_up {m n : Nat} (h : m ≤ n) {d : PyData} (hd : d ∈ lv m) : d ∈ lv n := by
  induction h with
  | refl => exact hd
  | step _ ih => exact lv_mono ih
theorem lv_int {n : Nat} {i : Int} (h : 0 ≤ i ∧ i ≤ 66) : PyData.int i ∈ lv n := lv_up (Nat.zero_le _) (List.mem_append_left _ (List.mem_map.mpr ⟨i.toNat, List.mem_range.mpr (by omega), by rw [show Int.ofNat i.toNat = i from Int.toNat_of_nonneg h.1]⟩))
structure OkD (d : PyData) : Prop where
  lf : d.leavesShort 8 = true
  dep : d.depth ≤ 2
  wt : d.weight ≤ 40
  sh : d.showable = true
  shw : Shw d
theorem lv_okd {d : PyData} (h : d ∈ lv 2) : OkD d := by
  have z := List.all_eq_true.mp lv_ok d h
  unfold okD at z
  simp only [Bool.and_eq_true, decide_eq_true_eq] at z
  obtain ⟨⟨⟨⟨⟨z1, z2⟩, z3⟩, z4⟩, z5⟩, z6⟩ := z
  refine ⟨z1, z2, z3, z4, z4, by omega, Nat.le_trans z5 (by decide), fun i e => ?_⟩
  subst e
  have := of_decide_eq_true z6
  omega
theorem okd_all : ∀ {ds : List PyData}, (∀ d ∈ ds, OkD d) → PyData.leavesShortAll 8 ds = true ∧ PyData.depthAll ds ≤ 2 ∧ PyData.weightAll ds ≤ 41 * ds.length ∧ PyData.showableAll ds = true
  | [], _ => ⟨rfl, by simp [PyData.depthAll], by simp [PyData.weightAll], rfl⟩
  | d :: ds, h => by
    obtain ⟨a1, a2, a3, a4, _⟩ := h d (List.mem_cons_self ..)
    obtain ⟨b1, b2, b3, b4⟩ := okd_all fun d hd => h d (List.mem_cons_of_mem _ hd)
    refine ⟨by simp only [PyData.leavesShortAll, a1, b1, Bool.and_self], ?_, ?_, by simp only [PyData.showableAll, a4, b4, Bool.and_self]⟩
    · simp only [PyData.depthAll]
      omega
    · simp only [PyData.weightAll, List.length_cons, Nat.mul_succ]
      omega
theorem shw_of {d : PyData} (h1 : d.leavesShort 8 = true) (h2 : d.depth ≤ 60) (h3 : d.weight ≤ 100000) (h4 : d.showable = true) (h5 : ∀ i, d = .int i → i.natAbs.log2 < 1920) : Shw d := by
  refine ⟨h4, h2, ?_, h5⟩
  have z := PyData.shown_le 8 (by decide) d h1
  have e : sizeLine = 16777216 := by decide
  omega
theorem shw_list {ds : List PyData} (h : ∀ d ∈ ds, OkD d) (hl : ds.length ≤ 100) : Shw (.list ds) := by
  obtain ⟨b1, b2, b3, b4⟩ := okd_all h
  refine shw_of (by simpa only [PyData.leavesShort] using b1) (by simp only [PyData.depth]; omega) (by simp only [PyData.weight]; omega) (by simpa only [PyData.showable] using b4) fun i e => nomatch e
theorem shw_tuple {ds : List PyData} (h : ∀ d ∈ ds, OkD d) (hl : ds.length ≤ 100) : Shw (.tuple ds) := by
  obtain ⟨b1, b2, b3, b4⟩ := okd_all h
  refine shw_of (by simpa only [PyData.leavesShort] using b1) (by simp only [PyData.depth]; omega) (by simp only [PyData.weight]; omega) (by simpa only [PyData.showable] using b4) fun i e => nomatch e
theorem shw_listl {ds : List PyData} (h : ∀ d ∈ ds, OkD d) (hl : ds.length ≤ 100) : Shw (.list [.list ds]) := by
  obtain ⟨b1, b2, b3, b4⟩ := okd_all h
  refine shw_of (by simpa only [PyData.leavesShort, PyData.leavesShortAll, Bool.and_true] using b1) (by simp only [PyData.depth, PyData.depthAll]; omega) (by simp only [PyData.weight, PyData.weightAll]; omega) (by simpa only [PyData.showable, PyData.showableAll, Bool.and_true] using b4) fun i e => nomatch e
end SC

set_option Elab.async false
set_option linter.all false
set_option maxRecDepth 100000
set_option maxHeartbeats 4000000
set_option exponentiation.threshold 2000
namespace My
open PySem PySem.Spec PyProof.Rows L2 SC StX
local macro_rules | `(tactic| walk_at "s1") => `(tactic| first
  | (with_reducible refine SC.w_seq ?_)
  | (with_reducible refine SC.w_op ?_)
  | ((with_reducible refine SC.w_var (v := ?v0) ?vh ?_); (case vh => rfl))
  | (with_reducible refine SC.w_c ?_)
  | (with_reducible refine SC.w_i0 ?_)
  | (with_reducible refine SC.w_eq ?_)
  | (with_reducible refine SC.w_ne ?_)
  | (with_reducible refine SC.w_cons ?_)
  | (with_reducible refine SC.w_nil ?_)
  | (with_reducible refine SC.w_call ?_)
  | (with_reducible refine SC.w_cb ?_)
  | (with_reducible refine SC.w_asg ?_)
  | (with_reducible refine SC.w_gname ?_)
  | (with_reducible refine SC.w_ret ?_)
  | (with_reducible refine SC.w_gsub ?_)
  | (with_reducible refine SC.w_callR ?_)
  | (with_reducible refine SC.w_callRk ?_)
  | (with_reducible refine SC.w_star ?_)
  | (with_reducible refine SC.w_bits ?_)
  | (with_reducible refine SC.w_isi_bb ?_)
  | (with_reducible refine SC.w_eqB ?_)
  | (with_reducible refine SC.w_neB ?_)
  | (with_reducible refine SC.w_callN ?_)
  | (with_reducible refine SC.w_lc1 ?_)
  | (with_reducible refine SC.w_lc2 ?_)
  | (with_reducible refine SC.w_lcL ?_)
  | (with_reducible refine SC.w_lrg1 ?_)
  | (with_reducible refine SC.w_lrg2 ?_)
  | (with_reducible refine SC.w_slice ?_)
  | (with_reducible refine SC.w_nopart ?_)
  | (with_reducible refine SC.w_part ?_)
  | (with_reducible refine SC.w_isi ?_)
  | (with_reducible refine SC.w_for3 ?_)
  | (with_reducible refine SC.w_forL ?_)
  | (with_reducible refine SC.w_forT ?_)
  | (with_reducible refine SC.w_par3 ?_)
  | (with_reducible refine SC.w_three ?_)
  | (with_reducible refine SC.w_callS ?_)
  | (with_reducible refine SC.w_sdput ?_)
  | (with_reducible refine SC.w_dget' ?_)
  | (with_reducible refine SC.w_gcons ?_)
  | (with_reducible refine SC.w_gnil ?_)
  | (with_reducible refine SC.w_par ?_)
  | (with_reducible refine SC.w_two ?_)
  | (with_reducible refine SC.w_for1 ?_)
  | (with_reducible refine SC.w_for2 ?_)
  | (with_reducible refine SC.w_tup ?_)
  | (with_reducible refine SC.w_lst' ?_)
  | (with_reducible refine SC.w_drop ?_)
  | (with_reducible refine SC.w_ifS ?_)
  | (with_reducible refine SC.w_test ?_)
  | (with_reducible refine SC.w_isb ?_)
  | (with_reducible refine SC.w_not ?_)
  | (with_reducible refine SC.w_or ?_)
  | (with_reducible refine SC.w_and ?_)
  | (with_reducible refine SC.w_tB ?_)
  | (with_reducible refine SC.w_ife ?_)
  | (with_reducible refine SC.w_un ?_)
  | (with_reducible refine SC.w_u ?_)
  | (with_reducible refine SC.w_max2 ?_)
  | (with_reducible refine SC.w_min2 ?_)
  | (with_reducible refine SC.w_abs ?_)
  | (with_reducible refine SC.w_isi_ii ?_)
  | (with_reducible refine SC.w_isi_ib ?_)
  | (with_reducible refine SC.w_andV ?_)
  | (with_reducible refine SC.w_orV ?_)
  | (with_reducible refine SC.w_notV ?_)
  | (with_reducible refine SC.w_chain ?_)
  | (with_reducible refine SC.w_next ?_)
  | ((with_reducible refine SC.w_i ?ch ?_); (case ch => walk_at "side")))
local macro_rules | `(tactic| walk_at "s") => `(tactic| repeat (walk_at "s1"))
local macro_rules | `(tactic| walk_at "side") => `(tactic| first
  | assumption | omega | decide | exact SC.p2_pos _ | exact SC.p2_div (by omega) | exact Or.inl (by decide) | exact Or.inr (by decide) | (with_unfolding_all decide)
  | (refine ⟨?_, ?_⟩ <;> first | assumption | omega | decide | (with_unfolding_all decide)))

local macro_rules | `(tactic| walk_at "ne") => `(tactic| first
  | assumption
  | exact Ne.symm (by assumption)
  | exact SC.src_ne (by assumption) (by assumption)
  | ((with_reducible apply SC.ne_src); (focus assumption); walk_at "src")
  | ((with_reducible apply SC.ne_new'); (focus assumption); walk_at "at")
  | (apply Ne.symm; (with_reducible apply SC.ne_new'); (focus assumption); walk_at "at"))
local macro_rules | `(tactic| walk_at "at") => `(tactic| first
  | assumption
  | exact upd_same
  | ((with_reducible apply SC.same_at); (focus assumption); walk_at "at")
  | ((with_reducible apply SC.upd_at); (focus walk_at "ne"); walk_at "at")
  | ((with_reducible apply SC.kp_at); (focus assumption); (focus walk_at "ne"); walk_at "at"))
local macro_rules | `(tactic| walk_at "src") => `(tactic| first
  | assumption
  | ((with_reducible apply SC.same_src); (focus assumption); walk_at "src")
  | ((with_reducible apply SC.src_upd); (focus walk_at "ne"); walk_at "src"))
local macro_rules | `(tactic| walk_at "same") => `(tactic| first
  | assumption
  | exact Sm.refl _
  | ((with_reducible refine Sm.trans ?_ (by assumption)); walk_at "same"))
local macro_rules | `(tactic| walk_at "kp") => `(tactic| first
  | assumption
  | exact SC.Kp.refl _ _
  | exact SC.Kp.of_same (by assumption)
  | ((with_reducible refine SC.Kp.trans ?_ (by first | assumption | exact SC.Kp.of_same (by assumption))); walk_at "kp"))
local macro_rules | `(tactic| walk_at "seq") => `(tactic| first
  | assumption
  | ((with_reducible apply SC.sq_of); walk_at "at")
  | ((with_reducible apply SC.same_seq); (focus assumption); walk_at "seq"))
local macro_rules | `(tactic| walk_at "seqT") => `(tactic| first
  | assumption
  | ((with_reducible apply SC.sqT_of); walk_at "at")
  | ((with_reducible apply SC.same_seqT); (focus assumption); walk_at "seqT"))
local macro_rules | `(tactic| walk_at "pre") => `(tactic| first
  | exact True.intro | assumption | omega | exact SC.p2_pos _ | exact SC.p2_lim (by omega) | exact SC.small_lim (by omega) | exact SC.wide_lim (by omega)
  | (with_reducible refine And.intro ?_ ?_ <;> walk_at "pre"))
local macro_rules | `(tactic| walk_at "len") => `(tactic| first | decide | (simp only [List.length_cons, List.length_nil]; decide) | (simp only [List.length_cons, List.length_nil, List.length_map]; omega))
local macro_rules | `(tactic| walk_at "rfl") => `(tactic| exact rfl)
local macro_rules | `(tactic| walk_at "r1") => `(tactic| first
  | walk_at "s1"
  | (with_reducible refine SC.w_bm ?_)
  | (with_reducible refine SC.w_lz ?_)
  | (with_reducible refine SC.w_gx ?_)
  | ((with_reducible apply SC.w_bml); (focus walk_at "seq"))
  | ((with_reducible refine SC.w_sp1 ?_ fun _ _ => ?_); (focus walk_at "pre"))
  | ((with_reducible refine SC.w_sp2 ?_ fun _ _ => ?_); (focus walk_at "pre"))
  | ((with_reducible refine SC.w_sp3 ?_ fun _ _ => ?_); (focus walk_at "pre"))
  | ((with_reducible refine SC.w_sp4 ?_ fun _ _ => ?_); (focus walk_at "pre"))
  | ((with_reducible apply SC.w_draw); (focus walk_at "src"); (focus walk_at "pre"); (focus walk_at "pre"); (focus omega); (focus intro _ _ _ _ _ _))
  | ((with_reducible refine SC.w_newZ ?_ fun _ _ _ _ _ => ?_); (focus walk_at "len"))
  | ((with_reducible refine SC.w_newTZ ?_ fun _ _ _ _ _ => ?_); (focus walk_at "len"))
  | ((with_reducible apply SC.w_ixL); (focus walk_at "seq"); (focus walk_at "rfl"))
  | ((with_reducible apply SC.w_lenL); (focus walk_at "seq"))
  | ((with_reducible apply SC.w_lenT); (focus walk_at "seqT"))
  | (with_reducible refine SC.ifNT ?_)
  | (with_reducible refine SC.ifNF ?_)
  | (with_reducible refine iteF ?_)
  | (with_reducible refine iteT ?_)
  | ((with_reducible refine SC.w_nno ?_ ?_); (focus first | omega | (simp; done)))
  | ((with_reducible refine SC.w_no ?_ ?_); (focus first | omega | (simp; done)))
  | ((with_reducible refine SC.w_modE ?_ ?_); (focus first | omega | exact SC.p2_pos _))
  | ((with_reducible refine SC.w_i (SC.cdivB ?_ ?_) ?_); (focus walk_at "pre"); (focus walk_at "pre"))
  | ((with_reducible refine SC.w_i (SC.cmulB ?_ ?_ ?_ ?_) ?_); (focus walk_at "pre"); (focus walk_at "pre"); (focus walk_at "pre"); (focus walk_at "pre")))
local macro_rules | `(tactic| walk_at "r") => `(tactic| repeat (walk_at "r1"))

def topS (i : Nat) : Stmt := PySem.Challenge.pw_seedcup_k41_results_judged.main.body.getD i (.Pass ⟨0, 0, 0, 0⟩)
abbrev s_is_integer : Stmt := topS 6
abbrev nm_is_integer : List Str := ["value"]
theorem sc_is_integer : FnScope nm_is_integer ["value"] (defScope s_is_integer) := ⟨rfl, rfl, rfl, by decide +kernel, rfl, by decide +kernel, by decide +kernel⟩
abbrev s_is_integer_between : Stmt := topS 7
abbrev nm_is_integer_between : List Str := ["value", "low", "high"]
theorem sc_is_integer_between : FnScope nm_is_integer_between ["value", "low", "high"] (defScope s_is_integer_between) := ⟨rfl, rfl, rfl, by decide +kernel, rfl, by decide +kernel, by decide +kernel⟩
abbrev s_check_rounds : Stmt := topS 8
abbrev nm_check_rounds : List Str := ["rounds"]
theorem sc_check_rounds : FnScope nm_check_rounds ["rounds"] (defScope s_check_rounds) := ⟨rfl, rfl, rfl, by decide +kernel, rfl, by decide +kernel, by decide +kernel⟩
abbrev s_check_few_rounds : Stmt := topS 9
abbrev nm_check_few_rounds : List Str := ["rounds", "limit"]
theorem sc_check_few_rounds : FnScope nm_check_few_rounds ["rounds", "limit"] (defScope s_check_few_rounds) := ⟨rfl, rfl, rfl, by decide +kernel, rfl, by decide +kernel, by decide +kernel⟩
abbrev s_is_result : Stmt := topS 12
abbrev nm_is_result : List Str := ["rounds", "value", "winner", "pair"]
theorem sc_is_result : FnScope nm_is_result ["rounds", "value"] (defScope s_is_result) := ⟨rfl, rfl, rfl, by decide +kernel, rfl, by decide +kernel, by decide +kernel⟩
abbrev s_all_seeds : Stmt := topS 13
abbrev nm_all_seeds : List Str := ["rounds"]
theorem sc_all_seeds : FnScope nm_all_seeds ["rounds"] (defScope s_all_seeds) := ⟨rfl, rfl, rfl, by decide +kernel, rfl, by decide +kernel, by decide +kernel⟩
abbrev s_pairs_of : Stmt := topS 14
abbrev nm_pairs_of : List Str := ["players", "at"]
theorem sc_pairs_of : FnScope nm_pairs_of ["players"] (defScope s_pairs_of) := ⟨rfl, rfl, rfl, by decide +kernel, rfl, by decide +kernel, by decide +kernel⟩
abbrev s_rows_of : Stmt := topS 15
abbrev nm_rows_of : List Str := ["rounds", "result", "rows", "start", "stage", "end"]
theorem sc_rows_of : FnScope nm_rows_of ["rounds", "result"] (defScope s_rows_of) := ⟨rfl, rfl, rfl, by decide +kernel, rfl, by decide +kernel, by decide +kernel⟩
abbrev s_matches_of : Stmt := topS 16
abbrev nm_matches_of : List Str := ["rounds", "result", "matches", "players", "winners"]
theorem sc_matches_of : FnScope nm_matches_of ["rounds", "result"] (defScope s_matches_of) := ⟨rfl, rfl, rfl, by decide +kernel, rfl, by decide +kernel, by decide +kernel⟩
abbrev s_law_cell : Stmt := topS 18
abbrev nm_law_cell : List Str := ["script", "k"]
theorem sc_law_cell : FnScope nm_law_cell ["script", "k"] (defScope s_law_cell) := ⟨rfl, rfl, rfl, by decide +kernel, rfl, by decide +kernel, by decide +kernel⟩
abbrev s_law_source : Stmt := topS 19
abbrev nm_law_source : List Str := ["cell"]
theorem sc_law_source : FnScope nm_law_source ["cell"] (defScope s_law_source) := ⟨rfl, rfl, rfl, by decide +kernel, rfl, by decide +kernel, by decide +kernel⟩
abbrev s_law_draw : Stmt := topS 20
abbrev nm_law_draw : List Str := ["source", "bound", "digit", "mixed"]
theorem sc_law_draw : FnScope nm_law_draw ["source", "bound"] (defScope s_law_draw) := ⟨rfl, rfl, rfl, by decide +kernel, rfl, by decide +kernel, by decide +kernel⟩
abbrev s_law_power : Stmt := topS 21
abbrev nm_law_power : List Str := ["many", "found", "turn"]
theorem sc_law_power : FnScope nm_law_power ["many"] (defScope s_law_power) := ⟨rfl, rfl, rfl, by decide +kernel, rfl, by decide +kernel, by decide +kernel⟩
abbrev s_law_played : Stmt := topS 22
abbrev nm_law_played : List Str := ["size", "bits", "now", "found", "tier", "later", "many", "part", "pair"]
theorem sc_law_played : FnScope nm_law_played ["size", "bits"] (defScope s_law_played) := ⟨rfl, rfl, rfl, by decide +kernel, rfl, by decide +kernel, by decide +kernel⟩
abbrev s_law_is_result : Stmt := topS 23
abbrev nm_law_is_result : List Str := ["size", "thing", "now", "at", "tier", "later", "many", "part", "who"]
theorem sc_law_is_result : FnScope nm_law_is_result ["size", "thing"] (defScope s_law_is_result) := ⟨rfl, rfl, rfl, by decide +kernel, rfl, by decide +kernel, by decide +kernel⟩
abbrev s_law_near_result : Stmt := topS 24
abbrev nm_law_near_result : List Str := ["source", "size", "many", "row", "match", "turn", "at", "to", "odd", "way", "some"]
theorem sc_law_near_result : FnScope nm_law_near_result ["source", "size"] (defScope s_law_near_result) := ⟨rfl, rfl, rfl, by decide +kernel, rfl, by decide +kernel, by decide +kernel⟩
abbrev s_law : Stmt := topS 25
abbrev nm_law : List Str := ["script", "number", "triple", "k", "source", "turn", "size", "thing", "kept", "due"]
theorem sc_law : FnScope nm_law ["script"] (defScope s_law) := ⟨rfl, rfl, rfl, by decide +kernel, rfl, by decide +kernel, by decide +kernel⟩
structure TX (K : PySem.W.Frag) (mg : Str → Option Value) (base : Heap) (fa : Nat → Addr) (fd : Nat → FuncData) (fc : Nat → Addr) : Prop where
  F_is_integer : Fun K "is_integer" "is_integer" s_is_integer (fa 0) (fd 0)
  g_is_integer : mg "is_integer" = some (.ref (fa 0))
  F_is_integer_between : Fun K "is_integer_between" "is_integer_between" s_is_integer_between (fa 1) (fd 1)
  g_is_integer_between : mg "is_integer_between" = some (.ref (fa 1))
  F_check_rounds : Fun K "check_rounds" "check_rounds" s_check_rounds (fa 2) (fd 2)
  g_check_rounds : mg "check_rounds" = some (.ref (fa 2))
  F_check_few_rounds : Fun K "check_few_rounds" "check_few_rounds" s_check_few_rounds (fa 3) (fd 3)
  g_check_few_rounds : mg "check_few_rounds" = some (.ref (fa 3))
  F_is_result : Fun K "is_result" "is_result" s_is_result (fa 4) (fd 4)
  g_is_result : mg "is_result" = some (.ref (fa 4))
  F_all_seeds : Fun K "_all_seeds" "_all_seeds" s_all_seeds (fa 5) (fd 5)
  g_all_seeds : mg "_all_seeds" = some (.ref (fa 5))
  F_pairs_of : Fun K "_pairs_of" "_pairs_of" s_pairs_of (fa 6) (fd 6)
  g_pairs_of : mg "_pairs_of" = some (.ref (fa 6))
  F_rows_of : Fun K "_rows_of" "_rows_of" s_rows_of (fa 7) (fd 7)
  g_rows_of : mg "_rows_of" = some (.ref (fa 7))
  F_matches_of : Fun K "_matches_of" "_matches_of" s_matches_of (fa 8) (fd 8)
  g_matches_of : mg "_matches_of" = some (.ref (fa 8))
  F_law_cell : Fun K "_law_cell" "_law_cell" s_law_cell (fa 9) (fd 9)
  g_law_cell : mg "_law_cell" = some (.ref (fa 9))
  F_law_source : Fun K "_law_source" "_law_source" s_law_source (fa 10) (fd 10)
  g_law_source : mg "_law_source" = some (.ref (fa 10))
  F_law_draw : Fun K "_law_draw" "_law_draw" s_law_draw (fa 11) (fd 11)
  g_law_draw : mg "_law_draw" = some (.ref (fa 11))
  F_law_power : Fun K "_law_power" "_law_power" s_law_power (fa 12) (fd 12)
  g_law_power : mg "_law_power" = some (.ref (fa 12))
  F_law_played : Fun K "_law_played" "_law_played" s_law_played (fa 13) (fd 13)
  g_law_played : mg "_law_played" = some (.ref (fa 13))
  F_law_is_result : Fun K "_law_is_result" "_law_is_result" s_law_is_result (fa 14) (fd 14)
  g_law_is_result : mg "_law_is_result" = some (.ref (fa 14))
  F_law_near_result : Fun K "_law_near_result" "_law_near_result" s_law_near_result (fa 15) (fd 15)
  g_law_near_result : mg "_law_near_result" = some (.ref (fa 15))
  F_law : Fun K "law" "law" s_law (fa 16) (fd 16)
  g_law : mg "law" = some (.ref (fa 16))
  t_MOST_ROUNDS : ∃ t, mg "MOST_ROUNDS" = some (.int 100 t)
  t_MOST_ROUNDS_OF_A_RESULT : ∃ t, mg "MOST_ROUNDS_OF_A_RESULT" = some (.int 6 t)
  b_is_result : GxR.TabB base mg (fc 1008) (fc 1009)
  k_is_result : (fd 4).code = .ref (fc 1008)
  n_abs : mg "abs" = none
  n_all : mg "all" = none
  n_bool : mg "bool" = none
  n_int : mg "int" = none
  n_isinstance : mg "isinstance" = none
  n_len : mg "len" = none
  n_list : mg "list" = none
  n_max : mg "max" = none
  n_min : mg "min" = none
  n_range : mg "range" = none
  n_repr : mg "repr" = none
  n_sorted : mg "sorted" = none
  n_str : mg "str" = none
  n_tuple : mg "tuple" = none
  n_zip : mg "zip" = none
def TL (fc : Nat → Addr) : List Addr := [fc 1009]
theorem tl_is_result {fc : Nat → Addr} {H : Hp} (h : SC.TbA (TL fc) H) : GxR.TabG H (fc 1009) := h _ (by simp [TL])
def SpSourceC : Sp := fun vs H Q _ => ∃ c : Int, vs = [.int c] ∧ ∀ a H', H a = none → Sm H H' → Src a 0 H' → Q (.ref a) H'
theorem w_sourceC {H : Hp} {Q : VK} {E : XK} {c : Int} (q : ∀ a H', H a = none → Sm H H' → Src a 0 H' → Q (.ref a) H') : SpSourceC ([.int c] ++ []) H Q E := ⟨c, rfl, q⟩
def prV (p : Int × Int) : List V := [.int p.1, .int p.2]
def SpSeeds : Sp := fun vs H Q _ => ∃ s : Nat, vs = [.int s] ∧ s ≤ 6 ∧ ∀ p H', H p = none → Sm H H' → H' p = some (.lst ((seeds s).map V.int)) → Q (.ref p) H'
theorem w_seeds {H : Hp} {Q : VK} {E : XK} {s : Nat} (h : s ≤ 6) (q : ∀ p H', H p = none → Sm H H' → H' p = some (.lst ((seeds s).map V.int)) → Q (.ref p) H') : SpSeeds ([.int s] ++ []) H Q E := ⟨s, rfl, h, q⟩
def SpPairs (K : PySem.W.Frag) : Sp := fun vs H Q _ => ∃ (p : Addr) (ps : List Int), vs = [.ref p] ∧ SqL K H p (ps.map V.int) ∧ ps.length ≤ 64 ∧ ∀ q H' (ads : List Addr), H q = none → Sm H H' → H' q = some (.lst (ads.map V.ref)) → RefsTo H' ads ((prs ps).map prV) → Q (.ref q) H'
theorem w_pairs {K : PySem.W.Frag} {H : Hp} {Q : VK} {E : XK} {p : Addr} {ps : List Int} (h : SqL K H p (ps.map V.int)) (hl : ps.length ≤ 64) (q : ∀ q H' (ads : List Addr), H q = none → Sm H H' → H' q = some (.lst (ads.map V.ref)) → RefsTo H' ads ((prs ps).map prV) → Q (.ref q) H') : SpPairs K ([.ref p] ++ []) H Q E := ⟨p, ps, rfl, h, hl, q⟩
def SpRows (K : PySem.W.Frag) : Sp := fun vs H Q _ => ∃ (p : Addr) (s : Nat) (B : List Int), vs = [.int s, .ref p] ∧ SqL K H p ((FD s B s).map V.int) ∧ (1 ≤ s ∧ s ≤ 6) ∧ ∀ q H' (ads : List Addr), H q = none → Sm H H' → H' q = some (.lst (ads.map V.ref)) → ads.length = s → (∀ (d : Nat) a, ads[d]? = some a → H' a = some (.lst ((PL s B (d + 1)).map V.int))) → Q (.ref q) H'
theorem w_rows {K : PySem.W.Frag} {H : Hp} {Q : VK} {E : XK} {p : Addr} {s : Nat} {B : List Int} (h : SqL K H p ((FD s B s).map V.int)) (hs : 1 ≤ s ∧ s ≤ 6) (q : ∀ q H' (ads : List Addr), H q = none → Sm H H' → H' q = some (.lst (ads.map V.ref)) → ads.length = s → (∀ (d : Nat) a, ads[d]? = some a → H' a = some (.lst ((PL s B (d + 1)).map V.int))) → Q (.ref q) H') : SpRows K ([.int s, .ref p] ++ []) H Q E := ⟨p, s, B, rfl, h, hs, q⟩
def Mts (s : Nat) (B : List Int) (d : Nat) (H : Hp) (p : Addr) (ads qs : List Addr) : Prop := H p = some (.lst (ads.map V.ref)) ∧ RefsTo H qs ((MP s B d).map prV) ∧ RefsTo H ads (zw (qs.map V.ref) ((FD s B d).map V.int))
def SpMatches (K : PySem.W.Frag) : Sp := fun vs H Q _ => ∃ (p : Addr) (s : Nat) (B : List Int), vs = [.int s, .ref p] ∧ SqL K H p ((FD s B s).map V.int) ∧ (1 ≤ s ∧ s ≤ 6) ∧ ∀ q H' (ads qs : List Addr), H q = none → Sm H H' → Mts s B s H' q ads qs → Q (.ref q) H'
theorem w_matches {K : PySem.W.Frag} {H : Hp} {Q : VK} {E : XK} {p : Addr} {s : Nat} {B : List Int} (h : SqL K H p ((FD s B s).map V.int)) (hs : 1 ≤ s ∧ s ≤ 6) (q : ∀ q H' (ads qs : List Addr), H q = none → Sm H H' → Mts s B s H' q ads qs → Q (.ref q) H') : SpMatches K ([.int s, .ref p] ++ []) H Q E := ⟨p, s, B, rfl, h, hs, q⟩
def SpIsRes (fc : Nat → Addr) (K : PySem.W.Frag) : Sp := fun vs H Q _ => ∃ (p : Addr) (s : Nat) (B : List Int), vs = [.int s, .ref p] ∧ H p = some (.lst ((FD s B s).map V.int)) ∧ (1 ≤ s ∧ s ≤ 6) ∧ SC.TbA (TL fc) H ∧ ∀ H', Sm H H' → Q (.bl true) H'
theorem w_isres {fc : Nat → Addr} {K : PySem.W.Frag} {H : Hp} {Q : VK} {E : XK} {p : Addr} {s : Nat} {B : List Int} (h : H p = some (.lst ((FD s B s).map V.int))) (hs : 1 ≤ s ∧ s ≤ 6) (ht : SC.TbA (TL fc) H) (q : ∀ H', Sm H H' → Q (.bl true) H') : SpIsRes fc K ([.int s, .ref p] ++ []) H Q E := ⟨p, s, B, rfl, h, hs, ht, q⟩
def SpChkRes (fc : Nat → Addr) (K : PySem.W.Frag) : Sp := fun vs H Q _ => ∃ (p : Addr) (s : Nat) (B : List Int), vs = [.int s, .ref p] ∧ H p = some (.lst ((FD s B s).map V.int)) ∧ (1 ≤ s ∧ s ≤ 6) ∧ SC.TbA (TL fc) H ∧ ∀ H', Sm H H' → Q .non H'
theorem w_chkres {fc : Nat → Addr} {K : PySem.W.Frag} {H : Hp} {Q : VK} {E : XK} {p : Addr} {s : Nat} {B : List Int} (h : H p = some (.lst ((FD s B s).map V.int))) (hs : 1 ≤ s ∧ s ≤ 6) (ht : SC.TbA (TL fc) H) (q : ∀ H', Sm H H' → Q .non H') : SpChkRes fc K ([.int s, .ref p] ++ []) H Q E := ⟨p, s, B, rfl, h, hs, ht, q⟩
def SpRank (fc : Nat → Addr) (K : PySem.W.Frag) : Sp := fun vs H Q _ => ∃ (p : Addr) (s : Nat) (B : List Int), vs = [.int s, .ref p] ∧ H p = some (.lst ((FD s B s).map V.int)) ∧ (1 ≤ s ∧ s ≤ 6) ∧ (Bits B ∧ B.length + 1 = 2 ^ s) ∧ SC.TbA (TL fc) H ∧ ∀ H', Sm H H' → Q (.int (num B)) H'
theorem w_rank {fc : Nat → Addr} {K : PySem.W.Frag} {H : Hp} {Q : VK} {E : XK} {p : Addr} {s : Nat} {B : List Int} (h : H p = some (.lst ((FD s B s).map V.int))) (hs : 1 ≤ s ∧ s ≤ 6) (hB : Bits B ∧ B.length + 1 = 2 ^ s) (ht : SC.TbA (TL fc) H) (q : ∀ H', Sm H H' → Q (.int (num B)) H') : SpRank fc K ([.int s, .ref p] ++ []) H Q E := ⟨p, s, B, rfl, h, hs, hB, ht, q⟩
def SpNth : Sp := fun vs H Q _ => ∃ (s : Nat) (B : List Int), vs = [.int s, .int (num B)] ∧ (1 ≤ s ∧ s ≤ 6) ∧ (Bits B ∧ B.length + 1 = 2 ^ s) ∧ ∀ p H', H p = none → Sm H H' → H' p = some (.lst ((FD s B s).map V.int)) → Q (.ref p) H'
theorem w_nth {H : Hp} {Q : VK} {E : XK} {s : Nat} {B : List Int} {n : Int} (hs : 1 ≤ s ∧ s ≤ 6) (hB : Bits B ∧ B.length + 1 = 2 ^ s) (hn : n = num B) (q : ∀ p H', H p = none → Sm H H' → H' p = some (.lst ((FD s B s).map V.int)) → Q (.ref p) H') : SpNth ([.int s, .int n] ++ []) H Q E := ⟨s, B, by rw [hn]; rfl, hs, hB, q⟩
theorem Mts.get {s : Nat} {B : List Int} {H : Hp} {M : Addr} {ads qs : List Addr} (m : Mts s B s H M ads qs) {i : Nat} {x : V} (hx : (ads.map V.ref)[i]? = some x) : ∃ (a q : Addr) (p : Int × Int), x = .ref a ∧ H a = some (.tup [.ref q, .int (win (B.getD i 0) p)]) ∧ H q = some (.tup [.int p.1, .int p.2]) ∧ p.1 ≠ p.2 ∧ i < (FD s B s).length := by
  obtain ⟨m1, m2, m3⟩ := m
  rw [List.getElem?_map] at hx
  obtain ⟨a, ha, rfl⟩ := Option.map_eq_some_iff.mp hx
  have hi := (List.getElem?_eq_some_iff.mp ha).1
  have lq : qs.length = (FD s B s).length := by rw [m2.1, List.length_map, MP_len]
  have la : ads.length = (FD s B s).length := by
    rw [m3.1]
    unfold zw
    rw [List.length_zipWith, List.length_map, List.length_map, lq]
    omega
  have hf : i < (FD s B s).length := by omega
  have hm : i < (MP s B s).length := by rw [MP_len]; exact hf
  have hq : i < qs.length := by omega
  have w1 := MP_win s B s (Nat.le_refl _) i _ _ (List.getElem?_eq_getElem hm) (List.getElem?_eq_getElem hf)
  refine ⟨a, qs[i]'hq, (MP s B s)[i]'hm, rfl, ?_, ?_, w1.2, hf⟩
  · refine m3.2 i a _ ha ?_
    rw [← w1.1]
    unfold zw
    rw [List.getElem?_zipWith, List.getElem?_map, List.getElem?_map, List.getElem?_eq_getElem hq, List.getElem?_eq_getElem hf]
    rfl
  · refine m2.2 i _ _ (List.getElem?_eq_getElem hq) ?_
    rw [List.getElem?_map, List.getElem?_eq_getElem hm]
    rfl
def SpPlayed (K : PySem.W.Frag) : Sp := fun vs H Q _ => ∃ (p : Addr) (s : Nat) (B : List Int), vs = [.int s, .ref p] ∧ SqL K H p (B.map V.int) ∧ s ≤ 6 ∧ (Bits B ∧ B.length + 1 = 2 ^ s) ∧ ∀ q H', H q = none → Sm H H' → H' q = some (.lst ((FD s B s).map V.int)) → Q (.ref q) H'
theorem w_played {K : PySem.W.Frag} {H : Hp} {Q : VK} {E : XK} {p : Addr} {s : Nat} {B : List Int} (h : SqL K H p (B.map V.int)) (hs : s ≤ 6) (hB : Bits B ∧ B.length + 1 = 2 ^ s) (q : ∀ q H', H q = none → Sm H H' → H' q = some (.lst ((FD s B s).map V.int)) → Q (.ref q) H') : SpPlayed K ([.int s, .ref p] ++ []) H Q E := ⟨p, s, B, rfl, h, hs, hB, q⟩
def BitRow (H : Hp) (n : Nat) (i : Nat) (a : Addr) : Prop := ∃ B : List Int, H a = some (.lst (B.map V.int)) ∧ Bits B ∧ B.length = n ∧ num B = (i : Int)
theorem BitRow.go {H H' : Hp} {n i : Nat} {a : Addr} (r : BitRow H n i a) (s : Sm H H') : BitRow H' n i a := by
  obtain ⟨B, h, r⟩ := r
  exact ⟨B, s _ _ h, r⟩
def SpAllBits : Sp := fun vs H Q _ => ∃ n : Nat, vs = [.int n] ∧ n ≤ 15 ∧ ∀ q H' (ads : List Addr), H q = none → Sm H H' → H' q = some (.lst (ads.map V.ref)) → ads.length = 2 ^ n → (∀ (i : Nat) a, ads[i]? = some a → BitRow H' n i a) → Q (.ref q) H'
theorem w_allbits {H : Hp} {Q : VK} {E : XK} {n : Nat} (hn : n ≤ 15) (q : ∀ q H' (ads : List Addr), H q = none → Sm H H' → H' q = some (.lst (ads.map V.ref)) → ads.length = 2 ^ n → (∀ (i : Nat) a, ads[i]? = some a → BitRow H' n i a) → Q (.ref q) H') : SpAllBits ([.int n] ++ []) H Q E := ⟨n, rfl, hn, q⟩
def SpRight (fc : Nat → Addr) (K : PySem.W.Frag) : Sp := fun vs H Q _ => ∃ (p : Addr) (s : Nat) (B : List Int), vs = [.int s, .int (num B), .ref p] ∧ SqL K H p (B.map V.int) ∧ (1 ≤ s ∧ s ≤ 6) ∧ (Bits B ∧ B.length + 1 = 2 ^ s) ∧ SC.TbA (TL fc) H ∧ ∀ H', Sm H H' → Q (.bl true) H'
theorem w_right {fc : Nat → Addr} {K : PySem.W.Frag} {H : Hp} {Q : VK} {E : XK} {p : Addr} {s : Nat} {B : List Int} {n : Int} (h : SqL K H p (B.map V.int)) (hs : 1 ≤ s ∧ s ≤ 6) (hB : Bits B ∧ B.length + 1 = 2 ^ s) (hn : n = num B) (ht : SC.TbA (TL fc) H) (q : ∀ H', Sm H H' → Q (.bl true) H') : SpRight fc K ([.int s, .int n, .ref p] ++ []) H Q E := ⟨p, s, B, by rw [hn]; rfl, h, hs, hB, ht, q⟩
theorem w_rgD {H : Hp} {Q : VK} {n : Int} (h0 : 0 ≤ n) (h1 : n ≤ 1000000) (k : ∀ q H', Sm H H' → H q = none → H' q = some (.lst (((List.range n.toNat).map fun i : Nat => (i : Int)).map V.int)) → Q (.ref q) H') : LstRg 0 n H Q := by
  obtain ⟨m, e, r⟩ := w_rg1 h0 h1 k
  rw [V.int.inj e]
  exact r
theorem rg_seeds {s : Nat} {N : Int} (h : N = ((2 ^ s : Nat) : Int) + 1) : ((List.range N.toNat).map fun i : Nat => (i : Int)) = 0 :: seeds s := by
  have hp : 0 < 2 ^ s := Nat.pow_pos (by decide)
  generalize hm : 2 ^ s = m at *
  rw [h, show ((m : Int) + 1).toNat = m + 1 by omega, List.range_succ_eq_map, List.map_cons, List.map_map]
  unfold seeds
  rw [hm]
  refine congrArg (List.cons 0) (List.map_congr_left fun i _ => ?_)
  show ((i + 1 : Nat) : Int) = 1 + (i : Int)
  omega
theorem cut_tail {x : V} {xs : List V} : cutV (x :: xs) (some 1) none = xs := by
  unfold cutV
  rw [show (1 : Int) = ((1 : Nat) : Int) from rfl, HT.sIx_nat]
  have e0 : HT.sIx (x :: xs).length (x :: xs).length none = (x :: xs).length := rfl
  rw [e0]
  simp [Nat.min_eq_left]
theorem BitRow.updL {H : Hp} {n i : Nat} {a p : Addr} {o : HO} (r : BitRow H n i a) (h : a ≠ p) : BitRow (L2.upd H p o) n i a := by
  obtain ⟨B, e, r⟩ := r
  exact ⟨B, by rw [upd_ne h]; exact e, r⟩
theorem bits0 : Bits [] := fun b hb => by cases hb
theorem bitsS {bs : List Int} {r : Int} (h : Bits bs) (hr : r = 0 ∨ r = 1) : Bits (bs ++ [r]) := fun b hb => by
  rcases List.mem_append.mp hb with hb | hb
  · exact h b hb
  · rw [List.mem_singleton.mp hb]; exact hr
def SpNum (K : PySem.W.Frag) : Sp := fun vs H Q _ => ∃ (p : Addr) (B : List Int), vs = [.ref p] ∧ SqL K H p (B.map V.int) ∧ B.length ≤ 63 ∧ Bits B ∧ ∀ H', Sm H H' → Q (.int (num B)) H'
theorem w_num {K : PySem.W.Frag} {H : Hp} {Q : VK} {E : XK} {p : Addr} {B : List Int} (h : SqL K H p (B.map V.int)) (hl : B.length ≤ 63) (hB : Bits B) (q : ∀ H', Sm H H' → Q (.int (num B)) H') : SpNum K ([.ref p] ++ []) H Q E := ⟨p, B, rfl, h, hl, hB, q⟩
def SpBits (K : PySem.W.Frag) : Sp := fun vs H Q _ => ∃ (p : Addr) (s : Nat) (N : Int), vs = [.ref p, .int s] ∧ (1 ≤ s ∧ s ≤ 6) ∧ Src p N H ∧ N + 64 < LIM ∧ ∀ B D H', H D = none → Kp p H H' → Src p (N + 64) H' → H' D = some (.lst ((B : List Int).map V.int)) → Bits B → B.length + 1 = 2 ^ s → Q (.ref D) H'
theorem w_bits {K : PySem.W.Frag} {H : Hp} {Q : VK} {E : XK} {p : Addr} {s : Nat} {N : Int} (hs : 1 ≤ s ∧ s ≤ 6) (sp : Src p N H) (hN : N + 64 < LIM) (q : ∀ B D H', H D = none → Kp p H H' → Src p (N + 64) H' → H' D = some (.lst ((B : List Int).map V.int)) → Bits B → B.length + 1 = 2 ^ s → Q (.ref D) H') : SpBits K ([.ref p, .int s] ++ []) H Q E := ⟨p, s, N, rfl, hs, sp, hN, q⟩
def SpRowsW (K : PySem.W.Frag) : Sp := fun vs H Q _ => ∃ (p : Addr) (s : Nat) (ws : List Int), vs = [.int s, .ref p] ∧ SqL K H p (ws.map V.int) ∧ (1 ≤ s ∧ s ≤ 6) ∧ ws.length + 1 = 2 ^ s ∧ ∀ q H' (ads : List Addr), H q = none → Sm H H' → H' q = some (.lst (ads.map V.ref)) → ads.length = s → (∀ (d : Nat) a, ads[d]? = some a → H' a = some (.lst ((PW s ws (d + 1)).map V.int))) → Q (.ref q) H'
theorem w_rowsW {K : PySem.W.Frag} {H : Hp} {Q : VK} {E : XK} {p : Addr} {s : Nat} {ws : List Int} (h : SqL K H p (ws.map V.int)) (hs : 1 ≤ s ∧ s ≤ 6) (hl : ws.length + 1 = 2 ^ s) (q : ∀ q H' (ads : List Addr), H q = none → Sm H H' → H' q = some (.lst (ads.map V.ref)) → ads.length = s → (∀ (d : Nat) a, ads[d]? = some a → H' a = some (.lst ((PW s ws (d + 1)).map V.int))) → Q (.ref q) H') : SpRowsW K ([.int s, .ref p] ++ []) H Q E := ⟨p, s, ws, rfl, h, hs, hl, q⟩
def MtsW (s : Nat) (ws : List Int) (d : Nat) (H : Hp) (p : Addr) (ads qs : List Addr) : Prop := H p = some (.lst (ads.map V.ref)) ∧ RefsTo H qs ((MW s ws d).map prV) ∧ RefsTo H ads (zw (qs.map V.ref) ((FW s ws d).map V.int))
def SpMatchesW (K : PySem.W.Frag) : Sp := fun vs H Q _ => ∃ (p : Addr) (s : Nat) (ws : List Int), vs = [.int s, .ref p] ∧ SqL K H p (ws.map V.int) ∧ (1 ≤ s ∧ s ≤ 6) ∧ ws.length + 1 = 2 ^ s ∧ ∀ q H' (ads qs : List Addr), H q = none → Sm H H' → MtsW s ws s H' q ads qs → Q (.ref q) H'
theorem w_matchesW {K : PySem.W.Frag} {H : Hp} {Q : VK} {E : XK} {p : Addr} {s : Nat} {ws : List Int} (h : SqL K H p (ws.map V.int)) (hs : 1 ≤ s ∧ s ≤ 6) (hl : ws.length + 1 = 2 ^ s) (q : ∀ q H' (ads qs : List Addr), H q = none → Sm H H' → MtsW s ws s H' q ads qs → Q (.ref q) H') : SpMatchesW K ([.int s, .ref p] ++ []) H Q E := ⟨p, s, ws, rfl, h, hs, hl, q⟩
def SpAnyRes (fc : Nat → Addr) : Sp := fun vs H Q _ => ∃ (v : V) (s : Nat) (o : Option (List V)), vs = [.int s, v] ∧ Tg H v o ∧ (1 ≤ s ∧ s ≤ 6) ∧ SC.TbA (TL fc) H ∧ ∀ H', Sm H H' → Q (.bl (resO s o)) H'
theorem w_anyres {fc : Nat → Addr} {H : Hp} {Q : VK} {E : XK} {v : V} {s : Nat} {o : Option (List V)} (h : Tg H v o) (hs : 1 ≤ s ∧ s ≤ 6) (ht : SC.TbA (TL fc) H) (q : ∀ H', Sm H H' → Q (.bl (resO s o)) H') : SpAnyRes fc ([.int s, v] ++ []) H Q E := ⟨v, s, o, rfl, h, hs, ht, q⟩
theorem MtsW.get {s : Nat} {ws : List Int} {H : Hp} {M : Addr} {ads qs : List Addr} (hl : ws.length + 1 = 2 ^ s) (m : MtsW s ws s H M ads qs) : ads.length = ws.length ∧ ∀ (i : Nat) x, (ads.map V.ref)[i]? = some x → ∃ (a q : Addr), x = .ref a ∧ i < ws.length ∧ H a = some (.tup [.ref q, .int (ws.getD i 0)]) ∧ H q = some (.tup [.int ((MW s ws s).getD i (0, 0)).1, .int ((MW s ws s).getD i (0, 0)).2]) := by
  obtain ⟨m1, m2, m3⟩ := m
  have lm := MW_len hl (d := s) (Nat.le_refl _)
  have lf := stp_full (s := s)
  rw [FW_full hl] at m3
  have lq : qs.length = ws.length := by rw [m2.1, List.length_map]; omega
  have la : ads.length = ws.length := by
    rw [m3.1]
    unfold zw
    rw [List.length_zipWith, List.length_map, List.length_map, lq]
    omega
  refine ⟨la, fun i x hx => ?_⟩
  rw [List.getElem?_map] at hx
  obtain ⟨a, ha, rfl⟩ := Option.map_eq_some_iff.mp hx
  have hi := (List.getElem?_eq_some_iff.mp ha).1
  have hf : i < ws.length := by omega
  have hm : i < (MW s ws s).length := by omega
  have hq : i < qs.length := by omega
  have e1 : ws.getD i 0 = ws[i] := by rw [List.getD_eq_getElem?_getD, List.getElem?_eq_getElem hf]; rfl
  have e2 : (MW s ws s).getD i (0, 0) = (MW s ws s)[i] := by rw [List.getD_eq_getElem?_getD, List.getElem?_eq_getElem hm]; rfl
  refine ⟨a, qs[i]'hq, rfl, hf, ?_, ?_⟩
  · rw [e1]
    refine m3.2 i a _ ha ?_
    unfold zw
    rw [List.getElem?_zipWith, List.getElem?_map, List.getElem?_map, List.getElem?_eq_getElem hq, List.getElem?_eq_getElem hf]
    rfl
  · rw [e2]
    refine m2.2 i _ _ (List.getElem?_eq_getElem hq) ?_
    rw [List.getElem?_map, List.getElem?_eq_getElem hm]
    rfl
open Classical in
/-- whether a match, as it lies in the heap, is won by one of its two -/
noncomputable def hitH (H : Hp) (x : V) : Bool := decide (∃ a q p1 p2 w, x = .ref a ∧ H a = some (.tup [.ref q, .int w]) ∧ H q = some (.tup [.int p1, .int p2]) ∧ (w = p1 ∨ w = p2))
theorem hitH_of {H : Hp} {a q : Addr} {p1 p2 w : Int} (h1 : H a = some (.tup [.ref q, .int w])) (h2 : H q = some (.tup [.int p1, .int p2])) : hitH H (.ref a) = decide (w = p1 ∨ w = p2) := by
  unfold hitH
  apply decide_eq_decide.mpr
  constructor
  · rintro ⟨a', q', p1', p2', w', e, e1, e2, h⟩
    cases e
    rw [h1] at e1
    cases e1
    rw [h2] at e2
    cases e2
    exact h
  · intro h
    exact ⟨a, q, p1, p2, w, rfl, h1, h2, h⟩
theorem MtsW.all {s : Nat} {ws : List Int} {H : Hp} {M : Addr} {ads qs : List Addr} (hl : ws.length + 1 = 2 ^ s) (m : MtsW s ws s H M ads qs) : (ads.map V.ref).all (hitH H) = okW s ws := by
  obtain ⟨la, g⟩ := m.get hl
  unfold okW
  rw [Bool.eq_iff_iff, List.all_eq_true, List.all_eq_true]
  constructor
  · intro h i hi
    have hi := List.mem_range.mp hi
    have hx : (ads.map V.ref)[i]? = some (.ref (ads[i]'(by omega))) := by rw [List.getElem?_map, List.getElem?_eq_getElem (by omega)]; rfl
    obtain ⟨a, q, e, _, h1, h2⟩ := g i _ hx
    have z := h _ (List.mem_of_getElem? hx)
    rw [e, hitH_of h1 h2] at z
    exact z
  · intro h x hx
    obtain ⟨i, hi⟩ := List.getElem?_of_mem hx
    obtain ⟨a, q, e, hf, h1, h2⟩ := g i x hi
    rw [e, hitH_of h1 h2]
    exact h i (List.mem_range.mpr hf)
section
variable {P : Program} {w : World} {K : PySem.W.Frag} {mg : Str → Option Value} {base : Heap} {fa : Nat → Addr} {fd : Nat → FuncData} {fc : Nat → Addr}
theorem bi_is_integer (T : TX K mg base fa fd fc) : Binds K (fd 0) ["value"] [] := T.F_is_integer.binds fun _ _ _ _ _ _ us hl => match us, hl with | [_], _ => rfl
theorem bi_is_integer_between (T : TX K mg base fa fd fc) : Binds K (fd 1) ["value", "low", "high"] [] := T.F_is_integer_between.binds fun _ _ _ _ _ _ us hl => match us, hl with | [_, _, _], _ => rfl
theorem bi_check_rounds (T : TX K mg base fa fd fc) : Binds K (fd 2) ["rounds"] [] := T.F_check_rounds.binds fun _ _ _ _ _ _ us hl => match us, hl with | [_], _ => rfl
theorem bi_check_few_rounds (T : TX K mg base fa fd fc) : Binds K (fd 3) ["rounds", "limit"] [] := T.F_check_few_rounds.binds fun _ _ _ _ _ _ us hl => match us, hl with | [_, _], _ => rfl
theorem bi_is_result (T : TX K mg base fa fd fc) : Binds K (fd 4) ["rounds", "value"] [] := T.F_is_result.binds fun _ _ _ _ _ _ us hl => match us, hl with | [_, _], _ => rfl
theorem bi_all_seeds (T : TX K mg base fa fd fc) : Binds K (fd 5) ["rounds"] [] := T.F_all_seeds.binds fun _ _ _ _ _ _ us hl => match us, hl with | [_], _ => rfl
theorem bi_pairs_of (T : TX K mg base fa fd fc) : Binds K (fd 6) ["players"] [] := T.F_pairs_of.binds fun _ _ _ _ _ _ us hl => match us, hl with | [_], _ => rfl
theorem bi_rows_of (T : TX K mg base fa fd fc) : Binds K (fd 7) ["rounds", "result"] [] := T.F_rows_of.binds fun _ _ _ _ _ _ us hl => match us, hl with | [_, _], _ => rfl
theorem bi_matches_of (T : TX K mg base fa fd fc) : Binds K (fd 8) ["rounds", "result"] [] := T.F_matches_of.binds fun _ _ _ _ _ _ us hl => match us, hl with | [_, _], _ => rfl
theorem bi_law_cell (T : TX K mg base fa fd fc) : Binds K (fd 9) ["script", "k"] [] := T.F_law_cell.binds fun _ _ _ _ _ _ us hl => match us, hl with | [_, _], _ => rfl
theorem bi_law_source (T : TX K mg base fa fd fc) : Binds K (fd 10) ["cell"] [] := T.F_law_source.binds fun _ _ _ _ _ _ us hl => match us, hl with | [_], _ => rfl
theorem bi_law_draw (T : TX K mg base fa fd fc) : Binds K (fd 11) ["source", "bound"] [] := T.F_law_draw.binds fun _ _ _ _ _ _ us hl => match us, hl with | [_, _], _ => rfl
theorem bi_law_power (T : TX K mg base fa fd fc) : Binds K (fd 12) ["many"] [] := T.F_law_power.binds fun _ _ _ _ _ _ us hl => match us, hl with | [_], _ => rfl
theorem bi_law_played (T : TX K mg base fa fd fc) : Binds K (fd 13) ["size", "bits"] [] := T.F_law_played.binds fun _ _ _ _ _ _ us hl => match us, hl with | [_, _], _ => rfl
theorem bi_law_is_result (T : TX K mg base fa fd fc) : Binds K (fd 14) ["size", "thing"] [] := T.F_law_is_result.binds fun _ _ _ _ _ _ us hl => match us, hl with | [_, _], _ => rfl
theorem bi_law_near_result (T : TX K mg base fa fd fc) : Binds K (fd 15) ["source", "size"] [] := T.F_law_near_result.binds fun _ _ _ _ _ _ us hl => match us, hl with | [_, _], _ => rfl
theorem bi_law (T : TX K mg base fa fd fc) : Binds K (fd 16) ["script"] [] := T.F_law.binds fun _ _ _ _ _ _ us hl => match us, hl with | [_], _ => rfl
theorem kb_is_result_0_value_rounds (T : TX K mg base fa fd fc) : KBn K (fd 4) ["rounds", "value"] 0 ["value", "rounds"] (pickBy .none [1, 0]) (pickBy .non [1, 0]) := by
  obtain ⟨oc, od, kV, doc, pm, an, cdv, ct, osl, e, lk, hcd⟩ := T.F_is_result.ex
  refine ⟨fun s us ws _ l1 l2 => ?_, fun r rz => vals_pick r rz _⟩
  rw [e]
  match us, ws, l1, l2 with
  | [], [w0, w1], _, _ => exact .of_eq rfl
theorem ok_is_integer (T : TX K mg base fa fd fc) : FnOk P w K mg base CX0 1 (fa 0) (fd 0) ["value"] (SpIsI) := by
  refine T.F_is_integer.ok sc_is_integer (fun vs H Q E h => ?_) (fun cdv A outer s H vs Q E hr h => ?_)
  · obtain ⟨v, rfl, hv, k⟩ := h
    rfl
  obtain ⟨v, rfl, hv, k⟩ := h
  refine ⟨_, (pss_one (ps_ret (pe_and (pe_callB (r := rIsi K) call_isi (by rfl) T.n_isinstance (by decide +kernel) (pa_cons (pv 0) (pa_cons (pe_bltn (v := .ty "int") (by rfl) T.n_int (by decide +kernel) rfl) pa_nil))) (pe_one (pe_not (pe_callB (r := rIsi K) call_isi (by rfl) T.n_isinstance (by decide +kernel) (pa_cons (pv 0) (pa_cons (pe_bltn (v := .ty "bool") (by rfl) T.n_bool (by decide +kernel) rfl) pa_nil)))))))), ?_⟩
  walk_at "s"
  refine w_isInt hv ?_
  walk_at "s"
  refine w_ifb (fun c => ?_) fun c => ?_
  · walk_at "s"
    refine w_isBool hv ?_
    walk_at "s"
    exact vq (k _ (.refl _)) (by cases v <;> simp_all [isI, isB])
  · walk_at "s"
    exact vq (k _ (.refl _)) (by cases v <;> simp_all [isI, isB])
theorem ok_is_integer_between (T : TX K mg base fa fd fc) : FnOk P w K mg base CX0 2 (fa 1) (fd 1) ["value", "low", "high"] (SpBet) := by
  refine T.F_is_integer_between.ok sc_is_integer_between (fun vs H Q E h => ?_) (fun cdv A outer s H vs Q E hr h => ?_)
  · obtain ⟨v, l, h, rfl, hv, k⟩ := h
    rfl
  obtain ⟨v, l, h, rfl, hv, k⟩ := h
  refine ⟨_, (pss_one (ps_ret (pe_and (pe_call (ok_is_integer T) (hr.mono (by decide)) rfl T.g_is_integer T.F_is_integer.kp (bi_is_integer T) .nil pass0 (pa_cons (pv 0) pa_nil)) (pe_one (pe_chain op_le op_le (pv 1) (pv 0) (pv 2)))))), ?_⟩
  walk_at "s"
  refine w_isI hv fun H1 s1 => ?_
  walk_at "s"
  refine w_ifb (fun c => ?_) fun c => ?_
  · obtain ⟨i, rfl⟩ : ∃ i, v = .int i := by
      cases v with
      | int i => exact ⟨i, rfl⟩
      | _ => cases c
    walk_at "s"
    refine w_ifd (fun c => ?_) fun c => ?_
    · walk_at "s"
      exact vq (k _ s1) (by simp [SC.inR, c])
    · walk_at "s"
      exact vq (k _ s1) (by simp [SC.inR, c])
  · walk_at "s"
    exact vq (k _ s1) (by cases v <;> simp_all [isI, SC.inR])
theorem ok_check_rounds (T : TX K mg base fa fd fc) : FnOk P w K mg base CX0 3 (fa 2) (fd 2) ["rounds"] (Sp1 (fun r => 1 ≤ r ∧ r ≤ 100) (fun _ => .non)) := by
  refine T.F_check_rounds.ok sc_check_rounds (fun vs H Q E h => ?_) (fun cdv A outer s H vs Q E hr h => ?_)
  · obtain ⟨r, rfl, p, k⟩ := h
    rfl
  obtain ⟨r, rfl, p, k⟩ := h
  refine ⟨_, (pss_one (ps_if (pt_not (pt_val (pe_call (ok_is_integer_between T) (hr.mono (by decide)) rfl T.g_is_integer_between T.F_is_integer_between.kp (bi_is_integer_between T) .nil pass0 (pa_cons (pv 0) (pa_cons pe_int (pa_cons (pe_glob (v := .int 100) rfl T.t_MOST_ROUNDS.choose_spec ⟨_, rfl⟩) pa_nil))))))
    (pss_one ps_never) pss_nil)), ?_⟩
  walk_at "s"
  refine w_bet (.int r) fun H1 s1 => ?_
  rw [show SC.inR (.int r) 1 100 = true from decide_eq_true p]
  walk_at "s"
  exact k _ s1
theorem ok_check_few_rounds (T : TX K mg base fa fd fc) : FnOk P w K mg base CX0 4 (fa 3) (fd 3) ["rounds", "limit"] (Sp2 (fun r l => 1 ≤ r ∧ r ≤ l ∧ l ≤ 100) (fun _ _ => .non)) := by
  refine T.F_check_few_rounds.ok sc_check_few_rounds (fun vs H Q E h => ?_) (fun cdv A outer s H vs Q E hr h => ?_)
  · obtain ⟨r, l, rfl, p, k⟩ := h
    rfl
  obtain ⟨r, l, rfl, p, k⟩ := h
  refine ⟨_, (pss_cons (ps_expr (pe_call (ok_check_rounds T) (hr.mono (by decide)) rfl T.g_check_rounds T.F_check_rounds.kp (bi_check_rounds T) .nil pass0 (pa_cons (pv 0) pa_nil)))
    (pss_one (ps_if (pt_cmpR op_gt (pv 0) (pv 1) (nomark _))
    (pss_one ps_never) pss_nil))), ?_⟩
  walk_at "r"
  exact k _ (by walk_at "same")
theorem ok_all_seeds (T : TX K mg base fa fd fc) : FnOk P w K mg base CX0 1 (fa 5) (fd 5) ["rounds"] (SpSeeds) := by
  refine T.F_all_seeds.ok sc_all_seeds (fun vs H Q E h => ?_) (fun cdv A outer s H vs Q E hr h => ?_)
  · obtain ⟨s, rfl, hs, q⟩ := h
    rfl
  obtain ⟨s, rfl, hs, q⟩ := h
  refine ⟨_, (pss_one (ps_ret (pe_listRg rfl (by rfl) T.n_list (prg_2 (by rfl) T.n_range pe_int (pe_op op_add (pe_op SC.op_shl1 pe_int (pv 0)) pe_int))))), ?_⟩
  have P2 := p2_nat s
  have lim : 2 ^ s ≤ 2 ^ 6 := Nat.pow_le_pow_right (by decide) hs
  have pp := p2_pos (s : Int)
  walk_at "r"
  refine w_rg2 (by omega) (by omega) (by omega) fun p H' e f h => ?_
  refine q p H' f e ?_
  rw [h]
  have en : (p2 (s : Int) + 1 - 1).toNat = 2 ^ s := by omega
  rw [en]
  rfl
theorem ok_pairs_of (T : TX K mg base fa fd fc) : FnOk P w K mg base CX0 1 (fa 6) (fd 6) ["players"] (SpPairs K) := by
  refine T.F_pairs_of.ok sc_pairs_of (fun vs H Q E h => ?_) (fun cdv A outer s H vs Q E hr h => ?_)
  · obtain ⟨p, ps, rfl, hp, hl, q⟩ := h
    rfl
  obtain ⟨p, ps, rfl, hp, hl, q⟩ := h
  refine ⟨_, (pss_one (ps_ret (pe_lc (own := [("at", 1)]) (by rfl) sc_pairs_of.nd (pi_range1 rfl T.n_range (pa_cons (pe_op op_fdivW (pe_callB (r := SC.rLen K) SC.c_len (by rfl) T.n_len (by decide +kernel) (pa_cons (pv 0) pa_nil)) pe_int) pa_nil)) (blkOk_by (own := [("at", 1)]) (N := nm_pairs_of) (sc := defScope s_pairs_of) (by decide +kernel)) (fun _ _ _ _ _ => (pg_name (i := 1) sc_pairs_of.nd rfl (by first | exact Or.inl rfl | exact Or.inr rfl))) (fun _ _ _ _ _ => pts_nil) (fun _ _ _ _ _ => (pe_tup (pa_cons (pe_ix (r := rIxL K) ix_list (pv 0) (pv 1) (fun _ _ => rfl)) (pa_cons (pe_ix (r := rIxL K) ix_list (pv 0) (pe_op op_sub (pe_un un_neg pe_int) (pv 1)) (fun _ _ => rfl)) pa_nil))))))), ?_⟩
  walk_at "r"
  rw [List.length_map]
  have en : ((ps.length : Int) / 2).toNat = ps.length / 2 := by omega
  refine w_lcrI (fun i xs D H' => ∃ ads : List Addr, xs = ads.map V.ref ∧ Sm H H' ∧ RefsTo H' ads (((prs ps).map prV).take i)) (by omega) (by omega) (fun _ => rfl) (fun D H' e hD hx => ⟨[], rfl, e, by rw [List.take_zero]; exact .nil⟩) (fun i xs D H' hi hD hxl J hx R hR => ?_) fun xs D H1 hD hxl J hx => ?_
  · obtain ⟨ads, rfl, e, r⟩ := J
    have hi2 : i < ps.length / 2 := by omega
    have g1 := getI (ps := ps) (i := i) (by omega)
    have g2 : atI (ps.map V.int) (-1 - (i : Int)) = some (.int (ps.getD (ps.length - 1 - i) 0)) := atI_neg (by rw [List.length_map]; omega) (by rw [List.length_map]; exact getI (by omega))
    have s2 : SqL K H' p (ps.map V.int) := e.seq hp
    walk_at "r"
    refine w_ixL s2 (atI_nat g1) ?_
    walk_at "r"
    refine w_ixL s2 g2 ?_
    walk_at "r"
    rename_i T H5 e5 f5 h5
    refine hR _ _ (e5 _ _ hx) ⟨ads ++ [T], by rw [List.map_append]; rfl, sm_upd (e.trans e5) hD, ?_⟩
    have gp : ((prs ps).map prV)[i]? = some (prV (prAt ps i)) := by
      unfold prs
      rw [List.getElem?_map, List.getElem?_map, List.getElem?_range hi2]
      rfl
    rw [List.take_add_one, gp]
    exact RefsTo.updL ((r.go e5).snoc h5) fun v z => by rw [e5 _ _ hx] at z; cases z
  · obtain ⟨ads, rfl, e, r⟩ := J
    rw [en] at r
    rw [List.take_of_length_le (by rw [List.length_map, prs_len]; omega)] at r
    exact q D H1 ads hD e hx r
theorem ok_rows_of (T : TX K mg base fa fd fc) : FnOk P w K mg base CX0 1 (fa 7) (fd 7) ["rounds", "result"] (SpRowsW K) := by
  refine T.F_rows_of.ok sc_rows_of (fun vs H Q E h => ?_) (fun cdv A outer s H vs Q E hr h => ?_)
  · obtain ⟨p, s, ws, rfl, hp, hs, hl, q⟩ := h
    rfl
  obtain ⟨p, s, ws, rfl, hp, hs, hl, q⟩ := h
  refine ⟨_, (pss_cons (ps_set (i := 2) sc_rows_of.nd rfl (by first | exact Or.inl rfl | exact Or.inr rfl) (pe_lst pa_nil))
    (pss_cons (ps_set (i := 3) sc_rows_of.nd rfl (by first | exact Or.inl rfl | exact Or.inr rfl) pe_int)
    (pss_cons (ps_for PassesOwn.never rfl (pi_range2 rfl T.n_range (pa_cons pe_int (pa_cons (pe_op op_add (pv 0) pe_int) pa_nil))) (pg_name (i := 4) sc_rows_of.nd rfl (by first | exact Or.inl rfl | exact Or.inr rfl))
    (pss_cons (ps_set (i := 5) sc_rows_of.nd rfl (by first | exact Or.inl rfl | exact Or.inr rfl) (pe_op op_add (pv 3) (pe_op SC.op_shl1 pe_int (pe_op op_sub (pv 0) (pv 4)))))
    (pss_cons (ps_expr (pe_bm PySem.F.plainAttrs_list PySem.F.slot_list_append PySem.F.type_list_append mt_append (pv 2) (pa_cons (pe_slice (r := rSlL K) sl_list (pv 1) (po_some (pv 3)) (po_some (pv 5))) pa_nil)))
    (pss_one (ps_set (i := 3) sc_rows_of.nd rfl (by first | exact Or.inl rfl | exact Or.inr rfl) (pv 5))))))
    (pss_one (ps_ret (pv 2)))))), ?_⟩
  have lim : 2 ^ s ≤ 2 ^ 6 := Nat.pow_le_pow_right (by decide) hs.2
  walk_at "r"
  rename_i R0 H1 e1 f1 h1
  walk_at "r"
  refine w_rng2 (by decide) (by decide) (by omega) (by omega) (fun d σ H' => ∃ (y z : Option V) (ads : List Addr), σ = [some (.int s), some (.ref p), some (.ref R0), some (.int ((stp s d : Nat) : Int)), y, z] ∧ Sm H H' ∧ H' R0 = some (.lst (ads.map V.ref)) ∧ ads.length = d ∧ R0 ∉ ads ∧ ∀ (j : Nat) a, ads[j]? = some a → H' a = some (.lst ((PW s ws (j + 1)).map V.int))) ⟨_, _, [], by rw [stp_zero]; rfl, e1, h1, rfl, by simp, fun j a z => by simp at z⟩ ?_ ?_
  · rintro d σ H2 hd ⟨y, z, ads, rfl, e2, h2, al, nR, ha⟩
    have hd2 : d < s := by omega
    have pl := PW_len hl (d := d + 1) (by omega)
    have fl := stp_succ hd2
    have fs := stp_le (s := s) (d := d + 1) (by omega)
    have p1 : 0 < 2 ^ (s - (d + 1)) := Nat.pow_pos (by decide)
    have pe : p2 ((s : Int) - (1 + (d : Int))) = ((2 ^ (s - (d + 1)) : Nat) : Int) := by rw [← p2_nat, show ((s - (d + 1) : Nat) : Int) = (s : Int) - (1 + d) by omega]
    walk_at "r"
    refine w_sl (e2.seq hp) fun w5 H5 e5 f5 h5 => ?_
    rw [cut_part (a := stp s d) (b := stp s (d + 1)) rfl (by rw [pe]; omega) (by omega) (by rw [List.length_map]; omega), show stp s (d + 1) - stp s d = 2 ^ (s - (d + 1)) by omega, ← List.map_drop, ← List.map_take] at h5
    have lz : ((ws.drop (stp s d)).take (2 ^ (s - (d + 1)))).length = 2 ^ (s - (d + 1)) := pl
    walk_at "r"
    refine w_append (e5 _ _ h2) (by rw [List.length_map]; omega) ?_
    walk_at "r"
    have nw : R0 ≠ w5 := ne_of_none h2 f5
    refine ⟨_, _, ads ++ [w5], by rw [pe, fl, Int.natCast_add]; rfl, sm_upd (e2.trans e5) f1, by rw [List.map_append]; exact upd_same, by simp [al], by simp [nR, nw], fun j a hj => ?_⟩
    have na : a ≠ R0 := fun z => by
      have hm := List.mem_of_getElem? hj
      rw [z] at hm
      rcases List.mem_append.mp hm with hm | hm
      · exact nR hm
      · exact nw (List.mem_singleton.mp hm)
    rw [upd_ne na]
    by_cases hj2 : j < ads.length
    · rw [List.getElem?_append_left hj2] at hj
      exact e5 _ _ (ha j a hj)
    · have hj3 := (List.getElem?_eq_some_iff.mp hj).1
      rw [List.length_append, List.length_singleton] at hj3
      have ej : j = ads.length := by omega
      rw [ej, List.getElem?_append_right (Nat.le_refl _), Nat.sub_self] at hj
      rw [ej, al, ← Option.some.inj hj]
      exact h5
  · rintro σ H2 ⟨y, z, ads, rfl, e2, h2, al, nR, ha⟩
    walk_at "r"
    exact q R0 H2 ads f1 e2 h2 (by omega) ha
theorem ok_matches_of (T : TX K mg base fa fd fc) : FnOk P w K mg base CX0 2 (fa 8) (fd 8) ["rounds", "result"] (SpMatchesW K) := by
  refine T.F_matches_of.ok sc_matches_of (fun vs H Q E h => ?_) (fun cdv A outer s H vs Q E hr h => ?_)
  · obtain ⟨p, s, ws0, rfl, hp, hs, hl, q⟩ := h
    rfl
  obtain ⟨p, s, ws0, rfl, hp, hs, hl, q⟩ := h
  refine ⟨_, (pss_cons (ps_set (i := 2) sc_matches_of.nd rfl (by first | exact Or.inl rfl | exact Or.inr rfl) (pe_lst pa_nil))
    (pss_cons (ps_set (i := 3) sc_matches_of.nd rfl (by first | exact Or.inl rfl | exact Or.inr rfl) (pe_call (ok_all_seeds T) (hr.mono (by decide)) rfl T.g_all_seeds T.F_all_seeds.kp (bi_all_seeds T) .nil pass0 (pa_cons (pv 0) pa_nil)))
    (pss_cons (ps_for PassesOwn.never rfl (pi_list (pe_call (ok_rows_of T) (hr.mono (by decide)) rfl T.g_rows_of T.F_rows_of.kp (bi_rows_of T) .nil pass0 (pa_cons (pv 0) (pa_cons (pv 1) pa_nil)))) (pg_name (i := 4) sc_matches_of.nd rfl (by first | exact Or.inl rfl | exact Or.inr rfl))
    (pss_cons (ps_expr (pe_bm PySem.F.plainAttrs_list PySem.F.slot_list_extend PySem.F.type_list_extend mt_extend (pv 2) (pa_cons (SC.pe_listZip hr.hd (by rfl) T.n_list (by rfl) T.n_zip (pa_cons (pe_call (ok_pairs_of T) (hr.mono (by decide)) rfl T.g_pairs_of T.F_pairs_of.kp (bi_pairs_of T) .nil pass0 (pa_cons (pv 3) pa_nil)) (pa_cons (pv 4) pa_nil))) pa_nil)))
    (pss_one (ps_set (i := 3) sc_matches_of.nd rfl (by first | exact Or.inl rfl | exact Or.inr rfl) (pv 4)))))
    (pss_one (ps_ret (pv 2)))))), ?_⟩
  have lim : 2 ^ s ≤ 2 ^ 6 := Nat.pow_le_pow_right (by decide) hs.2
  walk_at "r"
  rename_i M0 H1 e1 f1 h1
  refine w_seeds hs.2 fun S0 H2 f2 e2 h2 => ?_
  walk_at "r"
  refine w_rowsW ((e1.trans e2).seq hp) hs hl fun W0 H3 ws f3 e3 h3 wl hw => ?_
  walk_at "r"
  have f3' : H W0 = none := (e1.trans e2).fr _ f3
  refine w_lst (sq_of h3) (fun d σ H' => ∃ (y : Option V) (pp : Addr) (ads qs : List Addr), σ = [some (.int s), some (.ref p), some (.ref M0), some (.ref pp), y] ∧ Sm H H' ∧ H' W0 = some (.lst (ws.map V.ref)) ∧ (∀ (d : Nat) a, ws[d]? = some a → H' a = some (.lst ((PW s ws0 (d + 1)).map V.int)) ∧ a ≠ M0) ∧ H' pp = some (.lst ((PW s ws0 d).map V.int)) ∧ MtsW s ws0 d H' M0 ads qs) ⟨_, S0, [], [], rfl, (e1.trans e2).trans e3, h3, fun d a ha => ⟨hw d a ha, ?_⟩, e3 _ _ h2, (e2.trans e3) _ _ h1, .nil, by unfold FW; rw [stp_zero]; exact .nil⟩ (fun d σ' H' hd ⟨y, pp, ads, qs, e, _, h, _⟩ => sq_of h) ?_ ?_
  · intro z
    have dl := (List.getElem?_eq_some_iff.mp ha).1
    have q1 := hw d a ha
    rw [z, (e2.trans e3) _ _ h1] at q1
    have q2 := congrArg List.length (HO.lst.inj (Option.some.inj q1))
    rw [List.length_map, PW_len hl (show d + 1 ≤ s by omega)] at q2
    have : 0 < 2 ^ (s - (d + 1)) := Nat.pow_pos (by decide)
    have q3 : ([] : List V).length = 0 := rfl
    omega
  · rintro d x σ' H4 hx ⟨y, pp, ads, qs, rfl, e4, h4, hw4, hpp, m1, m2, m3⟩
    have hd := (List.getElem?_eq_some_iff.mp hx).1
    rw [List.length_map, wl] at hd
    have pl := PW_len hl (d := d) (by omega)
    have pl1 := PW_len hl (d := d + 1) (by omega)
    have ph := pow_half (s := s) (d := d) (by omega)
    have pm : 2 ^ (s - d) ≤ 2 ^ 6 := Nat.pow_le_pow_right (by decide) (by omega)
    obtain ⟨a, ha⟩ : ∃ a, ws[d]? = some a := ⟨ws[d]'(by omega), List.getElem?_eq_getElem _⟩
    rw [List.getElem?_map, ha] at hx
    have hx := Option.some.inj hx
    subst hx
    obtain ⟨ga, na⟩ := hw4 d a ha
    walk_at "r"
    refine w_pairs (sq_of hpp) (by omega) fun q5 H5 ad5 f5 e5 h5 r5 => ?_
    walk_at "r"
    have l5 : ad5.length = (PW s ws0 (d + 1)).length := by rw [r5.1, List.length_map, prs_len]; omega
    refine w_lzb (sq_of h5) (sq_of (e5 _ _ ga)) (by rw [List.length_map, List.length_map, l5]) fun z6 H6 ad6 f6 e6 h6 r6 => ?_
    walk_at "r"
    have hM : H6 M0 = some (.lst (ads.map V.ref)) := (e5.trans e6) _ _ m1
    have la : ads.length = stp s d := by
      rw [m3.1]
      unfold zw
      rw [List.length_zipWith, List.length_map, List.length_map, m2.1, List.length_map, MW_len hl (by omega), FW_len hl (by omega)]
      omega
    have l6 : ad6.length = (PW s ws0 (d + 1)).length := by
      rw [r6.1]
      unfold zw
      rw [List.length_zipWith, List.length_map, List.length_map, l5]
      omega
    have fs := stp_le (s := s) (d := d) (by omega)
    refine w_extend hM h6 (by rw [List.length_map, List.length_map]; omega) ?_
    walk_at "r"
    have nl : ∀ v, H6 M0 ≠ some (.tup v) := fun v z => by rw [hM] at z; cases z
    have e46 := e5.trans e6
    refine ⟨_, a, ads ++ ad6, qs ++ ad5, rfl, sm_upd (e4.trans e46) f1, ?_, fun d' a' ha' => ?_, ?_, by rw [List.map_append]; exact upd_same, ?_, ?_⟩
    · rw [upd_ne (Ne.symm (ne_of_none (e2 _ _ h1) f3))]
      exact e46 _ _ h4
    · obtain ⟨g', n'⟩ := hw4 d' a' ha'
      rw [upd_ne n']
      exact ⟨e46 _ _ g', n'⟩
    · rw [upd_ne na]
      exact e46 _ _ ga
    · show RefsTo _ (qs ++ ad5) ((MW s ws0 d ++ prs (PW s ws0 d)).map prV)
      rw [List.map_append]
      exact RefsTo.updL ((m2.go e46).app (r5.go e6)) nl
    · rw [FW_succ hd, List.map_append, List.map_append, zw_app (by rw [List.length_map, List.length_map, m2.1, List.length_map, MW_len hl (by omega), FW_len hl (by omega)])]
      exact RefsTo.updL ((m3.go e46).app r6) nl
  · rintro σ' H4 ⟨y, pp, ads, qs, rfl, e4, h4, hw4, hpp, m⟩
    rw [List.length_map, wl] at m
    walk_at "r"
    exact q M0 H4 ads qs f1 e4 m
theorem ok_is_result (T : TX K mg base fa fd fc) : FnOk P w K mg base CX0 5 (fa 4) (fd 4) ["rounds", "value"] (SpAnyRes fc) := by
  refine SC.okT T.F_is_result sc_is_result T.k_is_result (fun vs H Q E h => ?_) (fun A outer s H vs Q E hr h => ?_)
  · obtain ⟨v, s, o, rfl, hv, hs, ht, q⟩ := h
    rfl
  obtain ⟨v, s, o, rfl, hv, hs, ht, q⟩ := h
  refine ⟨_, (pss_cons (ps_expr (pe_call (ok_check_few_rounds T) (hr.mono (by decide)) rfl T.g_check_few_rounds T.F_check_few_rounds.kp (bi_check_few_rounds T) .nil pass0 (pa_cons (pv 0) (pa_cons (pe_glob (v := .int 6) rfl T.t_MOST_ROUNDS_OF_A_RESULT.choose_spec ⟨_, rfl⟩) pa_nil))))
    (pss_cons (ps_if (PW.pt (pw_or (pt_not (pt_val (pe_callB (r := rIsi K) call_isi (by rfl) T.n_isinstance (by decide +kernel) (pa_cons (pv 1) (pa_cons (pe_bltn (v := .ty "list") (by rfl) T.n_list (by decide +kernel) rfl) pa_nil))))) (pw_or1 (pt_cmpR op_ne (pe_callB (r := SC.rLen K) SC.c_len (by rfl) T.n_len (by decide +kernel) (pa_cons (pv 1) pa_nil)) (pe_op op_sub (pe_op SC.op_shl1 pe_int (pv 0)) pe_int) (nomark _)))))
    (pss_one (ps_ret pe_bl)) pss_nil)
    (pss_cons (ps_if (pt_not (pt_val (SC.pe_allX hr rfl sc_is_result.nd (by rfl) T.n_all T.b_is_result rfl (pi_list (pv 1)) (blkOk_by (own := [("winner", 2)]) (N := nm_is_result) (sc := defScope s_is_result) (by decide +kernel)) ⟨rfl, by decide +kernel, by decide +kernel⟩ (fun _ _ _ _ _ _ _ => (pg_name (i := 2) sc_is_result.nd rfl (by first | exact Or.inl rfl | exact Or.inr rfl))) (fun _ hrg _ _ _ _ _ _ => (pe_call (ok_is_integer T) (hrg.mono (by decide)) rfl T.g_is_integer T.F_is_integer.kp (bi_is_integer T) .nil pass0 (pa_cons (pv 2) pa_nil))))))
    (pss_one (ps_ret pe_bl)) pss_nil)
    (pss_one (ps_ret (SC.pe_allX (g := gTup K 2 (gCons (gName 3) (gCons (gName 2) gNil))) hr rfl sc_is_result.nd (by rfl) T.n_all T.b_is_result rfl (pi_list (pe_call (ok_matches_of T) (hr.mono (by decide)) rfl T.g_matches_of T.F_matches_of.kp (bi_matches_of T) .nil pass0 (pa_cons (pv 0) (pa_cons (pv 1) pa_nil)))) (blkOk_by (own := [("pair", 3), ("winner", 2)]) (N := nm_is_result) (sc := defScope s_is_result) (by decide +kernel)) ⟨rfl, by decide +kernel, by decide +kernel⟩ (fun _ _ _ _ _ _ _ => (pg_tup rfl (pgs_cons (pg_name (i := 3) sc_is_result.nd rfl (by first | exact Or.inl rfl | exact Or.inr rfl)) (pgs_cons (pg_name (i := 2) sc_is_result.nd rfl (by first | exact Or.inl rfl | exact Or.inr rfl)) pgs_nil)))) (fun _ hrg _ _ _ _ _ _ => (pe_cmpR (r := rIn K false) op_in_seq (pv 2) (pv 3) (by rfl))))))))), ?_⟩
  have lim : 2 ^ s ≤ 2 ^ 6 := Nat.pow_le_pow_right (by decide) hs.2
  have P2 := p2_nat s
  walk_at "r"
  rename_i H1 e1
  refine w_isLst (hv.same e1) ?_
  cases hv with
  | oth kd n =>
    rw [show isLs none = false from rfl]
    walk_at "r"
    exact q _ e1
  | @lst p vs hp hk =>
    rw [show isLs (some vs) = true from rfl]
    walk_at "r"
    refine w_ifd (fun c => ?_) fun c => ?_
    · walk_at "r"
      refine vq (q _ e1) ?_
      show V.bl (resL s vs) = _
      unfold resL
      rw [decide_eq_false (by omega), Bool.false_and]
    · have hl : vs.length + 1 = 2 ^ s := by omega
      walk_at "r"
      refine w_gxL isI (sq_of (e1 _ _ hp)) (tl_is_result (ht.go e1)) (fun i x H2 hx e2 R hR => ?_) fun H2 e2 => ?_
      · refine ⟨rfl, ?_⟩
        walk_at "r"
        refine w_isI ((hk x (List.mem_of_getElem? hx)).same (e1.trans e2)) fun H3 e3 => ?_
        exact hR _ e3
      rw [if_pos rfl]
      have e12 := e1.trans e2
      walk_at "r"
      refine w_ifn' (fun c2 => ?_) fun c2 => ?_
      · walk_at "r"
        refine vq (q _ e12) ?_
        show V.bl (resL s vs) = _
        unfold resL
        rw [c2, Bool.false_and, Bool.and_false]
      have ew : vs = (vs.map iv).map V.int := by
        rw [List.map_map]
        conv => lhs; rw [← List.map_id vs]
        refine List.map_congr_left fun x hx => ?_
        have z := List.all_eq_true.mp c2 x hx
        cases x with
        | int i => rfl
        | _ => cases z
      have hl2 : (vs.map iv).length + 1 = 2 ^ s := by rw [List.length_map]; exact hl
      have hp2 := e12 _ _ hp
      rw [ew] at hp2
      walk_at "r"
      refine w_matchesW (sq_of hp2) hs hl2 fun M H3 ads qs f3 e3 m => ?_
      obtain ⟨la, g⟩ := m.get hl2
      refine w_gxL (g := gTup K 2 (gCons (gName 3) (gCons (gName 2) gNil))) (hitH H3) (sq_of m.1) (tl_is_result (ht.go (e12.trans e3))) (fun i x H4 hx e4 R hR => ?_) fun H4 e4 => ?_
      · obtain ⟨a, q, rfl, hf, ha, hq⟩ := g i x hx
        refine w_gtup (.inl (.inl (e4 _ _ ha))) rfl ?_
        refine w_gcons (w_gname (w_gcons (w_gname (w_gnil ⟨rfl, ?_⟩))))
        walk_at "r"
        refine w_inT (.inl (.inl (e4 _ _ hq))) ?_
        rw [hitH_of ha hq] at hR
        exact hR _ (.refl _)
      rw [if_pos rfl, m.all hl2]
      refine vq (q _ ((e12.trans e3).trans e4)) ?_
      show V.bl (resL s vs) = _
      unfold resL
      rw [c2, decide_eq_true hl, Bool.true_and, Bool.true_and]
theorem ok_law_cell (T : TX K mg base fa fd fc) : FnOk P w K mg base CX0 1 (fa 9) (fd 9) ["script", "k"] (SpCell K) := by
  refine T.F_law_cell.ok sc_law_cell (fun vs H Q E h => ?_) (fun cdv A outer s H vs Q E hr h => ?_)
  · obtain ⟨p, ns, k, rfl, hS, k0, q⟩ := h
    rfl
  obtain ⟨p, ns, k, rfl, hS, k0, q⟩ := h
  refine ⟨_, (pss_one (ps_ret (pe_ifExp (pt_cmpR op_lt (pv 1) (pe_callB (r := SC.rLen K) SC.c_len (by rfl) T.n_len (by decide +kernel) (pa_cons (pv 0) pa_nil)) (nomark _)) (pe_ix (r := rIxL K) ix_list (pv 0) (pv 1) (fun _ _ => rfl)) pe_int))), ?_⟩
  walk_at "s"
  refine w_lenL hS ?_
  walk_at "s"
  refine w_ifd (fun c => ?_) fun c => ?_
  · walk_at "s"
    obtain ⟨m, em, _⟩ := pickI (fun _ => True) k0 (by simpa using c) (fun _ _ => trivial)
    refine w_ixL hS em ?_
    exact q _ _ (.refl _)
  · walk_at "s"
    exact q _ _ (.refl _)
theorem ok_law_source (T : TX K mg base fa fd fc) : FnOk P w K mg base CX0 1 (fa 10) (fd 10) ["cell"] (SpSourceC) := by
  refine T.F_law_source.ok sc_law_source (fun vs H Q E h => ?_) (fun cdv A outer s H vs Q E hr h => ?_)
  · obtain ⟨c, rfl, q⟩ := h
    rfl
  obtain ⟨c, rfl, q⟩ := h
  refine ⟨_, (pss_one (ps_ret (pe_lst (pa_cons (pe_callB (SC.c_max2 rfl) (by rfl) T.n_max (by decide +kernel) (pa_cons pe_int (pa_cons (pe_op op_sub (pe_callB SC.c_abs (by rfl) T.n_abs (by decide +kernel) (pa_cons (pv 0) pa_nil)) (pe_op SC.op_powX pe_int pe_int)) pa_nil))) (pa_cons (pe_op SC.op_modR (pv 0) (pe_op op_add (pe_op SC.op_powX pe_int pe_int) pe_int)) (pa_cons pe_int pa_nil)))))), ?_⟩
  walk_at "s"
  refine w_modG (by decide) fun r r0 r1 => ?_
  walk_at "s"
  refine w_new fun a H' s1 ha e => ?_
  refine q a H' ha s1 ⟨_, _, _, e, by omega, by omega, ?_, by omega, by omega⟩
  have b1 : (10 : Int) ^ Int.toNat 35 + 69 < 2 ^ 200 := by decide
  omega
theorem ok_law_draw (T : TX K mg base fa fd fc) : FnOk P w K mg base CX0 1 (fa 11) (fd 11) ["source", "bound"] (SpDraw) := by
  refine T.F_law_draw.ok sc_law_draw (fun vs H Q E h => ?_) (fun cdv A outer s H vs Q E hr h => ?_)
  · obtain ⟨a, N, b, rfl, ⟨c0, c1, c2, h, g0, g1, g2, g3, g4⟩, hb, hb2, hN, k⟩ := h
    rfl
  obtain ⟨a, N, b, rfl, ⟨c0, c1, c2, h, g0, g1, g2, g3, g4⟩, hb, hb2, hN, k⟩ := h
  refine ⟨_, (pss_cons (ps_if (pt_cmpR op_gt (pe_ix (r := rIxL K) ix_list (pv 0) pe_int (fun _ _ => rfl)) pe_int (nomark _))
    (pss_cons (ps_set (i := 2) sc_law_draw.nd rfl (by first | exact Or.inl rfl | exact Or.inr rfl) (pe_op SC.op_modR (pe_ix (r := rIxL K) ix_list (pv 0) pe_int (fun _ _ => rfl)) (pv 1)))
    (pss_cons (ps_asg (pe_op op_fdivW (pe_ix (r := rIxL K) ix_list (pv 0) pe_int (fun _ _ => rfl)) (pv 1)) (pg_sub (pv 0) pe_int set_list))
    (pss_one (ps_ret (pv 2))))) pss_nil)
    (pss_cons (ps_asg (pe_op op_add (pe_ix (r := rIxL K) ix_list (pv 0) pe_int (fun _ _ => rfl)) pe_int) (pg_sub (pv 0) pe_int set_list))
    (pss_cons (ps_set (i := 3) sc_law_draw.nd rfl (by first | exact Or.inl rfl | exact Or.inr rfl) (pe_op SC.op_modR (pe_op SC.op_powX (pe_op op_add (pe_op op_add (pe_ix (r := rIxL K) ix_list (pv 0) pe_int (fun _ _ => rfl)) (pe_op op_mul pe_int (pe_ix (r := rIxL K) ix_list (pv 0) pe_int (fun _ _ => rfl)))) pe_int) pe_int) (pe_op op_add (pe_op SC.op_powX pe_int pe_int) pe_int)))
    (pss_cons (ps_set (i := 3) sc_law_draw.nd rfl (by first | exact Or.inl rfl | exact Or.inr rfl) (pe_op SC.op_modR (pe_op SC.op_powX (pe_op op_add (pv 3) (pe_op op_mul pe_int (pe_ix (r := rIxL K) ix_list (pv 0) pe_int (fun _ _ => rfl)))) pe_int) (pe_op op_add (pe_op SC.op_powX pe_int pe_int) pe_int)))
    (pss_one (ps_ret (pe_op SC.op_modR (pe_op op_fdivW (pv 3) pe_int) (pv 1)))))))), ?_⟩
  walk_at "s"
  refine w_ixL (.inl (.inl h)) rfl ?_
  walk_at "s"
  refine w_ifd (fun c => ?_) fun c => ?_
  · walk_at "s"
    refine w_ixL (.inl (.inl h)) rfl ?_
    walk_at "s"
    refine w_modE hb ?_
    walk_at "s"
    refine w_ixL (.inl (.inl h)) rfl ?_
    walk_at "s"
    refine w_i (wide_div hb (big_abs hb hb2) (by decide) (by decide)) ?_
    walk_at "s"
    refine w_setL h rfl ?_
    walk_at "s"
    exact k _ _ (Int.emod_nonneg _ (by omega)) (Int.emod_lt_of_pos _ hb) kp_upd ⟨_, _, _, upd_same, Int.ediv_nonneg (by omega) (by omega), g1, g2, g3, by omega⟩
  · walk_at "s"
    refine w_ixL (.inl (.inl h)) rfl ?_
    walk_at "s"
    refine w_setL h rfl ?_
    have h' := upd_same (H := H) (a := a) (o := .lst [.int c0, .int c1, .int (c2 + 1)])
    have b0 : LIM = 1000000000000 := rfl
    walk_at "s"
    refine w_ixL (.inl (.inl h')) rfl ?_
    walk_at "s"
    refine w_ixL (.inl (.inl h')) rfl ?_
    walk_at "s"
    refine w_i (cpow_ok (by omega) (by have b1 : (2 : Int) ^ 200 + 67867967 * 10000000000000 + 5 < 2 ^ 400 := by decide
                                       omega) (by decide) (by decide)) ?_
    walk_at "s"
    refine w_modG (by decide) fun r r0 r1 => ?_
    walk_at "s"
    refine w_ixL (.inl (.inl h')) rfl ?_
    walk_at "s"
    refine w_i (cpow_ok (by omega) (by have b1 : (10 : Int) ^ Int.toNat 40 + 121 + 122949823 * 10000000000000 < 2 ^ 400 := by decide
                                       omega) (by decide) (by decide)) ?_
    walk_at "s"
    refine w_modG (by decide) fun r' r0' r1' => ?_
    walk_at "s"
    refine w_modE hb ?_
    exact k _ _ (Int.emod_nonneg _ (by omega)) (Int.emod_lt_of_pos _ hb) kp_upd ⟨_, _, _, h', by omega, g1, g2, by omega, by omega⟩
theorem ok_law_power (T : TX K mg base fa fd fc) : FnOk P w K mg base CX0 1 (fa 12) (fd 12) ["many"] (Sp1 (fun n => 0 ≤ n ∧ n ≤ 200) (fun n => .int (p2 n))) := by
  refine T.F_law_power.ok sc_law_power (fun vs H Q E h => ?_) (fun cdv A outer s H vs Q E hr h => ?_)
  · obtain ⟨n, rfl, hn, k⟩ := h
    rfl
  obtain ⟨n, rfl, hn, k⟩ := h
  refine ⟨_, (pss_cons (ps_set (i := 1) sc_law_power.nd rfl (by first | exact Or.inl rfl | exact Or.inr rfl) pe_int)
    (pss_cons (ps_for PassesOwn.never rfl (pi_range1 rfl T.n_range (pa_cons (pv 0) pa_nil)) (pg_name (i := 2) sc_law_power.nd rfl (by first | exact Or.inl rfl | exact Or.inr rfl))
    (pss_one (ps_set (i := 1) sc_law_power.nd rfl (by first | exact Or.inl rfl | exact Or.inr rfl) (pe_op op_mul (pv 1) pe_int))))
    (pss_one (ps_ret (pv 1))))), ?_⟩
  walk_at "s"
  refine w_rng1 (by omega) (by omega) (fun d σ H' => ∃ y, σ = [some (.int n), some (.int (p2 d)), y] ∧ Sm H H') ⟨_, by rw [show p2 ((0 : Nat) : Int) = 1 from p2_zero]; rfl, .refl _⟩ ?_ ?_
  · rintro d σ H' hd ⟨y, rfl, s1⟩
    walk_at "s"
    exact ⟨_, by rw [Int.mul_comm, ← p2_succ (by omega)]; rfl, s1⟩
  · rintro σ H' ⟨y, rfl, s1⟩
    walk_at "s"
    rw [show ((n.toNat : Nat) : Int) = n by omega]
    exact k _ s1
theorem ok_law_played (T : TX K mg base fa fd fc) : FnOk P w K mg base CX0 2 (fa 13) (fd 13) ["size", "bits"] (SpPlayed K) := by
  refine T.F_law_played.ok sc_law_played (fun vs H Q E h => ?_) (fun cdv A outer s H vs Q E hr h => ?_)
  · obtain ⟨p, s, B, rfl, hp, hs, hB, q⟩ := h
    rfl
  obtain ⟨p, s, B, rfl, hp, hs, hB, q⟩ := h
  refine ⟨_, (pss_cons (ps_par (i := 2) (j := 3) (by rfl) sc_law_played.nd rfl rfl (by decide) rfl rfl (pa_cons (pe_listRg rfl (by rfl) T.n_list (prg_1 (by rfl) T.n_range (pe_op op_add (pe_call (ok_law_power T) (hr.mono (by decide)) rfl T.g_law_power T.F_law_power.kp (bi_law_power T) .nil pass0 (pa_cons (pv 0) pa_nil)) pe_int))) (pa_cons (pe_lst pa_nil) pa_nil)) (by rfl))
    (pss_cons (ps_for PassesOwn.never rfl (pi_range1 rfl T.n_range (pa_cons (pv 0) pa_nil)) (pg_name (i := 4) sc_law_played.nd rfl (by first | exact Or.inl rfl | exact Or.inr rfl))
    (pss_cons (ps_par (i := 5) (j := 6) (by rfl) sc_law_played.nd rfl rfl (by decide) rfl rfl (pa_cons (pe_lst (pa_cons pe_int pa_nil)) (pa_cons (pe_op op_fdivW (pe_callB (r := SC.rLen K) SC.c_len (by rfl) T.n_len (by decide +kernel) (pa_cons (pv 2) pa_nil)) pe_int) pa_nil)) (by rfl))
    (pss_cons (ps_for PassesOwn.never rfl (pi_range2 rfl T.n_range (pa_cons pe_int (pa_cons (pe_op op_add (pv 6) pe_int) pa_nil))) (pg_name (i := 7) sc_law_played.nd rfl (by first | exact Or.inl rfl | exact Or.inr rfl))
    (pss_cons (ps_set (i := 8) sc_law_played.nd rfl (by first | exact Or.inl rfl | exact Or.inr rfl) (pe_callB (r := rSortedI K) cr_sortedI (by rfl) T.n_sorted (by decide +kernel) (pa_cons (pe_lst (pa_cons (pe_ix (r := rIxL K) ix_list (pv 2) (pv 7) (fun _ _ => rfl)) (pa_cons (pe_ix (r := rIxL K) ix_list (pv 2) (pe_op op_sub (pe_op op_add (pe_op op_mul pe_int (pv 6)) pe_int) (pv 7)) (fun _ _ => rfl)) pa_nil))) pa_nil)))
    (pss_one (ps_expr (pe_bm PySem.F.plainAttrs_list PySem.F.slot_list_append PySem.F.type_list_append mt_append (pv 5) (pa_cons (pe_ix (r := rIxL K) ix_list (pv 8) (pe_ix (r := rIxL K) ix_list (pv 1) (pe_op op_sub (pe_op op_add (pe_callB (r := SC.rLen K) SC.c_len (by rfl) T.n_len (by decide +kernel) (pa_cons (pv 3) pa_nil)) (pv 7)) pe_int) (fun _ _ => rfl)) (fun _ _ => rfl)) pa_nil))))))
    (pss_cons (ps_expr (pe_bm PySem.F.plainAttrs_list PySem.F.slot_list_extend PySem.F.type_list_extend mt_extend (pv 3) (pa_cons (pe_slice (r := rSlL K) sl_list (pv 5) (po_some pe_int) po_none) pa_nil)))
    (pss_one (ps_set (i := 2) sc_law_played.nd rfl (by first | exact Or.inl rfl | exact Or.inr rfl) (pv 5)))))))
    (pss_one (ps_ret (pv 3))))), ?_⟩
  have lim : 2 ^ s ≤ 2 ^ 6 := Nat.pow_le_pow_right (by decide) hs
  have P2 := p2_nat s
  walk_at "r"
  rename_i Hx ex
  refine w_rgD (by omega) (by omega) fun N0 H1 e1 f1 h1 => ?_
  rw [rg_seeds (s := s) (by omega)] at h1
  walk_at "r"
  rename_i F0 H2 e2 f2 h2
  have fR : H F0 = none := (ex.trans e1).fr _ f2
  refine w_rng1 (by omega) (by omega) (fun d σ H' => ∃ (pp : Addr) (y1 y2 y3 y4 y5 : Option V), σ = [some (.int s), some (.ref p), some (.ref pp), some (.ref F0), y1, y2, y3, y4, y5] ∧ Sm H H' ∧ H' F0 = some (.lst ((FD s B d).map V.int)) ∧ H' pp = some (.lst ((0 :: PL s B d).map V.int)) ∧ F0 ≠ pp) ⟨N0, _, _, _, _, _, rfl, (ex.trans e1).trans e2, h2, e2 _ _ h1, Ne.symm (ne_of_none h1 f2)⟩ ?_ ?_
  · rintro d σ' H4 hd ⟨pp, y1, y2, y3, y4, y5, rfl, e4, hR, hpp, npp⟩
    have hd : d < s := by omega
    have pl := PL_len (s := s) (B := B) (d := d) (by omega)
    have pm : 2 ^ (s - d) ≤ 2 ^ 6 := Nat.pow_le_pow_right (by decide) (by omega)
    have fs := FD_len (s := s) (B := B) (d := d) (by omega)
    have ph := pow_half (s := s) (d := d) (by omega)
    have p1 : 0 < 2 ^ (s - (d + 1)) := Nat.pow_pos (by decide)
    walk_at "r"
    rename_i L0 H5 e5 f5 h5
    have em : (((PL s B d).length + 1 : Nat) : Int) / 2 = (((PL s B d).length / 2 : Nat) : Int) := by omega
    rw [List.length_map, List.length_cons, em]
    refine w_rng2 (by decide) (by decide) (by omega) (by omega) (fun i σ H' => ∃ (y4 y7 y8 : Option V), σ = [some (.int s), some (.ref p), some (.ref pp), some (.ref F0), y4, some (.ref L0), some (.int (((PL s B d).length / 2 : Nat) : Int)), y7, y8] ∧ Sm H4 H' ∧ H' L0 = some (.lst ((0 :: (rnd (PL s B d) (B.drop (FD s B d).length)).take i).map V.int))) ⟨_, _, _, rfl, e5, h5⟩ ?_ ?_
    · rintro i σ' H6 hi ⟨y4, y7, y8, rfl, e6, h6⟩
      have hi : i < (PL s B d).length / 2 := by omega
      have hj : (FD s B d).length + i < B.length := by omega
      have hb : B[(FD s B d).length + i]? = some ((B.drop (FD s B d).length).getD i 0) := by rw [List.getD_eq_getElem?_getD, List.getElem?_drop, List.getElem?_eq_getElem hj]; rfl
      have ge : (rnd (PL s B d) (B.drop (FD s B d).length))[i]? = some (win ((B.drop (FD s B d).length).getD i 0) (prAt (PL s B d) i)) := by
        unfold rnd
        rw [List.getElem?_map, List.getElem?_range hi]
        rfl
      have bb := hB.1 _ (List.mem_of_getElem? hb)
      generalize (B.drop (FD s B d).length).getD i 0 = b at *
      have g1 : atI ((0 :: PL s B d).map V.int) (1 + (i : Int)) = some (.int ((PL s B d).getD i 0)) := by
        rw [show 1 + (i : Int) = ((i + 1 : Nat) : Int) by omega]
        exact atI_nat (by rw [List.map_cons, List.getElem?_cons_succ]; exact getI (by omega))
      have g2 : atI ((0 :: PL s B d).map V.int) (2 * (((PL s B d).length / 2 : Nat) : Int) + 1 - (1 + (i : Int))) = some (.int ((PL s B d).getD ((PL s B d).length - 1 - i) 0)) := by
        rw [show 2 * (((PL s B d).length / 2 : Nat) : Int) + 1 - (1 + (i : Int)) = (((PL s B d).length - 1 - i + 1 : Nat) : Int) by omega]
        exact atI_nat (by rw [List.map_cons, List.getElem?_cons_succ]; exact getI (by omega))
      walk_at "r"
      refine w_ixL (sq_of (e6 _ _ hpp)) g1 ?_
      walk_at "r"
      refine w_ixL (sq_of (e6 _ _ hpp)) g2 ?_
      walk_at "r"
      rename_i T7 H7 e7 f7 h7
      refine w_sorted (ns := [(PL s B d).getD i 0, (PL s B d).getD ((PL s B d).length - 1 - i) 0]) (sq_of h7) fun ms S8 H8 pe pw e8 f8 h8 => ?_
      rw [sorted_two pe pw] at h8
      have g3 : atI (B.map V.int) ((((FD s B d).map V.int).length : Int) + (1 + (i : Int)) - 1) = some (.int b) := by
        rw [show (((FD s B d).map V.int).length : Int) + (1 + (i : Int)) - 1 = (((FD s B d).length + i : Nat) : Int) by rw [List.length_map]; omega]
        exact atI_nat (by rw [List.getElem?_map, hb]; rfl)
      have e68 := e7.trans e8
      walk_at "r"
      refine w_ixL ((e4.trans (e6.trans e68)).seq hp) g3 ?_
      walk_at "r"
      have ln : ((0 :: (rnd (PL s B d) (B.drop (FD s B d).length)).take i).map V.int).length < 1000000 := by
        rw [List.length_map, List.length_cons, List.length_take, rnd_len]
        omega
      have fin : ∀ w, w = win b (prAt (PL s B d) i) → Sm H4 (L2.upd H8 L0 (.lst (((0 :: (rnd (PL s B d) (B.drop (FD s B d).length)).take i).map V.int) ++ [V.int w]))) ∧ L2.upd H8 L0 (.lst (((0 :: (rnd (PL s B d) (B.drop (FD s B d).length)).take i).map V.int) ++ [V.int w])) L0 = some (.lst ((0 :: (rnd (PL s B d) (B.drop (FD s B d).length)).take (i + 1)).map V.int)) := by
        rintro w rfl
        refine ⟨sm_upd (e6.trans e68) f5, ?_⟩
        rw [upd_same, List.take_add_one, ge, List.map_cons, List.map_cons, List.map_append]
        rfl
      rcases bb with rfl | rfl
      · refine w_ixL (v := .int (min (prAt (PL s B d) i).1 (prAt (PL s B d) i).2)) (sq_of h8) rfl ?_
        walk_at "r"
        refine w_append (e68 _ _ h6) ln ?_
        walk_at "r"
        exact ⟨_, _, _, rfl, fin _ rfl⟩
      · refine w_ixL (v := .int (max (prAt (PL s B d) i).1 (prAt (PL s B d) i).2)) (sq_of h8) rfl ?_
        walk_at "r"
        refine w_append (e68 _ _ h6) ln ?_
        walk_at "r"
        exact ⟨_, _, _, rfl, fin _ rfl⟩
    · rintro σ' H6 ⟨y4, y7, y8, rfl, e6, h6⟩
      rw [show ((((PL s B d).length / 2 : Nat) : Int) + 1 - 1).toNat = (PL s B d).length / 2 by omega, List.take_of_length_le (by rw [rnd_len]; exact Nat.le_refl _), ← PL_succ] at h6
      walk_at "r"
      refine w_sl (sq_of h6) fun T H7 e7 f7 h7 => ?_
      rw [List.map_cons, cut_tail] at h7
      walk_at "r"
      refine w_extend ((e6.trans e7) _ _ hR) h7 (by rw [List.length_map, List.length_map, PL_succ, rnd_len]; omega) ?_
      walk_at "r"
      have nW : F0 ≠ L0 := ne_of_none hR f5
      refine ⟨L0, _, _, _, _, _, rfl, sm_upd ((e4.trans e6).trans e7) fR, by rw [upd_same, FD_succ, List.map_append], by rw [upd_ne (Ne.symm nW)]; exact e7 _ _ h6, nW⟩
  · rintro σ' H4 ⟨pp, y1, y2, y3, y4, y5, rfl, e4, hR, hpp, npp⟩
    rw [show ((s : Int)).toNat = s by omega] at hR
    walk_at "r"
    exact q F0 H4 fR e4 hR
def SpLawIs (K : PySem.W.Frag) : Sp := fun vs H Q _ => ∃ (v : V) (s : Nat) (o : Option (List V)), vs = [.int s, v] ∧ Tg H v o ∧ (1 ≤ s ∧ s ≤ 6) ∧ ∀ H', Sm H H' → Q (.bl (resO s o)) H'
theorem w_lawis {K : PySem.W.Frag} {H : Hp} {Q : VK} {E : XK} {v : V} {s : Nat} {o : Option (List V)} (h : Tg H v o) (hs : 1 ≤ s ∧ s ≤ 6) (q : ∀ H', Sm H H' → Q (.bl (resO s o)) H') : SpLawIs K ([.int s, v] ++ []) H Q E := ⟨v, s, o, rfl, h, hs, q⟩
theorem ok_law_is_result (T : TX K mg base fa fd fc) : FnOk P w K mg base CX0 2 (fa 14) (fd 14) ["size", "thing"] (SpLawIs K) := by
  refine T.F_law_is_result.ok sc_law_is_result (fun vs H Q E h => ?_) (fun cdv A outer s H vs Q E hr h => ?_)
  · obtain ⟨t, s, o, rfl, hv, hs, q⟩ := h
    rfl
  obtain ⟨t, s, o, rfl, hv, hs, q⟩ := h
  refine ⟨_, (pss_cons (ps_par (i := 2) (j := 3) (by rfl) sc_law_is_result.nd rfl rfl (by decide) rfl rfl (pa_cons (pe_listRg rfl (by rfl) T.n_list (prg_1 (by rfl) T.n_range (pe_op op_add (pe_call (ok_law_power T) (hr.mono (by decide)) rfl T.g_law_power T.F_law_power.kp (bi_law_power T) .nil pass0 (pa_cons (pv 0) pa_nil)) pe_int))) (pa_cons pe_int pa_nil)) (by rfl))
    (pss_cons (ps_if (PW.pt (pw_or (pt_not (pt_val (pe_callB (r := rIsi K) call_isi (by rfl) T.n_isinstance (by decide +kernel) (pa_cons (pv 1) (pa_cons (pe_bltn (v := .ty "list") (by rfl) T.n_list (by decide +kernel) rfl) pa_nil))))) (pw_or1 (pt_cmpR op_ne (pe_callB (r := SC.rLen K) SC.c_len (by rfl) T.n_len (by decide +kernel) (pa_cons (pv 1) pa_nil)) (pe_op op_sub (pe_call (ok_law_power T) (hr.mono (by decide)) rfl T.g_law_power T.F_law_power.kp (bi_law_power T) .nil pass0 (pa_cons (pv 0) pa_nil)) pe_int) (nomark _)))))
    (pss_one (ps_ret pe_bl)) pss_nil)
    (pss_cons (ps_for PassesOwn.never rfl (pi_range1 rfl T.n_range (pa_cons (pv 0) pa_nil)) (pg_name (i := 4) sc_law_is_result.nd rfl (by first | exact Or.inl rfl | exact Or.inr rfl))
    (pss_cons (ps_par (i := 5) (j := 6) (by rfl) sc_law_is_result.nd rfl rfl (by decide) rfl rfl (pa_cons (pe_lst (pa_cons pe_int pa_nil)) (pa_cons (pe_op op_fdivW (pe_callB (r := SC.rLen K) SC.c_len (by rfl) T.n_len (by decide +kernel) (pa_cons (pv 2) pa_nil)) pe_int) pa_nil)) (by rfl))
    (pss_cons (ps_for PassesOwn.never rfl (pi_range2 rfl T.n_range (pa_cons pe_int (pa_cons (pe_op op_add (pv 6) pe_int) pa_nil))) (pg_name (i := 7) sc_law_is_result.nd rfl (by first | exact Or.inl rfl | exact Or.inr rfl))
    (pss_cons (ps_set (i := 8) sc_law_is_result.nd rfl (by first | exact Or.inl rfl | exact Or.inr rfl) (pe_ix (r := rIxL K) ix_list (pv 1) (pv 3) (fun _ _ => rfl)))
    (pss_cons (ps_if (PW.pt (pw_or (pt_not (pt_val (pe_callB (r := rIsi K) call_isi (by rfl) T.n_isinstance (by decide +kernel) (pa_cons (pv 8) (pa_cons (pe_bltn (v := .ty "int") (by rfl) T.n_int (by decide +kernel) rfl) pa_nil))))) (pw_or (pt_val (pe_callB (r := rIsi K) call_isi (by rfl) T.n_isinstance (by decide +kernel) (pa_cons (pv 8) (pa_cons (pe_bltn (v := .ty "bool") (by rfl) T.n_bool (by decide +kernel) rfl) pa_nil)))) (pw_or1 (pt_cmpR (r := rIn K true) op_notIn_seq (pv 8) (pe_lst (pa_cons (pe_ix (r := rIxL K) ix_list (pv 2) (pv 7) (fun _ _ => rfl)) (pa_cons (pe_ix (r := rIxL K) ix_list (pv 2) (pe_op op_sub (pe_op op_add (pe_op op_mul pe_int (pv 6)) pe_int) (pv 7)) (fun _ _ => rfl)) pa_nil))) (by rfl))))))
    (pss_one (ps_ret pe_bl)) pss_nil)
    (pss_cons (ps_expr (pe_bm PySem.F.plainAttrs_list PySem.F.slot_list_append PySem.F.type_list_append mt_append (pv 5) (pa_cons (pv 8) pa_nil)))
    (pss_one (ps_set (i := 3) sc_law_is_result.nd rfl (by first | exact Or.inl rfl | exact Or.inr rfl) (pe_op op_add (pv 3) pe_int)))))))
    (pss_one (ps_set (i := 2) sc_law_is_result.nd rfl (by first | exact Or.inl rfl | exact Or.inr rfl) (pv 5))))))
    (pss_one (ps_ret pe_bl))))), ?_⟩
  have lim : 2 ^ s ≤ 2 ^ 6 := Nat.pow_le_pow_right (by decide) hs.2
  have P2 := p2_nat s
  have pp0 := p2_pos (s : Int)
  walk_at "r"
  rename_i Hx ex
  refine w_rgD (by omega) (by omega) fun N0 H1 e1 f1 h1 => ?_
  rw [rg_seeds (s := s) (by omega)] at h1
  have e01 := ex.trans e1
  walk_at "r"
  refine w_isLst (hv.same e01) ?_
  cases hv with
  | oth kd n =>
    rw [show isLs none = false from rfl]
    walk_at "r"
    exact q _ e01
  | @lst p vs hp hk =>
    rw [show isLs (some vs) = true from rfl]
    walk_at "r"
    rename_i H2 e2
    have e02 := e01.trans e2
    refine w_ifd (fun c => ?_) fun c => ?_
    · walk_at "r"
      refine vq (q _ e02) ?_
      show V.bl (resL s vs) = _
      unfold resL
      rw [decide_eq_false (by omega), Bool.false_and]
    · have hl : vs.length + 1 = 2 ^ s := by omega
      have hl2 : (vs.map iv).length + 1 = 2 ^ s := by rw [List.length_map]; exact hl
      walk_at "r"
      refine w_rng1 (by omega) (by omega) (fun d σ H' => ∃ (pp : Addr) (y1 y2 y3 y4 y5 : Option V), σ = [some (.int s), some (.ref p), some (.ref pp), some (.int ((stp s d : Nat) : Int)), y1, y2, y3, y4, y5] ∧ Sm H H' ∧ H' pp = some (.lst ((0 :: PW s (vs.map iv) d).map V.int)) ∧ ∀ i v, i < stp s d → vs[i]? = some v → isI v = true ∧ hit s (vs.map iv) i = true) ⟨N0, _, _, _, _, _, by rw [stp_zero]; rfl, e02, e2 _ _ h1, fun i v hi _ => by rw [stp_zero] at hi; omega⟩ ?_ ?_
      · rintro d σ' H4 hd ⟨pp, y1, y2, y3, y4, y5, rfl, e4, hpp, ok⟩
        have hd : d < s := by omega
        have pl := PW_len hl2 (d := d) (by omega)
        have pl1 := PW_len hl2 (d := d + 1) (by omega)
        have pm : 2 ^ (s - d) ≤ 2 ^ 6 := Nat.pow_le_pow_right (by decide) (by omega)
        have fs := stp_le (s := s) (d := d) (by omega)
        have ph := pow_half (s := s) (d := d) (by omega)
        have sc := stp_succ hd
        have p1 : 0 < 2 ^ (s - (d + 1)) := Nat.pow_pos (by decide)
        obtain ⟨M, hM⟩ : ∃ M, M = 2 ^ (s - (d + 1)) := ⟨_, rfl⟩
        rw [← hM] at p1 sc ph pl1
        walk_at "r"
        rename_i L0 H5 e5 f5 h5
        have em : ((((0 :: PW s (vs.map iv) d).map V.int).length : Nat) : Int) / 2 = (M : Int) := by rw [List.length_map, List.length_cons]; omega
        rw [em]
        refine w_rng2 (by decide) (by decide) (by omega) (by omega) (fun j σ H' => ∃ (y1 y4 y5 : Option V), σ = [some (.int s), some (.ref p), some (.ref pp), some (.int ((stp s d + j : Nat) : Int)), y1, some (.ref L0), some (.int (M : Int)), y4, y5] ∧ Sm H4 H' ∧ H' L0 = some (.lst ((0 :: (PW s (vs.map iv) (d + 1)).take j).map V.int)) ∧ ∀ i v, i < stp s d + j → vs[i]? = some v → isI v = true ∧ hit s (vs.map iv) i = true) ⟨_, _, _, rfl, e5, h5, ok⟩ ?_ ?_
        · rintro j σ' H6 hj ⟨y1, y4, y5, rfl, e6, h6, ok6⟩
          have hj : j < M := by omega
          have hat : stp s d + j < vs.length := by omega
          obtain ⟨v, hv⟩ : ∃ v, vs[stp s d + j]? = some v := ⟨_, List.getElem?_eq_getElem hat⟩
          have e46 := e4.trans e6
          have kv := (hk v (List.mem_of_getElem? hv)).same e46
          have g1 : atI ((0 :: PW s (vs.map iv) d).map V.int) (1 + (j : Int)) = some (.int ((PW s (vs.map iv) d).getD j 0)) := by
            rw [show 1 + (j : Int) = ((j + 1 : Nat) : Int) by omega]
            exact atI_nat (by rw [List.map_cons, List.getElem?_cons_succ]; exact getI (by omega))
          have g2 : atI ((0 :: PW s (vs.map iv) d).map V.int) (2 * (M : Int) + 1 - (1 + (j : Int))) = some (.int ((PW s (vs.map iv) d).getD ((PW s (vs.map iv) d).length - 1 - j) 0)) := by
            rw [show 2 * (M : Int) + 1 - (1 + (j : Int)) = (((PW s (vs.map iv) d).length - 1 - j + 1 : Nat) : Int) by omega]
            exact atI_nat (by rw [List.map_cons, List.getElem?_cons_succ]; exact getI (by omega))
          have hm : (MW s (vs.map iv) s).getD (stp s d + j) (0, 0) = prAt (PW s (vs.map iv) d) j := by
            rw [List.getD_eq_getElem?_getD, MW_at hl2 hd (by omega)]
            rfl
          walk_at "r"
          refine w_ixL (sq_of (e46 _ _ hp)) (atI_nat hv) ?_
          walk_at "r"
          refine w_isInt kv ?_
          by_cases hI : isI v = true
          · obtain ⟨x, rfl⟩ : ∃ x, v = .int x := by
              cases v with
              | int x => exact ⟨x, rfl⟩
              | _ => cases hI
            rw [show (isI (.int x) || isB (.int x)) = true from rfl]
            walk_at "r"
            refine w_ixL (sq_of (e6 _ _ hpp)) g1 ?_
            walk_at "r"
            refine w_ixL (sq_of (e6 _ _ hpp)) g2 ?_
            walk_at "r"
            rename_i T7 H7 e7 f7 h7
            refine w_ninI [(PW s (vs.map iv) d).getD j 0, (PW s (vs.map iv) d).getD ((PW s (vs.map iv) d).length - 1 - j) 0] (sq_of h7) ?_
            have hw : (vs.map iv).getD (stp s d + j) 0 = x := by
              rw [List.getD_eq_getElem?_getD, List.getElem?_map, hv]
              rfl
            have eh : hit s (vs.map iv) (stp s d + j) = decide (x ∈ [(PW s (vs.map iv) d).getD j 0, (PW s (vs.map iv) d).getD ((PW s (vs.map iv) d).length - 1 - j) 0]) := by
              unfold hit
              rw [hw, hm]
              apply decide_eq_decide.mpr
              simp [prAt]
            rw [← eh]
            refine ⟨_, rfl, w_ifn' (fun c2 => ?_) fun c2 => ?_⟩
            · walk_at "r"
              exact vq (q _ (e46.trans e7)) (by show V.bl (resL s vs) = _; rw [resL_miss hat c2])
            · walk_at "r"
              refine w_append (e7 _ _ h6) (by rw [List.length_map, List.length_cons, List.length_take]; omega) ?_
              walk_at "r"
              have gp : (PW s (vs.map iv) (d + 1))[j]? = some x := by rw [PW_at (by omega), List.getElem?_map, hv]; rfl
              refine ⟨_, _, _, by rw [show ((stp s d + (j + 1) : Nat) : Int) = ((stp s d + j : Nat) : Int) + 1 by omega]; rfl, sm_upd (e6.trans e7) f5, ?_, fun i v hi hvi => ?_⟩
              · rw [upd_same, List.take_add_one, gp, List.map_cons, List.map_cons, List.map_append]
                rfl
              · by_cases z : i < stp s d + j
                · exact ok6 i v z hvi
                · have : i = stp s d + j := by omega
                  subst this
                  rw [hv] at hvi
                  obtain rfl := Option.some.inj hvi
                  exact ⟨rfl, c2⟩
          · have hI : isI v = false := by simpa using hI
            have fin : resL s vs = false := resL_not hv hI
            by_cases hB : isB v = true
            · rw [hI, hB, show (false || true) = true from rfl]
              walk_at "r"
              refine w_isBool kv ?_
              rw [hB]
              walk_at "r"
              exact vq (q _ e46) (by show V.bl (resL s vs) = _; rw [fin])
            · have hB : isB v = false := by simpa using hB
              rw [hI, hB, show (false || false) = false from rfl]
              walk_at "r"
              exact vq (q _ e46) (by show V.bl (resL s vs) = _; rw [fin])
        · rintro σ' H6 ⟨y1, y4, y5, rfl, e6, h6, ok6⟩
          rw [show ((M : Int) + 1 - 1).toNat = M by omega] at h6 ok6 ⊢
          rw [List.take_of_length_le (by omega)] at h6
          walk_at "r"
          refine ⟨_, _, _, _, _, _, by rw [sc]; rfl, e4.trans e6, h6, fun i v hi => ok6 i v (by omega)⟩
      · rintro σ' H4 ⟨pp, y1, y2, y3, y4, y5, rfl, e4, hpp, ok⟩
        rw [show (s : Int).toNat = s by omega] at ok
        walk_at "r"
        have sf := stp_full (s := s)
        refine vq (q _ e4) ?_
        show V.bl (resL s vs) = _
        rw [resL_all hl fun i v h => ok i v (by have := (List.getElem?_eq_some_iff.mp h).1; omega) h]
/-- an element of a near result, after t changes -/
def El (a : Addr) (t : Nat) (H : Hp) (v : V) : Prop := ∃ d ∈ lv t, Dz [a] H v d
theorem El.sm {a : Addr} {t : Nat} {H H' : Hp} {v : V} (h : El a t H v) (s : Sm H H') : El a t H' v := by
  obtain ⟨d, m, z⟩ := h
  exact ⟨d, m, z.sm s⟩
theorem El.kp {a : Addr} {t : Nat} {H H' : Hp} {v : V} (h : El a t H v) (g : Kp a H H') : El a t H' v := by
  obtain ⟨d, m, z⟩ := h
  exact ⟨d, m, z.kp g (by simp)⟩
theorem El.up {a : Addr} {t u : Nat} {H : Hp} {v : V} (h : El a t H v) (l : t ≤ u) : El a u H v := by
  obtain ⟨d, m, z⟩ := h
  exact ⟨d, lv_up l m, z⟩
theorem el_int {a : Addr} {t : Nat} {H : Hp} {i : Int} (h : 0 ≤ i ∧ i ≤ 66) : El a t H (.int i) := ⟨_, lv_int h, .int i⟩
theorem el_true {a : Addr} {t : Nat} {H : Hp} : El a t H (.bl true) := ⟨.bool true, lv_up (Nat.zero_le _) (by unfold lv lv0; simp), .bl true⟩
theorem el_non {a : Addr} {t : Nat} {H : Hp} : El a t H .non := ⟨.none, lv_up (Nat.zero_le _) (by unfold lv lv0; simp), .non⟩
/-- rows of elements -/
def Els (a : Addr) (t : Nat) (H : Hp) (vs : List V) : Prop := ∀ v ∈ vs, El a t H v
theorem Els.data {a : Addr} {H : Hp} : ∀ {vs : List V}, Els a 2 H vs → ∃ ds, DzAll [a] H vs ds ∧ ds.length = vs.length ∧ ∀ d ∈ ds, OkD d
  | [], _ => ⟨[], .nil, rfl, fun d h => absurd h List.not_mem_nil⟩
  | v :: vs, h => by
    obtain ⟨d, m, z⟩ := h v (List.mem_cons_self ..)
    obtain ⟨ds, r, l, g⟩ := Els.data fun v hv => h v (List.mem_cons_of_mem _ hv)
    refine ⟨d :: ds, .cons z r, by simp [l], fun x hx => ?_⟩
    rcases List.mem_cons.mp hx with rfl | hx
    · exact lv_okd m
    · exact g x hx
theorem Els.kd {a : Addr} {t : Nat} {H : Hp} {vs : List V} (h : Els a t H vs) : ∀ v ∈ vs, Kd H v := fun v hv => by
  obtain ⟨d, m, z⟩ := h v hv
  exact z.kd
/-- a thing to be judged -/
def Thing (a : Addr) (H : Hp) (v : V) : Prop := ∃ o d, Tg H v o ∧ (Dz [a] H v d ∨ Dq [a] H v d ∧ d = .dict []) ∧ Shw d
theorem thing_list {a p : Addr} {H : Hp} {vs : List V} (h : H p = some (.lst vs)) (n : p ≠ a) (e : Els a 2 H vs) (hl : vs.length ≤ 100) : Thing a H (.ref p) := by
  obtain ⟨ds, r, l, g⟩ := e.data
  exact ⟨some vs, .list ds, .lst h e.kd, .inl (.lst h (by simpa using n) r), shw_list g (by omega)⟩
theorem thing_tuple {a p : Addr} {H : Hp} {vs : List V} (h : H p = some (.tup vs)) (n : p ≠ a) (e : Els a 2 H vs) (hl : vs.length ≤ 100) : Thing a H (.ref p) := by
  obtain ⟨ds, r, l, g⟩ := e.data
  exact ⟨none, .tuple ds, .oth (.tup h) (fun b xs e z => by cases e; rw [h] at z; cases z), .inl (.tup h (by simpa using n) r), shw_tuple g (by omega)⟩
theorem thing_listl {a p q : Addr} {H : Hp} {vs : List V} (hq : H q = some (.lst [.ref p])) (nq : q ≠ a) (h : H p = some (.lst vs)) (n : p ≠ a) (e : Els a 2 H vs) (hl : vs.length ≤ 100) : Thing a H (.ref q) := by
  obtain ⟨ds, r, l, g⟩ := e.data
  exact ⟨some [.ref p], .list [.list ds], .lst hq (fun x hx => by rw [List.mem_singleton.mp hx]; exact .lst h), .inl (.lst hq (by simpa using nq) (.cons (.lst h (by simpa using n) r) .nil)), shw_listl g (by omega)⟩
theorem thing_dict {a p : Addr} {H : Hp} (h : H p = some (.dK [])) (n : p ≠ a) : Thing a H (.ref p) :=
  ⟨none, .dict [], .oth (.dic h) (fun b xs e z => by cases e; rw [h] at z; cases z), .inr ⟨.dic h (by simpa using n), rfl⟩, shw_of rfl (by simp [PyData.depth, PyData.depthKv]) (by simp [PyData.weight, PyData.weightKv]) rfl fun i e => nomatch e⟩
theorem thing_non {a : Addr} {H : Hp} : Thing a H .non := ⟨none, .none, .oth .non (fun _ _ e => nomatch e), .inl .non, shw_of rfl (by simp [PyData.depth]) (by simp [PyData.weight]) rfl fun i e => nomatch e⟩
theorem thing_seven {a : Addr} {H : Hp} : Thing a H (.int 7) := ⟨none, .int 7, .oth (.int 7) (fun _ _ e => nomatch e), .inl (.int 7), (lv_okd (lv_int (by omega))).shw⟩
theorem thing_one {a : Addr} {H : Hp} : Thing a H (.str "1") := ⟨none, .str "1", .oth (.str "1") (fun _ _ e => nomatch e), .inl (.str "1"), (lv_okd (lv_mono (lv_str (n := 0) (d := .int 1) (lv_int (by omega))))).shw⟩
def SpNearR : Sp := fun vs H Q _ => ∃ (p : Addr) (s : Nat) (N : Int), vs = [.ref p, .int s] ∧ (1 ≤ s ∧ s ≤ 6) ∧ Src p N H ∧ N + 100 < LIM ∧ ∀ v H', Kp p H H' → Src p (N + 100) H' → Thing p H' v → Q v H'
theorem w_nearR {H : Hp} {Q : VK} {E : XK} {p : Addr} {s : Nat} {N : Int} (hs : 1 ≤ s ∧ s ≤ 6) (sp : Src p N H) (hN : N + 100 < LIM) (q : ∀ v H', Kp p H H' → Src p (N + 100) H' → Thing p H' v → Q v H') : SpNearR ([.ref p, .int s] ++ []) H Q E := ⟨p, s, N, rfl, hs, sp, hN, q⟩
theorem ok_law_near_result (T : TX K mg base fa fd fc) : FnG P w K mg base CX0 3 (fa 15) (fd 15) ["source", "size"] (SpNearR) := by
  refine okG T.F_law_near_result sc_law_near_result (fun vs H Q E h => ?_) (fun cdv A outer s H vs Q E hg hr h => ?_)
  · obtain ⟨p, s, N, rfl, hs, sp, hN, q⟩ := h
    rfl
  obtain ⟨p, s, N, rfl, hs, sp, hN, q⟩ := h
  refine ⟨_, (pss_cons (ps_set (i := 2) sc_law_near_result.nd rfl (by first | exact Or.inl rfl | exact Or.inr rfl) (pe_op op_sub (pe_call (ok_law_power T) (hr.mono (by decide)) rfl T.g_law_power T.F_law_power.kp (bi_law_power T) .nil pass0 (pa_cons (pv 1) pa_nil)) pe_int))
    (pss_cons (ps_set (i := 3) sc_law_near_result.nd rfl (by first | exact Or.inl rfl | exact Or.inr rfl) (pe_call (ok_law_played T) (hr.mono (by decide)) rfl T.g_law_played T.F_law_played.kp (bi_law_played T) .nil pass0 (pa_cons (pv 1) (pa_cons (pe_lc (own := [("match", 4)]) (by rfl) sc_law_near_result.nd (pi_range1 rfl T.n_range (pa_cons (pv 2) pa_nil)) (blkOk_by (own := [("match", 4)]) (N := nm_law_near_result) (sc := defScope s_law_near_result) (by decide +kernel)) (fun _ _ _ _ _ => (pg_name (i := 4) sc_law_near_result.nd rfl (by first | exact Or.inl rfl | exact Or.inr rfl))) (fun _ _ _ _ _ => pts_nil) (fun _ _ _ _ _ => (pe_call (ok_law_draw T) (hr.mono (by decide)) rfl T.g_law_draw T.F_law_draw.kp (bi_law_draw T) .nil pass0 (pa_cons (pv 0) (pa_cons pe_int pa_nil))))) pa_nil))))
    (pss_cons (ps_for PassesOwn.never rfl (pi_range1 rfl T.n_range (pa_cons (pe_call (ok_law_draw T) (hr.mono (by decide)) rfl T.g_law_draw T.F_law_draw.kp (bi_law_draw T) .nil pass0 (pa_cons (pv 0) (pa_cons pe_int pa_nil))) pa_nil)) (pg_name (i := 5) sc_law_near_result.nd rfl (by first | exact Or.inl rfl | exact Or.inr rfl))
    (pss_cons (ps_par (i := 6) (j := 7) (by rfl) sc_law_near_result.nd rfl rfl (by decide) rfl rfl (pa_cons (pe_call (ok_law_draw T) (hr.mono (by decide)) rfl T.g_law_draw T.F_law_draw.kp (bi_law_draw T) .nil pass0 (pa_cons (pv 0) (pa_cons (pv 2) pa_nil))) (pa_cons (pe_call (ok_law_draw T) (hr.mono (by decide)) rfl T.g_law_draw T.F_law_draw.kp (bi_law_draw T) .nil pass0 (pa_cons (pv 0) (pa_cons (pv 2) pa_nil))) pa_nil)) (by rfl))
    (pss_cons (ps_set (i := 8) sc_law_near_result.nd rfl (by first | exact Or.inl rfl | exact Or.inr rfl) (pe_lst (pa_cons (pe_op op_add pe_int (pe_call (ok_law_draw T) (hr.mono (by decide)) rfl T.g_law_draw T.F_law_draw.kp (bi_law_draw T) .nil pass0 (pa_cons (pv 0) (pa_cons (pe_op op_add (pv 2) pe_int) pa_nil)))) (pa_cons pe_int (pa_cons (pe_op op_add (pv 2) pe_int) (pa_cons pe_bl (pa_cons pe_non (pa_cons (pe_callTy (r := SC.rStrZ) (SC.call_strZ hg hr.units) (by rfl) T.n_str (by decide +kernel) (pa_cons (pe_ix (r := rIxL K) ix_list (pv 3) (pv 6) (fun _ _ => rfl)) pa_nil)) (pa_cons (pe_lst (pa_cons (pe_ix (r := rIxL K) ix_list (pv 3) (pv 6) (fun _ _ => rfl)) pa_nil)) (pa_cons (pe_ix (r := rIxL K) ix_list (pv 3) (pv 7) (fun _ _ => rfl)) pa_nil))))))))))
    (pss_one (ps_set (i := 3) sc_law_near_result.nd rfl (by first | exact Or.inl rfl | exact Or.inr rfl) (pe_op op_cat (pe_op op_cat (pe_slice (r := rSlL K) sl_list (pv 3) po_none (po_some (pv 6))) (pe_lst (pa_cons (pe_ix (r := rIxL K) ix_list (pv 8) (pe_call (ok_law_draw T) (hr.mono (by decide)) rfl T.g_law_draw T.F_law_draw.kp (bi_law_draw T) .nil pass0 (pa_cons (pv 0) (pa_cons pe_int pa_nil))) (fun _ _ => rfl)) pa_nil))) (pe_slice (r := rSlL K) sl_list (pv 3) (po_some (pe_op op_add (pv 6) pe_int)) po_none)))))))
    (pss_cons (ps_par (i := 9) (j := 6) (by rfl) sc_law_near_result.nd rfl rfl (by decide) rfl rfl (pa_cons (pe_call (ok_law_draw T) (hr.mono (by decide)) rfl T.g_law_draw T.F_law_draw.kp (bi_law_draw T) .nil pass0 (pa_cons (pv 0) (pa_cons pe_int pa_nil))) (pa_cons (pe_call (ok_law_draw T) (hr.mono (by decide)) rfl T.g_law_draw T.F_law_draw.kp (bi_law_draw T) .nil pass0 (pa_cons (pv 0) (pa_cons (pe_op op_add (pv 2) pe_int) pa_nil))) pa_nil)) (by rfl))
    (pss_cons (ps_set (i := 10) sc_law_near_result.nd rfl (by first | exact Or.inl rfl | exact Or.inr rfl) (pe_lst (pa_cons (pe_op op_cat (pe_slice (r := rSlL K) sl_list (pv 3) po_none (po_some (pv 6))) (pe_slice (r := rSlL K) sl_list (pv 3) (po_some (pe_op op_add (pv 6) pe_int)) po_none)) (pa_cons (pe_op op_cat (pe_op op_cat (pe_slice (r := rSlL K) sl_list (pv 3) po_none (po_some (pv 6))) (pe_lst (pa_cons pe_int pa_nil))) (pe_slice (r := rSlL K) sl_list (pv 3) (po_some (pv 6)) po_none)) (pa_cons (pe_revL (pv 3)) (pa_cons (pe_callTy (r := SC.rTupL K) (SC.c_tupL rfl) (by rfl) T.n_tuple (by decide +kernel) (pa_cons (pv 3) pa_nil)) (pa_cons pe_non (pa_cons pe_int (pa_cons pe_str (pa_cons pe_dnewK (pa_cons (pe_lst (pa_cons (pv 3) pa_nil)) (pa_cons (pe_lst pa_nil) pa_nil))))))))))))
    (pss_one (ps_ret (pe_ifExp (pt_cmpR op_eq (pe_call (ok_law_draw T) (hr.mono (by decide)) rfl T.g_law_draw T.F_law_draw.kp (bi_law_draw T) .nil pass0 (pa_cons (pv 0) (pa_cons pe_int pa_nil))) pe_int (nomark _)) (pe_ix (r := rIxL K) ix_list (pe_op op_cat (pv 10) (pe_lst (pa_cons (pv 3) (pa_cons (pv 3) pa_nil)))) (pv 9) (fun _ _ => rfl)) (pv 3))))))))), ?_⟩
  have lim : 2 ^ s ≤ 2 ^ 6 := Nat.pow_le_pow_right (by decide) hs.2
  have p1 : 2 ^ 1 ≤ 2 ^ s := Nat.pow_le_pow_right (by decide) hs.1
  have P2 := p2_nat s
  have b0 : LIM = 1000000000000 := rfl
  obtain ⟨m, hm⟩ : ∃ m : Nat, m + 1 = 2 ^ s := ⟨2 ^ s - 1, by omega⟩
  have em : p2 (s : Int) - 1 = (m : Int) := by omega
  walk_at "r"
  rename_i H3 e3
  rw [em]
  refine w_lcrI (fun t xs D H' => ∃ bs : List Int, xs = bs.map V.int ∧ Bits bs ∧ Kp p H H' ∧ Src p (N + (t : Int)) H') (by omega) (by omega) (fun _ => rfl) (fun D H' e hD hx => ⟨[], rfl, bits0, Kp.of_same (e3.trans e), by rw [show N + ((0 : Nat) : Int) = N by omega]; exact sp.same (e3.trans e)⟩) (fun t xs D H' ht hD hxl J hx R hR => ?_) fun xs D H4 hD hxl J hx => ?_
  · obtain ⟨bs, rfl, bB, g4, s4⟩ := J
    have nD : D ≠ p := (sp.same e3).ne hD
    walk_at "r"
    rename_i d H5 d0 d1 g5 s5
    refine hR _ _ (g5 _ _ nD hx) ⟨bs ++ [d], by rw [List.map_append]; rfl, bitsS bB (by omega), kp_updF (g4.trans g5) (e3.fr _ hD), ?_⟩
    obtain ⟨c0, c1, c2, h, z⟩ := s5
    refine ⟨c0, c1, c2, by rw [upd_ne (Ne.symm nD)]; exact h, ?_⟩
    rw [show N + ((t + 1 : Nat) : Int) = N + (t : Int) + 1 by omega]
    exact z
  obtain ⟨bs, rfl, bB, g4, s4⟩ := J
  rw [List.length_map] at hxl
  have nD : D ≠ p := (sp.same e3).ne hD
  walk_at "r"
  refine w_played (sq_of hx) hs.2 ⟨bB, by omega⟩ fun R H5 fR e5 h5 => ?_
  have g5 := g4.trans (Kp.of_same e5)
  have s5 := s4.same e5
  have nR : R ≠ p := s4.ne fR
  have ff := FD_full (s := s) (B := bs)
  have els : Els p 0 H5 ((FD s bs s).map V.int) := fun v hv => by
    obtain ⟨x, hx, rfl⟩ := List.mem_map.mp hv
    have := FD_mem x hx
    exact el_int (by omega)
  walk_at "r"
  rename_i n H6 n0 n1 g6 s6
  refine w_rng1 (by omega) (by omega) (fun t σ H' => ∃ (R : Addr) (vs : List V) (y4 y5 y6 y7 y8 y9 y10 : Option V), σ = [some (.ref p), some (.int s), some (.int m), some (.ref R), y4, y5, y6, y7, y8, y9, y10] ∧ Kp p H H' ∧ Src p (N + 65 + 4 * (t : Int)) H' ∧ H' R = some (.lst vs) ∧ R ≠ p ∧ vs.length = m ∧ Els p t H' vs) ⟨R, _, _, _, _, _, _, _, _, rfl, g5.trans g6, s6.mono (by omega), g6 _ _ nR h5, nR, by rw [List.length_map]; omega, fun v hv => (els v hv).kp g6⟩ ?_ ?_
  · rintro t σ' H7 ht ⟨R, vs, y4, y5, y6, y7, y8, y9, y10, rfl, g7, s7, h7, nR, vl, ev⟩
    have t2 : t + 1 ≤ 2 := by omega
    walk_at "r"
    rename_i at1 H8 a0 a1 g8 s8 to1 H9 b0 b1 g9 s9 c H10 c0 c1 g10 s10
    have g810 : Kp p H7 H10 := (g8.trans g9).trans g10
    have h10 := g810 _ _ nR h7
    have ev10 : Els p t H10 vs := fun v hv => (ev v hv).kp g810
    obtain ⟨va, hva, ea⟩ := pick (xs := vs) a0 (by omega)
    obtain ⟨vb, hvb, eb⟩ := pick (xs := vs) b0 (by omega)
    obtain ⟨A, rfl⟩ : ∃ A : Nat, at1 = (A : Int) := ⟨at1.toNat, by omega⟩
    refine w_ixL (sq_of h10) ea ?_
    walk_at "r"
    obtain ⟨da, ma, za⟩ := ev10 va hva
    refine w_strZ za (lv_okd (lv_up (by omega) ma)).shw ?_
    walk_at "r"
    refine w_ixL (sq_of h10) ea ?_
    walk_at "r"
    rename_i L1 H11 e11 f11 h11
    refine w_ixL (sq_of (e11 _ _ h10)) eb ?_
    walk_at "r"
    rename_i O H12 e12 f12 h12
    have e1012 := e11.trans e12
    refine w_sl (sq_of (e1012 _ _ h10)) fun A1 H13 e13 f13 h13 => ?_
    rw [cut_take (by omega)] at h13
    walk_at "r"
    rename_i r8 H14 q0 q1 g14 s14
    have s11 := s10.same e11
    have s12 := s11.same e12
    have nO : O ≠ p := s11.ne f12
    have nA1 : A1 ≠ p := s12.ne f13
    have nL1 : L1 ≠ p := s10.ne f11
    obtain ⟨x, hx, ex⟩ := pick (xs := [V.int (1 + c), .int 0, .int ((m : Int) + 2), .bl true, .non, .str (SC.strOfD da), .ref L1, vb]) q0 (by simpa using q1)
    refine w_ixL (sq_of (g14 _ _ nO (e13 _ _ h12))) ex ?_
    walk_at "r"
    rename_i B1 H15 e15 f15 h15
    refine w_cat (e15 _ _ (g14 _ _ nA1 h13)) h15 (by rw [List.length_take]; simp; omega) fun C1 H16 e16 f16 h16 => ?_
    walk_at "r"
    have g1014 : Kp p H10 H14 := (Kp.of_same (e1012.trans e13)).trans g14
    have g1016 : Kp p H10 H16 := g1014.trans (Kp.of_same (e15.trans e16))
    refine w_sl (sq_of (g1016 _ _ nR h10)) fun D1 H17 e17 f17 h17 => ?_
    rw [show (A : Int) + 1 = ((A + 1 : Nat) : Int) by omega, cutZ_drop] at h17
    refine w_cat (e17 _ _ h16) h17 (by rw [List.length_append, List.length_take, List.length_drop, List.length_singleton]; omega) fun E1 H18 e18 f18 h18 => ?_
    walk_at "r"
    have s16 : Src p _ H16 := (s14.same e15).same e16
    have s17 := s16.same e17
    have g1018 : Kp p H10 H18 := g1016.trans (Kp.of_same (e17.trans e18))
    have zx : El p (t + 1) H18 x := by
      have old : ∀ v ∈ vs, El p (t + 1) H18 v := fun v hv => ((ev10 v hv).kp g1018).up (by omega)
      simp only [List.mem_cons, List.not_mem_nil, or_false] at hx
      rcases hx with rfl | rfl | rfl | rfl | rfl | rfl | rfl | rfl
      · exact el_int (by omega)
      · exact el_int (by omega)
      · exact el_int (by omega)
      · exact el_true
      · exact el_non
      · exact ⟨_, lv_str ma, .str _⟩
      · have z : Dz [p] H11 (.ref L1) (.list [da]) := .lst h11 (by simpa using nL1) (.cons (za.sm e11) .nil)
        exact ⟨_, lv_list ma, (((((z.sm (e12.trans e13)).kp g14 (by simp)).sm e15).sm e16).sm e17).sm e18⟩
      · exact old _ hvb
    refine ⟨E1, _, _, _, _, _, _, _, _, rfl, (g7.trans g810).trans g1018, ((s17.same e18).mono (by omega)), h18, s17.ne f18, ?_, ?_⟩
    · rw [List.length_append, List.length_append, List.length_take, List.length_drop, List.length_singleton]
      omega
    · intro v hv
      rcases List.mem_append.mp hv with hv | hv
      · rcases List.mem_append.mp hv with hv | hv
        · exact ((ev10 v (List.mem_of_mem_take hv)).kp g1018).up (by omega)
        · rw [List.mem_singleton.mp hv]
          exact zx
      · exact ((ev10 v (List.mem_of_mem_drop hv)).kp g1018).up (by omega)
  · rintro σ' H7 ⟨R, vs, y4, y5, y6, y7, y8, y9, y10, rfl, g7, s7, h7, nR, vl, ev⟩
    have nt : n.toNat ≤ 2 := by omega
    walk_at "r"
    rename_i wy H8 a0 a1 g8 s8 at1 H9 b0 b1 g9 s9
    have g89 : Kp p H7 H9 := g8.trans g9
    have h9 := g89 _ _ nR h7
    have ev9 : Els p 2 H9 vs := fun v hv => ((ev v hv).kp g89).up nt
    obtain ⟨A, rfl⟩ : ∃ A : Nat, at1 = (A : Int) := ⟨at1.toNat, by omega⟩
    refine w_sl (sq_of h9) fun A1 H10 e10 f10 h10 => ?_
    rw [cut_take (by omega)] at h10
    walk_at "r"
    refine w_sl (sq_of (e10 _ _ h9)) fun D1 H11 e11 f11 h11 => ?_
    rw [show (A : Int) + 1 = ((A + 1 : Nat) : Int) by omega, cutZ_drop] at h11
    refine w_cat (e11 _ _ h10) h11 (by rw [List.length_take, List.length_drop]; omega) fun F1 H12 e12 f12 h12 => ?_
    walk_at "r"
    have e912 := (e10.trans e11).trans e12
    refine w_sl (sq_of (e912 _ _ h9)) fun A2 H13 e13 f13 h13 => ?_
    rw [cut_take (by omega)] at h13
    walk_at "r"
    rename_i B2 H14 e14 f14 h14
    refine w_cat (e14 _ _ h13) h14 (by rw [List.length_take]; simp; omega) fun C2 H15 e15 f15 h15 => ?_
    walk_at "r"
    have e915 := ((e912.trans e13).trans e14).trans e15
    refine w_sl (sq_of (e915 _ _ h9)) fun D2 H16 e16 f16 h16 => ?_
    rw [cutZ_drop] at h16
    refine w_cat (e16 _ _ h15) h16 (by rw [List.length_append, List.length_take, List.length_drop, List.length_singleton]; omega) fun F2 H17 e17 f17 h17 => ?_
    walk_at "r"
    refine w_revZ ?_
    walk_at "r"
    have e917 := (e915.trans e16).trans e17
    refine w_revY (sq_of (e917 _ _ h9)) fun F3 H18 e18 f18 h18 => ?_
    walk_at "r"
    have e918 := e917.trans e18
    refine w_tupZ (sq_of (e918 _ _ h9)) fun F4 H19 e19 f19 h19 => ?_
    walk_at "r"
    have e919 := e918.trans e19
    refine w_dnew fun F5 H20 e20 f20 h20 => ?_
    walk_at "r"
    rename_i F6 H21 e21 f21 h21 F7 H22 e22 f22 h22 O H23 e23 f23 h23 z H24 z0 z1 g24 s24
    have e920 := e919.trans e20
    have e921 := e920.trans e21
    have e922 := e921.trans e22
    have e923 := e922.trans e23
    have g924 : Kp p H9 H24 := (Kp.of_same e923).trans g24
    have r24 := g924 _ _ nR h9
    have ev24 : Els p 2 H24 vs := fun v hv => (ev9 v hv).kp g924
    have k24 : Kp p H H24 := (g7.trans g89).trans g924
    refine w_ifd (fun c => ?_) fun c => ?_
    · walk_at "r"
      rename_i T H25 e25 f25 h25
      have nO : O ≠ p := (s9.same e922).ne f23
      refine w_cat (e25 _ _ (g24 _ _ nO h23)) h25 (by simp) fun U H26 e26 f26 h26 => ?_
      walk_at "r"
      obtain ⟨x, hx, ex⟩ := pick (xs := [V.ref F1, V.ref F2, V.ref F3, V.ref F4, V.non, V.int 7, V.str (Str.ofString "1"), V.ref F5, V.ref F6, V.ref F7] ++ [V.ref R, V.ref R]) a0 (by simpa using a1)
      refine w_ixL (sq_of h26) ex ?_
      have g2326 : Kp p H23 H26 := g24.trans (Kp.of_same (e25.trans e26))
      have g2226 : Kp p H22 H26 := (Kp.of_same e23).trans g2326
      have g2126 : Kp p H21 H26 := (Kp.of_same e22).trans g2226
      have g2026 : Kp p H20 H26 := (Kp.of_same e21).trans g2126
      have g1926 : Kp p H19 H26 := (Kp.of_same e20).trans g2026
      have g1826 : Kp p H18 H26 := (Kp.of_same e19).trans g1926
      have g1726 : Kp p H17 H26 := (Kp.of_same e18).trans g1826
      have g1226 : Kp p H12 H26 := (Kp.of_same ((((e13.trans e14).trans e15).trans e16).trans e17)).trans g1726
      have g2426 : Kp p H24 H26 := Kp.of_same (e25.trans e26)
      have r26 := g2426 _ _ nR r24
      have ev26 : Els p 2 H26 vs := fun v hv => (ev24 v hv).kp g2426
      have one : El p 2 H26 (.int 1) := el_int (by omega)
      refine q x H26 (k24.trans g2426) ((s24.same (e25.trans e26)).mono (by omega)) ?_
      simp only [List.mem_append, List.mem_cons, List.not_mem_nil, or_false] at hx
      rcases hx with (rfl | rfl | rfl | rfl | rfl | rfl | rfl | rfl | rfl | rfl) | rfl | rfl
      · have n1 : F1 ≠ p := ((s9.same e10).same e11).ne f12
        refine thing_list (g1226 _ _ n1 h12) n1 (fun v hv => ?_) (by rw [List.length_append, List.length_take, List.length_drop]; omega)
        rcases List.mem_append.mp hv with hv | hv
        · exact ev26 v (List.mem_of_mem_take hv)
        · exact ev26 v (List.mem_of_mem_drop hv)
      · have n1 : F2 ≠ p := ((s9.same e915).same e16).ne f17
        refine thing_list (g1726 _ _ n1 h17) n1 (fun v hv => ?_) (by rw [List.length_append, List.length_append, List.length_take, List.length_drop, List.length_singleton]; omega)
        rcases List.mem_append.mp hv with hv | hv
        · rcases List.mem_append.mp hv with hv | hv
          · exact ev26 v (List.mem_of_mem_take hv)
          · rw [List.mem_singleton.mp hv]; exact one
        · exact ev26 v (List.mem_of_mem_drop hv)
      · have n1 : F3 ≠ p := (s9.same e917).ne f18
        exact thing_list (g1826 _ _ n1 h18) n1 (fun v hv => ev26 v (List.mem_reverse.mp hv)) (by rw [List.length_reverse]; omega)
      · have n1 : F4 ≠ p := (s9.same e918).ne f19
        exact thing_tuple (g1926 _ _ n1 h19) n1 ev26 (by omega)
      · exact thing_non
      · exact thing_seven
      · exact thing_one
      · have n1 : F5 ≠ p := (s9.same e919).ne f20
        exact thing_dict (g2026 _ _ n1 h20) n1
      · have n1 : F6 ≠ p := (s9.same e920).ne f21
        exact thing_listl (g2126 _ _ n1 h21) n1 r26 nR ev26 (by omega)
      · have n1 : F7 ≠ p := (s9.same e921).ne f22
        exact thing_list (g2226 _ _ n1 h22) n1 (fun v hv => absurd hv List.not_mem_nil) (by simp)
      · exact thing_list r26 nR ev26 (by omega)
      · exact thing_list r26 nR ev26 (by omega)
    · walk_at "r"
      exact q _ _ k24 (s24.mono (by omega)) (thing_list r24 nR ev24 (by omega))
theorem ok_law (T : TX K mg base fa fd fc) : FnG P w K mg base CX0 9 (fa 16) (fd 16) ["script"] (SC.spLawT (TL fc) K) := by
  refine okG T.F_law sc_law (fun vs H Q E h => ?_) (fun cdv A outer s H vs Q E hg hr h => ?_)
  · obtain ⟨a, ns, rfl, hS, hl, ht, q⟩ := h
    rfl
  obtain ⟨a, ns, rfl, hS, hl, ht, q⟩ := h
  refine ⟨_, (pss_cons (ps_for PassesOwn.never rfl (pi_range1 rfl T.n_range (pa_cons pe_int pa_nil)) (pg_name (i := 1) sc_law.nd rfl (by first | exact Or.inl rfl | exact Or.inr rfl))
    (pss_cons (ps_set (i := 2) sc_law.nd rfl (by first | exact Or.inl rfl | exact Or.inr rfl) (pe_lst (pa_cons (pe_op op_fdivW (pv 1) pe_int) (pa_cons (pe_op SC.op_modR (pe_op op_fdivW (pv 1) pe_int) pe_int) (pa_cons (pe_op SC.op_modR (pv 1) pe_int) pa_nil)))))
    (pss_one (ps_if (pt_cmpR op_ne (pe_callB (r := SC.rReprZ) (SC.call_reprZ hg hr.units) (by rfl) T.n_repr (by decide +kernel) (pa_cons (pe_call (ok_is_result T) (hr.mono (by decide)) rfl T.g_is_result T.F_is_result.kp (bi_is_result T) .nil pass0 (pa_cons pe_int (pa_cons (pv 2) pa_nil))) pa_nil)) (pe_callB (r := SC.rReprZ) (SC.call_reprZ hg hr.units) (by rfl) T.n_repr (by decide +kernel) (pa_cons (pe_call (ok_law_is_result T) (hr.mono (by decide)) rfl T.g_law_is_result T.F_law_is_result.kp (bi_law_is_result T) .nil pass0 (pa_cons pe_int (pa_cons (pv 2) pa_nil))) pa_nil)) (nomark _))
    (pss_one (ps_ret pe_bl)) pss_nil))))
    (pss_cons (ps_for PassesOwn.never rfl (pi_range1 rfl T.n_range (pa_cons (pe_callB (SC.c_max2 rfl) (by rfl) T.n_max (by decide +kernel) (pa_cons pe_int (pa_cons (pe_callB (SC.c_min2 rfl) (by rfl) T.n_min (by decide +kernel) (pa_cons pe_int (pa_cons (pe_callB (r := SC.rLen K) SC.c_len (by rfl) T.n_len (by decide +kernel) (pa_cons (pv 0) pa_nil)) pa_nil))) pa_nil))) pa_nil)) (pg_name (i := 3) sc_law.nd rfl (by first | exact Or.inl rfl | exact Or.inr rfl))
    (pss_cons (ps_set (i := 4) sc_law.nd rfl (by first | exact Or.inl rfl | exact Or.inr rfl) (pe_call (ok_law_source T) (hr.mono (by decide)) rfl T.g_law_source T.F_law_source.kp (bi_law_source T) .nil pass0 (pa_cons (pe_op op_add (pe_call (ok_law_cell T) (hr.mono (by decide)) rfl T.g_law_cell T.F_law_cell.kp (bi_law_cell T) .nil pass0 (pa_cons (pv 0) (pa_cons (pv 3) pa_nil))) pe_int) pa_nil)))
    (pss_one (ps_for PassesOwn.never rfl (pi_range1 rfl T.n_range (pa_cons pe_int pa_nil)) (pg_name (i := 5) sc_law.nd rfl (by first | exact Or.inl rfl | exact Or.inr rfl))
    (pss_cons (ps_set (i := 6) sc_law.nd rfl (by first | exact Or.inl rfl | exact Or.inr rfl) (pe_op op_add pe_int (pe_call (ok_law_draw T) (hr.mono (by decide)) rfl T.g_law_draw T.F_law_draw.kp (bi_law_draw T) .nil pass0 (pa_cons (pv 4) (pa_cons pe_int pa_nil)))))
    (pss_cons (ps_set (i := 7) sc_law.nd rfl (by first | exact Or.inl rfl | exact Or.inr rfl) (pe_callG (ok_law_near_result T) hg (hr.mono (by decide)) rfl T.g_law_near_result T.F_law_near_result.kp (bi_law_near_result T) pass0 (pa_cons (pv 4) (pa_cons (pv 6) pa_nil))))
    (pss_cons (ps_par (i := 8) (j := 9) (by rfl) sc_law.nd rfl rfl (by decide) rfl rfl (pa_cons (pe_callB (r := SC.rReprZ) (SC.call_reprZ hg hr.units) (by rfl) T.n_repr (by decide +kernel) (pa_cons (pv 7) pa_nil)) (pa_cons (pe_call (ok_law_is_result T) (hr.mono (by decide)) rfl T.g_law_is_result T.F_law_is_result.kp (bi_law_is_result T) .nil pass0 (pa_cons (pv 6) (pa_cons (pv 7) pa_nil))) pa_nil)) (by rfl))
    (pss_cons (ps_if (pt_cmpR op_ne (pe_callB (r := SC.rReprZ) (SC.call_reprZ hg hr.units) (by rfl) T.n_repr (by decide +kernel) (pa_cons (pe_lst (pa_cons (pe_call (ok_is_result T) (hr.mono (by decide)) rfl T.g_is_result T.F_is_result.kp (bi_is_result T) .nil pass0 (pa_cons (pv 6) (pa_cons (pv 7) pa_nil))) (pa_cons (SC.pe_callN0 (ok_is_result T) (hr.mono (by decide)) rfl T.g_is_result T.F_is_result.kp (kb_is_result_0_value_rounds T) pass0 (pk_cons (pv 7) (pk_cons (pv 6) pk_nil))) pa_nil))) pa_nil)) (pe_callB (r := SC.rReprZ) (SC.call_reprZ hg hr.units) (by rfl) T.n_repr (by decide +kernel) (pa_cons (pe_lst (pa_cons (pv 9) (pa_cons (pv 9) pa_nil))) pa_nil)) (nomark _))
    (pss_one (ps_ret pe_bl)) pss_nil)
    (pss_one (ps_if (pt_cmpR op_ne (pe_callB (r := SC.rReprZ) (SC.call_reprZ hg hr.units) (by rfl) T.n_repr (by decide +kernel) (pa_cons (pv 7) pa_nil)) (pv 8) (nomark _))
    (pss_one (ps_ret pe_bl)) pss_nil))))))))))
    (pss_one (ps_ret pe_bl)))), ?_⟩
  have b0 : LIM = 1000000000000 := rfl
  walk_at "r"
  refine w_rng1 (by omega) (by omega) (fun i σ H' => ∃ y1 y2 y3 y4 y5 y6 y7 y8 y9 : Option V, σ = [some (.ref a), y1, y2, y3, y4, y5, y6, y7, y8, y9] ∧ Sm H H') ⟨_, _, _, _, _, _, _, _, _, rfl, .refl _⟩ ?_ ?_
  · rintro i σ' H2 hi ⟨y1, y2, y3, y4, y5, y6, y7, y8, y9, rfl, e2⟩
    walk_at "r"
    rename_i T H3 e3 f3 h3
    have tg : ∃ xs, Tg H3 (.ref T) (some xs) := ⟨_, .lst h3 fun x hx => by
      simp only [List.mem_cons, List.not_mem_nil, or_false] at hx
      rcases hx with rfl | rfl | rfl <;> exact .int _⟩
    obtain ⟨xs, tg⟩ := tg
    refine ⟨.ref T, 2, some xs, rfl, tg, by omega, ht.go (e2.trans e3), fun H4 e4 => ?_⟩
    have sb : ∀ b : Bool, Shw (.bool b) := fun b => shw_of rfl (by simp [PyData.depth]) (by simp [PyData.weight]) rfl fun i e => nomatch e
    walk_at "r"
    refine w_reprZ (av := []) (.inl (.bl _)) (sb _) ?_
    walk_at "r"
    refine ⟨.ref T, 2, some xs, rfl, tg.same e4, by omega, fun H5 e5 => ?_⟩
    walk_at "r"
    refine w_reprZ (av := []) (.inl (.bl _)) (sb _) ?_
    walk_at "r"
    refine w_neS ?_
    rw [decide_eq_false (fun z => z rfl)]
    walk_at "r"
    exact ⟨_, _, _, _, _, _, _, _, _, rfl, ((e2.trans e3).trans e4).trans e5⟩
  · rintro σ' H2 ⟨y1, y2, y3, y4, y5, y6, y7, y8, y9, rfl, e2⟩
    walk_at "r"
    rw [List.length_map]
    refine w_rng1 (by omega) (by omega) (fun i σ H' => ∃ y1 y2 y3 y4 y5 y6 y7 y8 y9 : Option V, σ = [some (.ref a), y1, y2, y3, y4, y5, y6, y7, y8, y9] ∧ Sm H H') ⟨_, _, _, _, _, _, _, _, _, rfl, e2⟩ ?_ ?_
    · rintro i σ' H2 hi ⟨y1, y2, y3, y4, y5, y6, y7, y8, y9, rfl, e2⟩
      walk_at "r"
      refine w_cell (e2.seq hS) (by omega) fun c H3 e3 => ?_
      walk_at "r"
      refine w_sourceC fun p H4 hp e4 s4 => ?_
      have hp0 := (e2.trans e3).free hp
      have e04 := (e2.trans e3).trans e4
      walk_at "r"
      refine w_rng1 (by decide) (by decide) (fun j σ H' => ∃ y5 y6 y7 y8 y9 : Option V, σ = [some (.ref a), y1, y2, some (.int i), some (.ref p), y5, y6, y7, y8, y9] ∧ Sm H H' ∧ Src p (200 * (j : Int)) H') ⟨_, _, _, _, _, rfl, e04, s4.mono (by omega)⟩ ?_ ?_
      · rintro j σ' H5 hj ⟨y5, y6, y7, y8, y9, rfl, e5, s5⟩
        walk_at "r"
        rename_i r H6 r0 r1 g6 s6
        obtain ⟨s, es⟩ : ∃ s : Nat, 1 + r = (s : Int) := ⟨(1 + r).toNat, by omega⟩
        rw [es]
        have hs : 1 ≤ s ∧ s ≤ 6 := by omega
        refine w_nearR hs s6 (by omega) fun v H7 g7 s7 th => ?_
        have e07 : Sm H H7 := same_kp (same_kp e5 hp0 g6) hp0 g7
        obtain ⟨o, d, tg, dz, sh⟩ := th
        walk_at "r"
        refine w_reprZ dz sh ?_
        walk_at "r"
        refine w_lawis tg hs fun H8 e8 => ?_
        walk_at "r"
        refine w_anyres (tg.same e8) hs (ht.go (e07.trans e8)) fun H9 e9 => ?_
        walk_at "r"
        refine ⟨rfl, rfl, v, s, o, rfl, tg.same (e8.trans e9), hs, ht.go ((e07.trans e8).trans e9), fun H10 e10 => ?_⟩
        walk_at "r"
        rename_i L1 H11 e11 f11 h11
        have sb : ∀ b : Bool, Shw (.list [.bool b, .bool b]) := fun b => shw_of rfl (by simp [PyData.depth, PyData.depthAll]) (by simp [PyData.weight, PyData.weightAll]) rfl fun i e => nomatch e
        refine w_reprZ (av := []) (.inl (.lst h11 (by simp) (.cons (.bl _) (.cons (.bl _) .nil)))) (sb _) ?_
        walk_at "r"
        rename_i L2 H12 e12 f12 h12
        refine w_reprZ (av := []) (.inl (.lst h12 (by simp) (.cons (.bl _) (.cons (.bl _) .nil)))) (sb _) ?_
        walk_at "r"
        refine w_neS ?_
        rw [decide_eq_false (fun z => z rfl)]
        walk_at "r"
        have e712 := (((e8.trans e9).trans e10).trans e11).trans e12
        have dz' : Dz [p] H12 v d ∨ Dq [p] H12 v d ∧ d = .dict [] := dz.elim (fun z => .inl (z.sm e712)) fun ⟨z, e⟩ => .inr ⟨z.sm e712, e⟩
        refine w_reprZ dz' sh ?_
        walk_at "r"
        refine w_neS ?_
        rw [decide_eq_false (fun z => z rfl)]
        walk_at "r"
        exact ⟨_, _, _, _, _, rfl, e07.trans e712, (s7.same e712).mono (by omega)⟩
      · rintro σ' H5 ⟨y5, y6, y7, y8, y9, rfl, e5, s5⟩
        walk_at "r"
        exact ⟨_, _, _, _, _, _, _, _, _, rfl, e5⟩
    · rintro σ' H2 ⟨y1, y2, y3, y4, y5, y6, y7, y8, y9, rfl, e2⟩
      walk_at "r"
      exact q _
end
theorem all_mk {l : PySem.W.OpenLaw} {w : World} {K : PySem.W.Frag} {h : Heap} {mg : Str → Option Value} {fl : Addr} (X : K.In h) (G : h.Ns mainGlobals mg) (hfl : mg "law" = some (.ref fl))
    {oc0 kV0 dc0 pm0 cd0 ct0 : Value} {od0 an0 : Option Addr} {sl0 : Array (Option Value)} {f0 : Addr}
    {oc1 kV1 dc1 pm1 cd1 ct1 : Value} {od1 an1 : Option Addr} {sl1 : Array (Option Value)} {f1 : Addr}
    {oc2 kV2 dc2 pm2 cd2 ct2 : Value} {od2 an2 : Option Addr} {sl2 : Array (Option Value)} {f2 : Addr}
    {oc3 kV3 dc3 pm3 cd3 ct3 : Value} {od3 an3 : Option Addr} {sl3 : Array (Option Value)} {f3 : Addr}
    {oc4 kV4 dc4 pm4 cd4 ct4 : Value} {od4 an4 : Option Addr} {sl4 : Array (Option Value)} {f4 : Addr}
    {oc5 kV5 dc5 pm5 cd5 ct5 : Value} {od5 an5 : Option Addr} {sl5 : Array (Option Value)} {f5 : Addr}
    {oc6 kV6 dc6 pm6 cd6 ct6 : Value} {od6 an6 : Option Addr} {sl6 : Array (Option Value)} {f6 : Addr}
    {oc7 kV7 dc7 pm7 cd7 ct7 : Value} {od7 an7 : Option Addr} {sl7 : Array (Option Value)} {f7 : Addr}
    {oc8 kV8 dc8 pm8 cd8 ct8 : Value} {od8 an8 : Option Addr} {sl8 : Array (Option Value)} {f8 : Addr}
    {oc9 kV9 dc9 pm9 cd9 ct9 : Value} {od9 an9 : Option Addr} {sl9 : Array (Option Value)} {f9 : Addr}
    {oc10 kV10 dc10 pm10 cd10 ct10 : Value} {od10 an10 : Option Addr} {sl10 : Array (Option Value)} {f10 : Addr}
    {oc11 kV11 dc11 pm11 cd11 ct11 : Value} {od11 an11 : Option Addr} {sl11 : Array (Option Value)} {f11 : Addr}
    {oc12 kV12 dc12 pm12 cd12 ct12 : Value} {od12 an12 : Option Addr} {sl12 : Array (Option Value)} {f12 : Addr}
    {oc13 kV13 dc13 pm13 cd13 ct13 : Value} {od13 an13 : Option Addr} {sl13 : Array (Option Value)} {f13 : Addr}
    {oc14 kV14 dc14 pm14 cd14 ct14 : Value} {od14 an14 : Option Addr} {sl14 : Array (Option Value)} {f14 : Addr}
    {oc15 kV15 dc15 pm15 cd15 ct15 : Value} {od15 an15 : Option Addr} {sl15 : Array (Option Value)} {f15 : Addr}
    {oc16 kV16 dc16 pm16 cd16 ct16 : Value} {od16 an16 : Option Addr} {sl16 : Array (Option Value)} {f16 : Addr}
    {tc0 : Tok}
    {tc1 : Tok}
    {tc_4 tp_4 : Addr}
    (a0 : PySem.W.nsIn K mainGlobals "is_integer" = some (some (.ref f0))) (l0 : K.lookup f0 = some ⟨oc0, od0, .func (PySem.W.fnOf "is_integer" "is_integer" (defArgs s_is_integer) (defBody s_is_integer) (defScope s_is_integer) .none kV0 dc0 pm0 an0 cd0 ct0), sl0⟩) (c0 : PySem.W.codeIn K cd0 "is_integer" = true) (k0 : PySem.W.keepIn K (.ref f0) = true)
    (a1 : PySem.W.nsIn K mainGlobals "is_integer_between" = some (some (.ref f1))) (l1 : K.lookup f1 = some ⟨oc1, od1, .func (PySem.W.fnOf "is_integer_between" "is_integer_between" (defArgs s_is_integer_between) (defBody s_is_integer_between) (defScope s_is_integer_between) .none kV1 dc1 pm1 an1 cd1 ct1), sl1⟩) (c1 : PySem.W.codeIn K cd1 "is_integer_between" = true) (k1 : PySem.W.keepIn K (.ref f1) = true)
    (a2 : PySem.W.nsIn K mainGlobals "check_rounds" = some (some (.ref f2))) (l2 : K.lookup f2 = some ⟨oc2, od2, .func (PySem.W.fnOf "check_rounds" "check_rounds" (defArgs s_check_rounds) (defBody s_check_rounds) (defScope s_check_rounds) .none kV2 dc2 pm2 an2 cd2 ct2), sl2⟩) (c2 : PySem.W.codeIn K cd2 "check_rounds" = true) (k2 : PySem.W.keepIn K (.ref f2) = true)
    (a3 : PySem.W.nsIn K mainGlobals "check_few_rounds" = some (some (.ref f3))) (l3 : K.lookup f3 = some ⟨oc3, od3, .func (PySem.W.fnOf "check_few_rounds" "check_few_rounds" (defArgs s_check_few_rounds) (defBody s_check_few_rounds) (defScope s_check_few_rounds) .none kV3 dc3 pm3 an3 cd3 ct3), sl3⟩) (c3 : PySem.W.codeIn K cd3 "check_few_rounds" = true) (k3 : PySem.W.keepIn K (.ref f3) = true)
    (a4 : PySem.W.nsIn K mainGlobals "is_result" = some (some (.ref f4))) (l4 : K.lookup f4 = some ⟨oc4, od4, .func (PySem.W.fnOf "is_result" "is_result" (defArgs s_is_result) (defBody s_is_result) (defScope s_is_result) .none kV4 dc4 pm4 an4 cd4 ct4), sl4⟩) (c4 : PySem.W.codeIn K cd4 "is_result" = true) (k4 : PySem.W.keepIn K (.ref f4) = true)
    (a5 : PySem.W.nsIn K mainGlobals "_all_seeds" = some (some (.ref f5))) (l5 : K.lookup f5 = some ⟨oc5, od5, .func (PySem.W.fnOf "_all_seeds" "_all_seeds" (defArgs s_all_seeds) (defBody s_all_seeds) (defScope s_all_seeds) .none kV5 dc5 pm5 an5 cd5 ct5), sl5⟩) (c5 : PySem.W.codeIn K cd5 "_all_seeds" = true) (k5 : PySem.W.keepIn K (.ref f5) = true)
    (a6 : PySem.W.nsIn K mainGlobals "_pairs_of" = some (some (.ref f6))) (l6 : K.lookup f6 = some ⟨oc6, od6, .func (PySem.W.fnOf "_pairs_of" "_pairs_of" (defArgs s_pairs_of) (defBody s_pairs_of) (defScope s_pairs_of) .none kV6 dc6 pm6 an6 cd6 ct6), sl6⟩) (c6 : PySem.W.codeIn K cd6 "_pairs_of" = true) (k6 : PySem.W.keepIn K (.ref f6) = true)
    (a7 : PySem.W.nsIn K mainGlobals "_rows_of" = some (some (.ref f7))) (l7 : K.lookup f7 = some ⟨oc7, od7, .func (PySem.W.fnOf "_rows_of" "_rows_of" (defArgs s_rows_of) (defBody s_rows_of) (defScope s_rows_of) .none kV7 dc7 pm7 an7 cd7 ct7), sl7⟩) (c7 : PySem.W.codeIn K cd7 "_rows_of" = true) (k7 : PySem.W.keepIn K (.ref f7) = true)
    (a8 : PySem.W.nsIn K mainGlobals "_matches_of" = some (some (.ref f8))) (l8 : K.lookup f8 = some ⟨oc8, od8, .func (PySem.W.fnOf "_matches_of" "_matches_of" (defArgs s_matches_of) (defBody s_matches_of) (defScope s_matches_of) .none kV8 dc8 pm8 an8 cd8 ct8), sl8⟩) (c8 : PySem.W.codeIn K cd8 "_matches_of" = true) (k8 : PySem.W.keepIn K (.ref f8) = true)
    (a9 : PySem.W.nsIn K mainGlobals "_law_cell" = some (some (.ref f9))) (l9 : K.lookup f9 = some ⟨oc9, od9, .func (PySem.W.fnOf "_law_cell" "_law_cell" (defArgs s_law_cell) (defBody s_law_cell) (defScope s_law_cell) .none kV9 dc9 pm9 an9 cd9 ct9), sl9⟩) (c9 : PySem.W.codeIn K cd9 "_law_cell" = true) (k9 : PySem.W.keepIn K (.ref f9) = true)
    (a10 : PySem.W.nsIn K mainGlobals "_law_source" = some (some (.ref f10))) (l10 : K.lookup f10 = some ⟨oc10, od10, .func (PySem.W.fnOf "_law_source" "_law_source" (defArgs s_law_source) (defBody s_law_source) (defScope s_law_source) .none kV10 dc10 pm10 an10 cd10 ct10), sl10⟩) (c10 : PySem.W.codeIn K cd10 "_law_source" = true) (k10 : PySem.W.keepIn K (.ref f10) = true)
    (a11 : PySem.W.nsIn K mainGlobals "_law_draw" = some (some (.ref f11))) (l11 : K.lookup f11 = some ⟨oc11, od11, .func (PySem.W.fnOf "_law_draw" "_law_draw" (defArgs s_law_draw) (defBody s_law_draw) (defScope s_law_draw) .none kV11 dc11 pm11 an11 cd11 ct11), sl11⟩) (c11 : PySem.W.codeIn K cd11 "_law_draw" = true) (k11 : PySem.W.keepIn K (.ref f11) = true)
    (a12 : PySem.W.nsIn K mainGlobals "_law_power" = some (some (.ref f12))) (l12 : K.lookup f12 = some ⟨oc12, od12, .func (PySem.W.fnOf "_law_power" "_law_power" (defArgs s_law_power) (defBody s_law_power) (defScope s_law_power) .none kV12 dc12 pm12 an12 cd12 ct12), sl12⟩) (c12 : PySem.W.codeIn K cd12 "_law_power" = true) (k12 : PySem.W.keepIn K (.ref f12) = true)
    (a13 : PySem.W.nsIn K mainGlobals "_law_played" = some (some (.ref f13))) (l13 : K.lookup f13 = some ⟨oc13, od13, .func (PySem.W.fnOf "_law_played" "_law_played" (defArgs s_law_played) (defBody s_law_played) (defScope s_law_played) .none kV13 dc13 pm13 an13 cd13 ct13), sl13⟩) (c13 : PySem.W.codeIn K cd13 "_law_played" = true) (k13 : PySem.W.keepIn K (.ref f13) = true)
    (a14 : PySem.W.nsIn K mainGlobals "_law_is_result" = some (some (.ref f14))) (l14 : K.lookup f14 = some ⟨oc14, od14, .func (PySem.W.fnOf "_law_is_result" "_law_is_result" (defArgs s_law_is_result) (defBody s_law_is_result) (defScope s_law_is_result) .none kV14 dc14 pm14 an14 cd14 ct14), sl14⟩) (c14 : PySem.W.codeIn K cd14 "_law_is_result" = true) (k14 : PySem.W.keepIn K (.ref f14) = true)
    (a15 : PySem.W.nsIn K mainGlobals "_law_near_result" = some (some (.ref f15))) (l15 : K.lookup f15 = some ⟨oc15, od15, .func (PySem.W.fnOf "_law_near_result" "_law_near_result" (defArgs s_law_near_result) (defBody s_law_near_result) (defScope s_law_near_result) .none kV15 dc15 pm15 an15 cd15 ct15), sl15⟩) (c15 : PySem.W.codeIn K cd15 "_law_near_result" = true) (k15 : PySem.W.keepIn K (.ref f15) = true)
    (a16 : PySem.W.nsIn K mainGlobals "law" = some (some (.ref f16))) (l16 : K.lookup f16 = some ⟨oc16, od16, .func (PySem.W.fnOf "law" "law" (defArgs s_law) (defBody s_law) (defScope s_law) .none kV16 dc16 pm16 an16 cd16 ct16), sl16⟩) (c16 : PySem.W.codeIn K cd16 "law" = true) (k16 : PySem.W.keepIn K (.ref f16) = true)
    (ac0 : PySem.W.nsIn K mainGlobals "MOST_ROUNDS" = some (some (.int 100 tc0)))
    (ac1 : PySem.W.nsIn K mainGlobals "MOST_ROUNDS_OF_A_RESULT" = some (some (.int 6 tc1)))
    (z0 : PySem.W.nsIn K mainGlobals "abs" = some none)
    (z1 : PySem.W.nsIn K mainGlobals "all" = some none)
    (z2 : PySem.W.nsIn K mainGlobals "bool" = some none)
    (z3 : PySem.W.nsIn K mainGlobals "int" = some none)
    (z4 : PySem.W.nsIn K mainGlobals "isinstance" = some none)
    (z5 : PySem.W.nsIn K mainGlobals "len" = some none)
    (z6 : PySem.W.nsIn K mainGlobals "list" = some none)
    (z7 : PySem.W.nsIn K mainGlobals "max" = some none)
    (z8 : PySem.W.nsIn K mainGlobals "min" = some none)
    (z9 : PySem.W.nsIn K mainGlobals "range" = some none)
    (z10 : PySem.W.nsIn K mainGlobals "repr" = some none)
    (z11 : PySem.W.nsIn K mainGlobals "sorted" = some none)
    (z12 : PySem.W.nsIn K mainGlobals "str" = some none)
    (z13 : PySem.W.nsIn K mainGlobals "tuple" = some none)
    (z14 : PySem.W.nsIn K mainGlobals "zip" = some none)
    (q4 : PySem.W.tabIn K "is_result" = some (tc_4, tp_4)) (r4 : K.lookup tp_4 = none)
    (TF : ∀ y ∈ (["is_result"] : List Str), ∀ c P, PySem.W.tabIn K y = some (c, P) → PySem.W.CodeHd h c P ∧ h.get? P = some { cls := .none, data := .fields #[] }) :
    SC.LawAtG l w K 9 63 "script" mg fl h := by
  have e := hfl.symm.trans (PySem.W.mg_of X G a16)
  cases e
  have T : ∀ base, (∀ p ∈ ([(tc_4, tp_4)] : List (Addr × Addr)), GxR.TabB base mg p.1 p.2) → TX K mg base (fun n => match n with | 0 => f0 | 1 => f1 | 2 => f2 | 3 => f3 | 4 => f4 | 5 => f5 | 6 => f6 | 7 => f7 | 8 => f8 | 9 => f9 | 10 => f10 | 11 => f11 | 12 => f12 | 13 => f13 | 14 => f14 | 15 => f15 | 16 => fl | _ => 0) (fun n => match n with | 0 => PySem.W.fnOf "is_integer" "is_integer" (defArgs s_is_integer) (defBody s_is_integer) (defScope s_is_integer) .none kV0 dc0 pm0 an0 cd0 ct0 | 1 => PySem.W.fnOf "is_integer_between" "is_integer_between" (defArgs s_is_integer_between) (defBody s_is_integer_between) (defScope s_is_integer_between) .none kV1 dc1 pm1 an1 cd1 ct1 | 2 => PySem.W.fnOf "check_rounds" "check_rounds" (defArgs s_check_rounds) (defBody s_check_rounds) (defScope s_check_rounds) .none kV2 dc2 pm2 an2 cd2 ct2 | 3 => PySem.W.fnOf "check_few_rounds" "check_few_rounds" (defArgs s_check_few_rounds) (defBody s_check_few_rounds) (defScope s_check_few_rounds) .none kV3 dc3 pm3 an3 cd3 ct3 | 4 => PySem.W.fnOf "is_result" "is_result" (defArgs s_is_result) (defBody s_is_result) (defScope s_is_result) .none kV4 dc4 pm4 an4 cd4 ct4 | 5 => PySem.W.fnOf "_all_seeds" "_all_seeds" (defArgs s_all_seeds) (defBody s_all_seeds) (defScope s_all_seeds) .none kV5 dc5 pm5 an5 cd5 ct5 | 6 => PySem.W.fnOf "_pairs_of" "_pairs_of" (defArgs s_pairs_of) (defBody s_pairs_of) (defScope s_pairs_of) .none kV6 dc6 pm6 an6 cd6 ct6 | 7 => PySem.W.fnOf "_rows_of" "_rows_of" (defArgs s_rows_of) (defBody s_rows_of) (defScope s_rows_of) .none kV7 dc7 pm7 an7 cd7 ct7 | 8 => PySem.W.fnOf "_matches_of" "_matches_of" (defArgs s_matches_of) (defBody s_matches_of) (defScope s_matches_of) .none kV8 dc8 pm8 an8 cd8 ct8 | 9 => PySem.W.fnOf "_law_cell" "_law_cell" (defArgs s_law_cell) (defBody s_law_cell) (defScope s_law_cell) .none kV9 dc9 pm9 an9 cd9 ct9 | 10 => PySem.W.fnOf "_law_source" "_law_source" (defArgs s_law_source) (defBody s_law_source) (defScope s_law_source) .none kV10 dc10 pm10 an10 cd10 ct10 | 11 => PySem.W.fnOf "_law_draw" "_law_draw" (defArgs s_law_draw) (defBody s_law_draw) (defScope s_law_draw) .none kV11 dc11 pm11 an11 cd11 ct11 | 12 => PySem.W.fnOf "_law_power" "_law_power" (defArgs s_law_power) (defBody s_law_power) (defScope s_law_power) .none kV12 dc12 pm12 an12 cd12 ct12 | 13 => PySem.W.fnOf "_law_played" "_law_played" (defArgs s_law_played) (defBody s_law_played) (defScope s_law_played) .none kV13 dc13 pm13 an13 cd13 ct13 | 14 => PySem.W.fnOf "_law_is_result" "_law_is_result" (defArgs s_law_is_result) (defBody s_law_is_result) (defScope s_law_is_result) .none kV14 dc14 pm14 an14 cd14 ct14 | 15 => PySem.W.fnOf "_law_near_result" "_law_near_result" (defArgs s_law_near_result) (defBody s_law_near_result) (defScope s_law_near_result) .none kV15 dc15 pm15 an15 cd15 ct15 | 16 => PySem.W.fnOf "law" "law" (defArgs s_law) (defBody s_law) (defScope s_law) .none kV16 dc16 pm16 an16 cd16 ct16 | _ => PySem.W.fnOf "law" "law" (defArgs s_law) (defBody s_law) (defScope s_law) .none kV16 dc16 pm16 an16 cd16 ct16) (fun n => match n with  | 1008 => tc_4 | 1009 => tp_4 | _ => 0) := fun base hT =>
    { F_is_integer := fun_mk (st := s_is_integer) l0 c0 k0,
      g_is_integer := PySem.W.mg_of X G a0,
      F_is_integer_between := fun_mk (st := s_is_integer_between) l1 c1 k1,
      g_is_integer_between := PySem.W.mg_of X G a1,
      F_check_rounds := fun_mk (st := s_check_rounds) l2 c2 k2,
      g_check_rounds := PySem.W.mg_of X G a2,
      F_check_few_rounds := fun_mk (st := s_check_few_rounds) l3 c3 k3,
      g_check_few_rounds := PySem.W.mg_of X G a3,
      F_is_result := fun_mk (st := s_is_result) l4 c4 k4,
      g_is_result := PySem.W.mg_of X G a4,
      F_all_seeds := fun_mk (st := s_all_seeds) l5 c5 k5,
      g_all_seeds := PySem.W.mg_of X G a5,
      F_pairs_of := fun_mk (st := s_pairs_of) l6 c6 k6,
      g_pairs_of := PySem.W.mg_of X G a6,
      F_rows_of := fun_mk (st := s_rows_of) l7 c7 k7,
      g_rows_of := PySem.W.mg_of X G a7,
      F_matches_of := fun_mk (st := s_matches_of) l8 c8 k8,
      g_matches_of := PySem.W.mg_of X G a8,
      F_law_cell := fun_mk (st := s_law_cell) l9 c9 k9,
      g_law_cell := PySem.W.mg_of X G a9,
      F_law_source := fun_mk (st := s_law_source) l10 c10 k10,
      g_law_source := PySem.W.mg_of X G a10,
      F_law_draw := fun_mk (st := s_law_draw) l11 c11 k11,
      g_law_draw := PySem.W.mg_of X G a11,
      F_law_power := fun_mk (st := s_law_power) l12 c12 k12,
      g_law_power := PySem.W.mg_of X G a12,
      F_law_played := fun_mk (st := s_law_played) l13 c13 k13,
      g_law_played := PySem.W.mg_of X G a13,
      F_law_is_result := fun_mk (st := s_law_is_result) l14 c14 k14,
      g_law_is_result := PySem.W.mg_of X G a14,
      F_law_near_result := fun_mk (st := s_law_near_result) l15 c15 k15,
      g_law_near_result := PySem.W.mg_of X G a15,
      F_law := fun_mk (st := s_law) l16 c16 k16,
      g_law := PySem.W.mg_of X G a16,
      t_MOST_ROUNDS := ⟨tc0, PySem.W.mg_of X G ac0⟩,
      t_MOST_ROUNDS_OF_A_RESULT := ⟨tc1, PySem.W.mg_of X G ac1⟩,
      n_abs := PySem.W.mg_none_of X G z0,
      n_all := PySem.W.mg_none_of X G z1,
      n_bool := PySem.W.mg_none_of X G z2,
      n_int := PySem.W.mg_none_of X G z3,
      n_isinstance := PySem.W.mg_none_of X G z4,
      n_len := PySem.W.mg_none_of X G z5,
      n_list := PySem.W.mg_none_of X G z6,
      n_max := PySem.W.mg_none_of X G z7,
      n_min := PySem.W.mg_none_of X G z8,
      n_range := PySem.W.mg_none_of X G z9,
      n_repr := PySem.W.mg_none_of X G z10,
      n_sorted := PySem.W.mg_none_of X G z11,
      n_str := PySem.W.mg_none_of X G z12,
      n_tuple := PySem.W.mg_none_of X G z13,
      n_zip := PySem.W.mg_none_of X G z14,
      b_is_result := hT (tc_4, tp_4) (by simp),
      k_is_result := SC.tab_cd a4 l4 q4 }
  refine ⟨PySem.W.fnOf "law" "law" (defArgs s_law) (defBody s_law) (defScope s_law) .none kV16 dc16 pm16 an16 cd16 ct16, [(tc_4, tp_4)], SC.spLawT (TL (fun n => match n with  | 1008 => tc_4 | 1009 => tp_4 | _ => 0)) K, fun p hp => ?_, fun p hp => ?_, fun p hp => ?_, fun s v => .of_eq rfl, fun H a ns hl _ hT hS => ⟨a, ns, rfl, hS, hl, SC.tb0 (L := [(tc_4, tp_4)]) hT, fun _ => rfl⟩, fun base _ _ hT => ok_law (T base fun p hp => ⟨(hT p hp).code, (hT p hp).bm, (hT p hp).gP⟩)⟩
  · simp only [List.mem_cons, List.not_mem_nil, or_false] at hp
    subst hp
    · exact (TF "is_result" (by simp) _ _ q4).2
  · simp only [List.mem_cons, List.not_mem_nil, or_false] at hp
    subst hp
    · exact r4
  · simp only [List.mem_cons, List.not_mem_nil, or_false] at hp
    subst hp
    · exact (TF "is_result" (by simp) _ _ q4).1
theorem walk {l : PySem.W.OpenLaw} {q : Program} {loose : List Str} {XP : (Str → Option Value) → Heap → Prop} {YP : World → Heap → Prop} {d : DefRec} {K : Params → PySem.W.Frag} (hn : l.most = some 63) (hdf : d.params.defaults = [])
    (hrec : ∀ y ∈ (["is_result"] : List Str), ((recsOf q).any fun e => e.name == y) = true) (hY : ∀ (w : World) (h : Heap), YP w h → (K w.params).In h)
    (F : ∀ (w : World) (mg : Str → Option Value) (fl : Addr) (h : Heap), (K w.params).In h → h.Ns mainGlobals mg → mg d.name = some (.ref fl) →
      (∀ y ∈ (["is_result"] : List Str), ∀ c P, PySem.W.tabIn (K w.params) y = some (c, P) → PySem.W.CodeHd h c P ∧ h.get? P = some { cls := .none, data := .fields #[] }) → SC.LawAtG l w (K w.params) 9 63 "script" mg fl h) :
    PySem.W.WalkO q loose XP YP l.row.toRowW d [] (fun f vs => PySem.call f vs) :=
  SC.walk_tabsG (n := 63) (k := 9) (x := "script") ["is_result"] hn (by decide) hdf ⟨rfl, by decide, by decide⟩ hrec hY F
end My
open PySem PySem.W PyProof.Rows in
set_option maxRecDepth 100000 in
set_option maxHeartbeats 0 in
theorem PySem.Challenge.cw_seedcup_k41_results_judged_holds : PySem.Challenge.rw_seedcup_k41_results_judged.Holds := by
  w_on; o_law; k_head; (case hw => w_witness2)
  k_fill
  refine My.walk (l := PySem.Challenge.rw_seedcup_k41_results_judged) rfl rfl ?R (fun w h Y => PySem.W.kIn_of Y) ?F
  case R => decide +kernel
  case F =>
    intro w mg fl h KX G hmg TF
    refine' My.all_mk KX G hmg ?a0 ?l0 ?c0 ?k0 ?a1 ?l1 ?c1 ?k1 ?a2 ?l2 ?c2 ?k2 ?a3 ?l3 ?c3 ?k3 ?a4 ?l4 ?c4 ?k4 ?a5 ?l5 ?c5 ?k5 ?a6 ?l6 ?c6 ?k6 ?a7 ?l7 ?c7 ?k7 ?a8 ?l8 ?c8 ?k8 ?a9 ?l9 ?c9 ?k9 ?a10 ?l10 ?c10 ?k10 ?a11 ?l11 ?c11 ?k11 ?a12 ?l12 ?c12 ?k12 ?a13 ?l13 ?c13 ?k13 ?a14 ?l14 ?c14 ?k14 ?a15 ?l15 ?c15 ?k15 ?a16 ?l16 ?c16 ?k16 ?ac0 ?ac1 ?z0 ?z1 ?z2 ?z3 ?z4 ?z5 ?z6 ?z7 ?z8 ?z9 ?z10 ?z11 ?z12 ?z13 ?z14 ?q4 ?r4 TF
    (case a0 => k_is)
    (case l0 => k_is)
    (case c0 => k_is)
    (case k0 => k_is)
    (case a1 => k_is)
    (case l1 => k_is)
    (case c1 => k_is)
    (case k1 => k_is)
    (case a2 => k_is)
    (case l2 => k_is)
    (case c2 => k_is)
    (case k2 => k_is)
    (case a3 => k_is)
    (case l3 => k_is)
    (case c3 => k_is)
    (case k3 => k_is)
    (case a4 => k_is)
    (case l4 => k_is)
    (case c4 => k_is)
    (case k4 => k_is)
    (case a5 => k_is)
    (case l5 => k_is)
    (case c5 => k_is)
    (case k5 => k_is)
    (case a6 => k_is)
    (case l6 => k_is)
    (case c6 => k_is)
    (case k6 => k_is)
    (case a7 => k_is)
    (case l7 => k_is)
    (case c7 => k_is)
    (case k7 => k_is)
    (case a8 => k_is)
    (case l8 => k_is)
    (case c8 => k_is)
    (case k8 => k_is)
    (case a9 => k_is)
    (case l9 => k_is)
    (case c9 => k_is)
    (case k9 => k_is)
    (case a10 => k_is)
    (case l10 => k_is)
    (case c10 => k_is)
    (case k10 => k_is)
    (case a11 => k_is)
    (case l11 => k_is)
    (case c11 => k_is)
    (case k11 => k_is)
    (case a12 => k_is)
    (case l12 => k_is)
    (case c12 => k_is)
    (case k12 => k_is)
    (case a13 => k_is)
    (case l13 => k_is)
    (case c13 => k_is)
    (case k13 => k_is)
    (case a14 => k_is)
    (case l14 => k_is)
    (case c14 => k_is)
    (case k14 => k_is)
    (case a15 => k_is)
    (case l15 => k_is)
    (case c15 => k_is)
    (case k15 => k_is)
    (case a16 => k_is)
    (case l16 => k_is)
    (case c16 => k_is)
    (case k16 => k_is)
    (case ac0 => k_is)
    (case ac1 => k_is)
    (case z0 => k_is)
    (case z1 => k_is)
    (case z2 => k_is)
    (case z3 => k_is)
    (case z4 => k_is)
    (case z5 => k_is)
    (case z6 => k_is)
    (case z7 => k_is)
    (case z8 => k_is)
    (case z9 => k_is)
    (case z10 => k_is)
    (case z11 => k_is)
    (case z12 => k_is)
    (case z13 => k_is)
    (case z14 => k_is)
    (case q4 => (apply SC.tabIn_of; (case e1 => k_is); (case e2 => k_is); (case e3 => rfl); (case e4 => k_is); (case e5 => rfl)))
    (case r4 => kernel_rfl)

