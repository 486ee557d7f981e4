import PyProof.Rows.All
import Wide.All
import OpenK.AllK
import Wide.FinOn
import HandS.ForMost
import HandS.Wide
import HandS.WideBits
import HandS.SortInts
import HandS.Star
import HandS.IsInst
import HandS.Style
import HandS.AnyAll
import HandS.Conv
import HandS.Defaults
import HandS.Text
import HandS.TryOnly
import HandS.WordsExc
import HandS.ExcOwn
import HandS.Steps
import HandS.GenList
import HandS.EndTab
import KE.LtSeq
import HandS.DictComp
import PyProof.DictFindH
import KE.GoesEnumKw
import HandS.HotCalls
import HandS.ExcIs
import HandS.TupLen
import HandS.SetFor
import HandS.Strs
import HandS.Walk
import KE.DataMinMax
import KE.SortData
import PySem.Challenge.RW_seedcup_k35_draws_by_all_lists
set_option Elab.async false
set_option linter.all false
set_option maxRecDepth 100000
set_option maxHeartbeats 4000000
/-! Steps of a reading, for this project's own proofs. -/
namespace SC
open PySem PySem.Spec PyProof.Rows L2

/-! ### what stays: all but the code objects' tables, which may grow -/
class NT (o : HO) : Prop where
  ne : ∀ ps, o ≠ .tbl ps
instance {xs : List V} : NT (.lst xs) := ⟨fun _ z => nomatch z⟩
instance {xs : List V} : NT (.tup xs) := ⟨fun _ z => nomatch z⟩
instance {xs : List (Key × V)} : NT (.dK xs) := ⟨fun _ z => nomatch z⟩
instance {xs : List (List Key × V)} : NT (.dT xs) := ⟨fun _ z => nomatch z⟩
instance {o : Obj} {u : HO} : NT (.frz o u) := ⟨fun _ z => nomatch z⟩
instance {C dx : Addr} {fs : List (Str × V)} : NT (.ins C dx fs) := ⟨fun _ z => nomatch z⟩
structure Sm (H H' : Hp) : Prop where
  un : ∀ b o [NT o], H b = some o → H' b = some o
  tb : ∀ b, GxR.TabG H b → GxR.TabG H' b
  fr : ∀ b, H' b = none → H b = none
instance {H H' : Hp} : CoeFun (Sm H H') fun _ => ∀ b o [NT o], H b = some o → H' b = some o := ⟨fun x => x.un⟩
theorem Sm.refl (H : Hp) : Sm H H := ⟨fun _ _ _ h => h, fun _ h => h, fun _ h => h⟩
theorem Sm.trans {H H1 H2 : Hp} (a : Sm H H1) (b : Sm H1 H2) : Sm H H2 := ⟨fun c o _ h => b c o (a c o h), fun c h => b.tb c (a.tb c h), fun c h => a.fr c (b.fr c h)⟩
theorem Sm.free {H H' : Hp} (e : Sm H H') {l : Addr} (h : H' l = Option.none) : H l = Option.none := e.fr l h
theorem Sm.seq {K : PySem.W.Frag} {H H' : Hp} {a : Addr} {xs : List V} (e : Sm H H') (h : SqL K H a xs) : SqL K H' a xs := by
  rcases h with (h | ⟨o, h⟩) | h
  · exact .inl (.inl (e _ _ h))
  · exact .inl (.inr ⟨o, e _ _ h⟩)
  · exact .inr h
theorem Sm.tabbed {P : Addr} {H H' : Hp} (h : GxR.TabG H P) (x : GxR.Tabbed P H H') : Sm H H' := by
  obtain ⟨x1, x2⟩ := x
  obtain ⟨ps, hp, hq⟩ := h
  refine ⟨fun b o n e => ?_, fun b q => ?_, fun b q => ?_⟩
  · rw [x2 b fun z => ?_]
    · exact e
    · rw [z, hp] at e
      cases e
      exact n.ne ps rfl
  · by_cases hb : b = P
    · rw [hb]; exact x1
    · obtain ⟨ps, hp, hq⟩ := q
      exact ⟨ps, by rw [x2 b hb]; exact hp, hq⟩
  · by_cases hb : b = P
    · obtain ⟨ps', hp', _⟩ := x1
      rw [hb, hp'] at q
      cases q
    · rw [x2 b hb] at q
      exact q

/-! ### operators of great ints -/
section
variable {X : Cx}
def CPowX (i j : Int) : Prop := 0 ≤ j ∧ (Builtin.Int.intBits i : Int) * j ≤ 2 ^ 27
theorem op_powX : OpR X (binaryOp .Pow) (rI CPowX fun i j => .int (i ^ j.toNat)) := opI fun _ _ _ _ _ _ _ hc q => pow_int hc.1 hc.2 q
end
def rMod : R2 := rI (fun _ j => 0 < j) fun i j => .int (i % j)
section
variable {X : Cx}
theorem op_modR : OpR X (binaryOp .Mod) rMod := op_mod
end
theorem bits_le {i : Int} {n : Nat} (h : i.natAbs < 2 ^ n) : Builtin.Int.intBits i ≤ n := by
  unfold Builtin.Int.intBits
  split
  · omega
  · rename_i hz
    have h1 : i.natAbs ≠ 0 := by simpa using hz
    have : i.natAbs.log2 < n := by
      rw [Nat.log2_lt h1]
      exact h
    omega

theorem n_abs {b : Int} {n : Nat} (h0 : 0 < b) (h : b < 2 ^ n) : b.natAbs < 2 ^ n := by
  have e : (b.natAbs : Int) < ((2 ^ n : Nat) : Int) := by
    rw [Int.natAbs_of_nonneg (by omega)]
    simpa using h
  exact_mod_cast e
theorem cpow_ok {x j : Int} (h0 : 0 ≤ x) (h : x < 2 ^ 400) (j0 : 0 ≤ j) (j1 : j ≤ 10) : CPowX x j := by
  refine ⟨j0, ?_⟩
  have e : (x.natAbs : Int) < ((2 ^ 400 : Nat) : Int) := by
    rw [Int.natAbs_of_nonneg h0]
    exact h
  have b := bits_le (i := x) (n := 400) (by exact_mod_cast e)
  have p : ((Builtin.Int.intBits x : Nat) : Int) * j ≤ 400 * 10 := Int.mul_le_mul (by omega) j1 j0 (by omega)
  omega
def NewL (xs : List V) (H : Hp) (Q : VK) : Prop := xs.length ≤ sizeLine ∧ ∀ p, H p = none → Q (.ref p) (upd H p (.lst xs))
def NewT (xs : List V) (H : Hp) (Q : VK) : Prop := xs.length ≤ sizeLine ∧ ∀ p, H p = none → Q (.ref p) (upd H p (.tup xs))
/-! ### readings, step by step -/
section
variable {σ : L2.St} {H H' : Hp} {Q : VK} {ta tb te : TE} {t u : TT} {r : R2} {v x y : V} {i j : Int} {D : Ends} {tr ts : TS} {trA : TA}
theorem w_var {i : Nat} (h : σ[i]? = some (some v)) (k : Q v H) : tVar i σ H Q := ⟨v, h, k⟩
theorem w_c (k : Q v H) : tC v σ H Q := k
theorem w_op (k : ta σ H fun x H1 => tb σ H1 fun y H2 => r x y H2 Q) : tOp r ta tb σ H Q := k
theorem w_i0 {g : Int → Int → V} (k : Q (g i j) H) : rI0 g (.int i) (.int j) H Q := ⟨i, j, rfl, rfl, k⟩
theorem w_i {C : Int → Int → Prop} {g : Int → Int → V} (c : C i j) (k : Q (g i j) H) : rI C g (.int i) (.int j) H Q := ⟨i, j, rfl, rfl, c, k⟩
theorem w_modG (c : 0 < j) (k : ∀ r, 0 ≤ r → r < j → Q (.int r) H) : rMod (.int i) (.int j) H Q := ⟨i, j, rfl, rfl, c, k _ (Int.emod_nonneg _ (by omega)) (Int.emod_lt_of_pos _ c)⟩
theorem w_modE (c : 0 < j) (k : Q (.int (i % j)) H) : rMod (.int i) (.int j) H Q := ⟨i, j, rfl, rfl, c, k⟩
theorem w_un {r : V → Hp → VK → Prop} (k : ta σ H fun x H1 => r x H1 Q) : tUn r ta σ H Q := k
theorem w_u {g : Int → V} (k : Q (g i) H) : rU g (.int i) H Q := ⟨i, rfl, k⟩
theorem w_eq (k : Q (.bl (decide (i = j))) H) : rEq (.int i) (.int j) H Q := ⟨rfl, by
  have e : decide (V.int i = V.int j) = decide (i = j) := by simp
  rw [e]; exact k⟩
theorem w_ne (k : Q (.bl (decide (i ≠ j))) H) : rNe (.int i) (.int j) H Q := ⟨rfl, by
  have e : (!decide (V.int i = V.int j)) = decide (i ≠ j) := by simp
  rw [e]; exact k⟩
theorem w_eqB {a b : Bool} (k : Q (.bl (decide (a = b))) H) : rEq (.bl a) (.bl b) H Q := ⟨rfl, by
  have e : decide (V.bl a = V.bl b) = decide (a = b) := by simp
  rw [e]; exact k⟩
theorem w_neB {a b : Bool} (k : Q (.bl (decide (a ≠ b))) H) : rNe (.bl a) (.bl b) H Q := ⟨rfl, by
  have e : (!decide (V.bl a = V.bl b)) = decide (a ≠ b) := by simp
  rw [e]; exact k⟩
theorem w_test {R : Bool → Hp → Prop} (k : te σ H fun x H' => ∃ b, x = .bl b ∧ R b H') : tTest te σ H R := k
theorem w_tB {R : Bool → Hp → Prop} (k : te σ H fun x H' => ∃ b, x = .bl b ∧ R b H') : tB te σ H R := k
theorem w_isb {b : Bool} {R : Bool → Prop} (k : R b) : ∃ c, V.bl b = .bl c ∧ R c := ⟨b, rfl, k⟩
theorem w_and {R : Bool → Hp → Prop} (k : t σ H fun c H1 => if c = true then u σ H1 R else R false H1) : tAnd t u σ H R := k
theorem w_or {R : Bool → Hp → Prop} (k : t σ H fun c H1 => if c = true then R true H1 else u σ H1 R) : tOr t u σ H R := k
theorem w_not {R : Bool → Hp → Prop} (k : t σ H fun c H1 => R (!c) H1) : tNot t σ H R := k
theorem w_andV (k : ta σ H fun x H1 => ∃ c, x = .bl c ∧ if c = true then tb σ H1 Q else Q (.bl false) H1) : tAndV ta tb σ H Q := k
theorem w_orV (k : ta σ H fun x H1 => ∃ c, x = .bl c ∧ if c = true then Q (.bl true) H1 else tb σ H1 Q) : tOrV ta tb σ H Q := k
theorem w_notV (k : ta σ H fun x H1 => ∃ c, x = .bl c ∧ Q (.bl (!c)) H1) : tNotV ta σ H Q := k
theorem w_bex {b : Bool} {A B : Bool → Prop} (k : if b = true then A b else B b) : ∃ c, V.bl b = .bl c ∧ if c = true then A c else B c := ⟨b, rfl, k⟩
theorem w_ife (k : t σ H fun c H1 => if c = true then ta σ H1 Q else tb σ H1 Q) : tIf t ta tb σ H Q := k
theorem w_chain {r' : R2} {tc : TE} (k : ta σ H fun x H1 => tb σ H1 fun y H2 => r x y H2 fun z H3 => ∃ k, z = .bl k ∧ (if k = true then tc σ H3 fun w' H4 => r' y w' H4 Q else Q (.bl false) H3)) : tChain r r' ta tb tc σ H Q := k
theorem w_nil {R : List V → Hp → Prop} (k : R [] H) : tNil σ H R := k
theorem w_cons {tr : TA} {R : List V → Hp → Prop} (k : ta σ H fun x H1 => tr σ H1 fun xs H2 => R (x :: xs) H2) : tCons ta tr σ H R := k
theorem w_cb {r : List V → Hp → VK → Prop} {tr : TA} (k : tr σ H fun vs H1 => r vs H1 Q) : tCB r tr σ H Q := k
theorem w_call {sp : Sp} {dvs : List V} {E : XK} {tr : TA} (k : tr σ H fun vs H1 => sp (vs ++ dvs) H1 Q E) : tCall sp dvs E tr σ H Q := k
/-- statements -/
theorem w_seq (k : tr { D with nx := ts D } σ H) : tSeq tr ts D σ H := k
theorem w_next (k : D.nx σ H) : tNext D σ H := k
theorem w_asg {g : TG} (k : te σ H fun x H1 => g x σ H1 D.nx) : tAsg te g D σ H := k
theorem w_gname {n : Nat} {R : L2.St → Hp → Prop} (k : R (σ.set n (some v)) H) : gName n v σ H R := k
theorem w_par {n m : Nat} (k : trA σ H fun vs H1 => ∃ v w, vs = [v, w] ∧ D.nx ((σ.set n (some v)).set m (some w)) H1) : tPar n m trA D σ H := k
theorem w_two {A : V → V → Prop} (k : A v x) : ∃ a b, [v, x] = [a, b] ∧ A a b := ⟨v, x, rfl, k⟩
theorem w_gtup {K : PySem.W.Frag} {a : Addr} {xs : List V} {n : Nat} {g : TGs} {R : L2.St → Hp → Prop} (h : SqT K H a xs) (hl : xs.length = n) (k : g xs σ H R) : gTup K n g (.ref a) σ H R := ⟨a, xs, rfl, h, hl, k⟩
theorem w_gcons {xs : List V} {g : TG} {gs : TGs} {R : L2.St → Hp → Prop} (k : g v σ H fun σ' H' => gs xs σ' H' R) : gCons g gs (v :: xs) σ H R := ⟨v, xs, rfl, k⟩
theorem w_gnil {R : L2.St → Hp → Prop} (k : R σ H) : gNil [] σ H R := ⟨rfl, k⟩
theorem w_gsub {to ti : TE} {st : TSet} {R : L2.St → Hp → Prop} (k : to σ H fun o H1 => ti σ H1 fun i H2 => st o i v H2 fun H3 => R σ H3) : gSub to ti st v σ H R := k
theorem w_setL {p : Addr} {xs : List V} {n : Nat} {R : Hp → Prop} (h : H p = some (.lst xs)) (hj : ixN xs.length i = some n) (k : R (upd H p (.lst (xs.set n v)))) : rSetL (.ref p) (.int i) v H R := ⟨p, xs, i, n, rfl, rfl, h, hj, k⟩
theorem w_tup (k : trA σ H fun xs H1 => NewT xs H1 Q) : tTup trA σ H Q := k
theorem w_lst' (k : trA σ H fun xs H1 => NewL xs H1 Q) : tLst trA σ H Q := k
theorem w_ret (k : te σ H D.rt) : tRet te D σ H := k
theorem w_drop (k : te σ H fun _ H1 => D.nx σ H1) : tDrop te D σ H := k
theorem w_ifS (k : t σ H fun b H1 => if b = true then tr D σ H1 else ts D σ H1) : tIfS t tr ts D σ H := k
theorem w_if {b : Bool} {A B : Prop} (h1 : b = true → A) (h2 : b = false → B) : if b = true then A else B := by
  cases b with
  | true => rw [if_pos rfl]; exact h1 rfl
  | false => rw [if_neg Bool.false_ne_true]; exact h2 rfl
theorem w_ifd {c A B : Prop} [Decidable c] (h1 : c → A) (h2 : ¬ c → B) : if decide c = true then A else B := by
  by_cases h : c
  · rw [if_pos (decide_eq_true h)]; exact h1 h
  · rw [if_neg (by rw [decide_eq_false h]; exact Bool.false_ne_true)]; exact h2 h
theorem w_ifn {c A B : Prop} [Decidable c] (h1 : ¬ c → A) (h2 : c → B) : if (!decide c) = true then A else B := by
  by_cases h : c
  · rw [decide_eq_true h]; exact iteF (h2 h)
  · rw [decide_eq_false h]; exact iteT (h1 h)
theorem iteF' {b : Bool} {A B : Prop} (e : b = false) (h : B) : if b = true then A else B := by
  subst e
  exact iteF h
theorem iteT' {b : Bool} {A B : Prop} (e : b = true) (h : A) : if b = true then A else B := by
  subst e
  exact iteT h
theorem w_yes {c A B : Prop} [Decidable c] (h : c) (k : A) : if decide c = true then A else B := w_ifd (fun _ => k) fun z => absurd h z
theorem w_no {c A B : Prop} [Decidable c] (h : ¬ c) (k : B) : if decide c = true then A else B := w_ifd (fun z => absurd z h) fun _ => k
theorem w_nyes {c A B : Prop} [Decidable c] (h : ¬ c) (k : A) : if (!decide c) = true then A else B := w_ifn (fun _ => k) fun z => absurd z h
theorem w_nno {c A B : Prop} [Decidable c] (h : c) (k : B) : if (!decide c) = true then A else B := w_ifn (fun z => absurd h z) fun _ => k
end

theorem vq {Q : VK} {v v' : V} {H : Hp} (h : Q v H) (e : v = v') : Q v' H := e ▸ h
/-! ### heaps: all but the source at a is kept -/
structure Kp (a : Addr) (H H' : Hp) : Prop where
  un : ∀ b o [NT o], b ≠ a → H b = some o → H' b = some o
  tb : ∀ b, b ≠ a → GxR.TabG H b → GxR.TabG H' b
  fr : ∀ b, b ≠ a → H' b = none → H b = none
instance {a : Addr} {H H' : Hp} : CoeFun (Kp a H H') fun _ => ∀ b o [NT o], b ≠ a → H b = some o → H' b = some o := ⟨fun x => x.un⟩
theorem Kp.refl (a : Addr) (H : Hp) : Kp a H H := ⟨fun _ _ _ _ h => h, fun _ _ h => h, fun _ _ h => h⟩
theorem Kp.trans {a : Addr} {H H1 H2 : Hp} (x : Kp a H H1) (y : Kp a H1 H2) : Kp a H H2 := ⟨fun b o _ n h => y b o n (x b o n h), fun b n h => y.tb b n (x.tb b n h), fun b n h => x.fr b n (y.fr b n h)⟩
theorem Kp.of_same {a : Addr} {H H' : Hp} (x : Sm H H') : Kp a H H' := ⟨fun b o _ _ h => x b o h, fun b _ h => x.tb b h, fun b _ h => x.fr b h⟩
theorem tabG_upd {H : Hp} {p b : Addr} {o : HO} (h : b ≠ p) (q : GxR.TabG H b) : GxR.TabG (upd H p o) b := by
  obtain ⟨ps, hp, hq⟩ := q
  exact ⟨ps, by rw [upd_ne h]; exact hp, hq⟩
theorem tabG_ne {H : Hp} {p b : Addr} (h : H p = none) (q : GxR.TabG H b) : b ≠ p := fun z => by
  obtain ⟨ps, hp, hq⟩ := q
  rw [z, h] at hp
  cases hp
theorem tabG_nt {H : Hp} {p b : Addr} {o : HO} [n : NT o] (h : H p = some o) (q : GxR.TabG H b) : b ≠ p := fun z => by
  obtain ⟨ps, hp, hq⟩ := q
  rw [z, h] at hp
  cases hp
  exact n.ne ps rfl
theorem fr_upd {H : Hp} {p b : Addr} {o : HO} (q : upd H p o b = none) : b ≠ p ∧ H b = none := by
  by_cases z : b = p
  · rw [z, upd_same] at q
    cases q
  · rw [upd_ne z] at q
    exact ⟨z, q⟩
theorem same_upd {H : Hp} {p : Addr} {o : HO} (h : H p = none) : Sm H (upd H p o) := ⟨fun b x _ e => by
  rw [upd_ne (ne_of_none e h)]
  exact e, fun b q => tabG_upd (tabG_ne h q) q, fun b q => (fr_upd q).2⟩
theorem sm_upd {H H1 : Hp} {p : Addr} {o : HO} (e : Sm H H1) (h : H p = none) : Sm H (upd H1 p o) := ⟨fun b x _ q => by
  rw [upd_ne (ne_of_none q h)]
  exact e _ _ q, fun b q => tabG_upd (tabG_ne h q) (e.tb b q), fun b q => e.fr b (fr_upd q).2⟩
/-- a list, a tuple that is not the source -/
structure Lst (a : Addr) (H : Hp) (p : Addr) (xs : List V) : Prop where
  ne : p ≠ a
  at_ : H p = some (.lst xs)
structure Tup (a : Addr) (H : Hp) (p : Addr) (xs : List V) : Prop where
  ne : p ≠ a
  at_ : H p = some (.tup xs)
theorem Lst.go {a : Addr} {H H' : Hp} {p : Addr} {xs : List V} (h : Lst a H p xs) (g : Kp a H H') : Lst a H' p xs := ⟨h.ne, g p _ h.ne h.at_⟩
theorem Tup.go {a : Addr} {H H' : Hp} {p : Addr} {xs : List V} (h : Tup a H p xs) (g : Kp a H H') : Tup a H' p xs := ⟨h.ne, g p _ h.ne h.at_⟩
theorem Lst.sq {K : PySem.W.Frag} {a : Addr} {H : Hp} {p : Addr} {xs : List V} (h : Lst a H p xs) : SqL K H p xs := .inl (.inl h.at_)
theorem Tup.sq {K : PySem.W.Frag} {a : Addr} {H : Hp} {p : Addr} {xs : List V} (h : Tup a H p xs) : SqT K H p xs := .inl (.inl h.at_)
/-- a source: three numbers in a list; N bounds how often it was drawn from anew -/
def LIM : Int := 1000000000000
@[irreducible] def BIG : Int := 2 ^ 2000
theorem big_abs {b : Int} (h0 : 0 < b) (h : b < BIG) : b.natAbs < 2 ^ 2000 := by
  unfold BIG at h
  exact n_abs h0 h
theorem div_big {i b : Int} (h0 : 0 < b) (h : b < BIG) : CDivW i (2 * b) := by
  have e := big_abs h0 h
  refine wide_div (b := 2001) (by omega) ?_ (by decide) (by decide)
  rw [Int.natAbs_mul, Nat.pow_succ, Nat.mul_comm]
  exact Nat.mul_lt_mul_of_pos_right e (by decide)
def Src (a : Addr) (N : Int) (H : Hp) : Prop := ∃ c0 c1 c2 : Int, H a = some (.lst [.int c0, .int c1, .int c2]) ∧ 0 ≤ c0 ∧ 0 ≤ c1 ∧ c1 < 2 ^ 200 ∧ 0 ≤ c2 ∧ c2 ≤ N
theorem Src.ne {a : Addr} {N : Int} {H : Hp} (s : Src a N H) {p : Addr} (hp : H p = none) : p ≠ a := fun e => by
  obtain ⟨c0, c1, c2, h, _⟩ := s
  rw [e, h] at hp
  cases hp
theorem Src.same {a : Addr} {N : Int} {H H' : Hp} (s : Src a N H) (g : Sm H H') : Src a N H' := by
  obtain ⟨c0, c1, c2, h, r⟩ := s
  exact ⟨c0, c1, c2, g _ _ h, r⟩
theorem Src.mono {a : Addr} {N M : Int} {H : Hp} (s : Src a N H) (h : N ≤ M) : Src a M H := by
  obtain ⟨c0, c1, c2, h0, h1, h2, h3, h4, h5⟩ := s
  exact ⟨c0, c1, c2, h0, h1, h2, h3, h4, by omega⟩
theorem same_kp {H H' H2 : Hp} {q : Addr} (e : Sm H H') (hq : H q = none) (g : Kp q H' H2) : Sm H H2 := ⟨fun b o _ h => g b o (ne_of_none h hq) (e b o h), fun b h => g.tb b (tabG_ne hq h) (e.tb b h), fun b h => by
  by_cases z : b = q
  · rw [z]; exact hq
  · exact e.fr b (g.fr b z h)⟩
def spLaw (K : PySem.W.Frag) : Sp := fun vs H Q _ => ∃ (a : Addr) (ns : List Int), vs = [.ref a] ∧ SqL K H a (ns.map V.int) ∧ ns.length ≤ 63 ∧ ∀ H', Q (.bl true) H'
theorem kp_free {a p : Addr} {H H' : Hp} (g : Kp a H H') (hp : H' p = none) (n : p ≠ a) : H p = none := g.fr p n hp
/-- all but two are kept -/
structure Kp2 (a p : Addr) (H H' : Hp) : Prop where
  un : ∀ b o [NT o], b ≠ a → b ≠ p → H b = some o → H' b = some o
  tb : ∀ b, b ≠ a → b ≠ p → GxR.TabG H b → GxR.TabG H' b
  fr : ∀ b, b ≠ a → b ≠ p → H' b = none → H b = none
instance {a p : Addr} {H H' : Hp} : CoeFun (Kp2 a p H H') fun _ => ∀ b o [NT o], b ≠ a → b ≠ p → H b = some o → H' b = some o := ⟨fun x => x.un⟩
theorem Kp2.refl (a p : Addr) (H : Hp) : Kp2 a p H H := ⟨fun _ _ _ _ _ h => h, fun _ _ _ h => h, fun _ _ _ h => h⟩
theorem Kp2.go {a p : Addr} {H H1 H2 : Hp} (x : Kp2 a p H H1) (g : Kp a H1 H2) : Kp2 a p H H2 := ⟨fun b o _ n m h => g b o n (x b o n m h), fun b n m h => g.tb b n (x.tb b n m h), fun b n m h => x.fr b n m (g.fr b n h)⟩
theorem Kp2.upd {a p : Addr} {H H1 : Hp} {o : HO} (x : Kp2 a p H H1) : Kp2 a p H (upd H1 p o) := ⟨fun b u _ n m h => by
  rw [upd_ne m]
  exact x b u n m h, fun b n m h => tabG_upd m (x.tb b n m h), fun b n m h => x.fr b n m (fr_upd h).2⟩
theorem Kp2.out {a p : Addr} {H0 H H1 : Hp} (x : Kp2 a p H H1) (g : Kp a H0 H) (hp : H0 p = none) : Kp a H0 H1 := ⟨fun b o _ n h => x b o n (ne_of_none h hp) (g b o n h), fun b n h => x.tb b n (tabG_ne hp h) (g.tb b n h), fun b n h => by
  by_cases z : b = p
  · rw [z]; exact hp
  · exact g.fr b n (x.fr b n z h)⟩
theorem Src.upd {a p : Addr} {N : Int} {H : Hp} {o : HO} (s : Src a N H) (h : p ≠ a) : Src a N (upd H p o) := by
  obtain ⟨c0, c1, c2, h0, r⟩ := s
  exact ⟨c0, c1, c2, by rw [upd_ne (Ne.symm h)]; exact h0, r⟩
/-! ### new objects -/
section
variable {H : Hp} {Q : VK} {xs : List V} {a : Addr} {N : Int}
theorem w_new (k : ∀ p H', Sm H H' → H p = none → H' p = some (.lst xs) → Q (.ref p) H') (hz : xs.length ≤ 1000000 := by first | decide | (simp only [List.length_cons, List.length_nil]; decide)) : NewL xs H Q :=
  ⟨Nat.le_trans hz (by decide), fun p hp => k p _ (same_upd hp) hp upd_same⟩
theorem w_newT (k : ∀ p H', Sm H H' → H p = none → H' p = some (.tup xs) → Q (.ref p) H') (hz : xs.length ≤ 1000000 := by first | decide | (simp only [List.length_cons, List.length_nil]; decide)) : NewT xs H Q :=
  ⟨Nat.le_trans hz (by decide), fun p hp => k p _ (same_upd hp) hp upd_same⟩
theorem w_newS (s : Src a N H) (k : ∀ p H', Kp a H H' → Src a N H' → Lst a H' p xs → Q (.ref p) H') (hz : xs.length ≤ 1000000 := by first | decide | (simp only [List.length_cons, List.length_nil]; decide)) : NewL xs H Q :=
  ⟨Nat.le_trans hz (by decide), fun p hp => k p _ (.of_same (same_upd hp)) (s.same (same_upd hp)) ⟨s.ne hp, upd_same⟩⟩
theorem w_newTS (s : Src a N H) (k : ∀ p H', Kp a H H' → Src a N H' → Tup a H' p xs → Q (.ref p) H') (hz : xs.length ≤ 1000000 := by first | decide | (simp only [List.length_cons, List.length_nil]; decide)) : NewT xs H Q :=
  ⟨Nat.le_trans hz (by decide), fun p hp => k p _ (.of_same (same_upd hp)) (s.same (same_upd hp)) ⟨s.ne hp, upd_same⟩⟩
end
theorem kp_upd {a : Addr} {H : Hp} {o : HO} : Kp a H (upd H a o) := ⟨fun b x _ n h => by rw [upd_ne n]; exact h, fun b n q => tabG_upd n q, fun b n q => (fr_upd q).2⟩
/-! ### promises of defs of ints -/
def Sp1 (pre : Int → Prop) (f : Int → V) : Sp := fun vs H Q _ => ∃ i, vs = [.int i] ∧ pre i ∧ ∀ H', Sm H H' → Q (f i) H'
def Sp2 (pre : Int → Int → Prop) (f : Int → Int → V) : Sp := fun vs H Q _ => ∃ i j, vs = [.int i, .int j] ∧ pre i j ∧ ∀ H', Sm H H' → Q (f i j) H'
def Sp3 (pre : Int → Int → Int → Prop) (f : Int → Int → Int → V) : Sp := fun vs H Q _ => ∃ i j k, vs = [.int i, .int j, .int k] ∧ pre i j k ∧ ∀ H', Sm H H' → Q (f i j k) H'
def Sp4 (pre : Int → Int → Int → Int → Prop) (f : Int → Int → Int → Int → V) : Sp := fun vs H Q _ => ∃ i j k l, vs = [.int i, .int j, .int k, .int l] ∧ pre i j k l ∧ ∀ H', Sm H H' → Q (f i j k l) H'
theorem Sp1.len {pre f vs H Q E} (h : Sp1 pre f vs H Q E) : vs.length = 1 := by obtain ⟨_, rfl, _⟩ := h; rfl
theorem Sp2.len {pre f vs H Q E} (h : Sp2 pre f vs H Q E) : vs.length = 2 := by obtain ⟨_, _, rfl, _⟩ := h; rfl
theorem Sp3.len {pre f vs H Q E} (h : Sp3 pre f vs H Q E) : vs.length = 3 := by obtain ⟨_, _, _, rfl, _⟩ := h; rfl
theorem Sp4.len {pre f vs H Q E} (h : Sp4 pre f vs H Q E) : vs.length = 4 := by obtain ⟨_, _, _, _, rfl, _⟩ := h; rfl
section
variable {H : Hp} {Q : VK} {E : XK} {i j k l : Int}
theorem w_sp1 {pre : Int → Prop} {f : Int → V} (p : pre i) (q : ∀ H', Sm H H' → Q (f i) H') : Sp1 pre f ([.int i] ++ []) H Q E := ⟨i, rfl, p, q⟩
theorem w_sp2 {pre : Int → Int → Prop} {f : Int → Int → V} (p : pre i j) (q : ∀ H', Sm H H' → Q (f i j) H') : Sp2 pre f ([.int i, .int j] ++ []) H Q E := ⟨i, j, rfl, p, q⟩
theorem w_sp3 {pre : Int → Int → Int → Prop} {f : Int → Int → Int → V} (p : pre i j k) (q : ∀ H', Sm H H' → Q (f i j k) H') : Sp3 pre f ([.int i, .int j, .int k] ++ []) H Q E := ⟨i, j, k, rfl, p, q⟩
theorem w_sp4 {pre : Int → Int → Int → Int → Prop} {f : Int → Int → Int → Int → V} (p : pre i j k l) (q : ∀ H', Sm H H' → Q (f i j k l) H') : Sp4 pre f ([.int i, .int j, .int k, .int l] ++ []) H Q E := ⟨i, j, k, l, rfl, p, q⟩
end
/-- a draw -/
def SpDraw : Sp := fun vs H Q _ => ∃ (a : Addr) (N b : Int), vs = [.ref a, .int b] ∧ Src a N H ∧ 0 < b ∧ b < BIG ∧ N < LIM ∧ ∀ r H', 0 ≤ r → r < b → Kp a H H' → Src a (N + 1) H' → Q (.int r) H'
theorem SpDraw.len {vs H Q E} (h : SpDraw vs H Q E) : vs.length = 2 := by obtain ⟨_, _, _, rfl, _⟩ := h; rfl
theorem w_draw {H : Hp} {Q : VK} {E : XK} {a : Addr} {N b : Int} (s : Src a N H) (hb : 0 < b) (hb2 : b < BIG) (hN : N < LIM) (k : ∀ r H', 0 ≤ r → r < b → Kp a H H' → Src a (N + 1) H' → Q (.int r) H') : SpDraw ([.ref a, .int b] ++ []) H Q E :=
  ⟨a, N, b, rfl, s, hb, hb2, hN, k⟩
/-- a source made -/
def SpSource (K : PySem.W.Frag) : Sp := fun vs H Q _ => ∃ (p : Addr) (ns : List Int) (k : Int), vs = [.ref p, .int k] ∧ SqL K H p (ns.map V.int) ∧ 0 ≤ k ∧ k < 1000 ∧ ∀ a H', H a = none → Sm H H' → Src a 0 H' → Q (.ref a) H'
theorem w_source {K : PySem.W.Frag} {H : Hp} {Q : VK} {E : XK} {p : Addr} {ns : List Int} {k : Int} (h : SqL K H p (ns.map V.int)) (h0 : 0 ≤ k) (h1 : k < 1000) (q : ∀ a H', H a = none → Sm H H' → Src a 0 H' → Q (.ref a) H') : SpSource K ([.ref p, .int k] ++ []) H Q E := ⟨p, ns, k, rfl, h, h0, h1, q⟩
def SpCell (K : PySem.W.Frag) : Sp := fun vs H Q _ => ∃ (p : Addr) (ns : List Int) (k : Int), vs = [.ref p, .int k] ∧ SqL K H p (ns.map V.int) ∧ 0 ≤ k ∧ ∀ (c : Int) H', Sm H H' → Q (.int c) H'
theorem w_cell {K : PySem.W.Frag} {H : Hp} {Q : VK} {E : XK} {p : Addr} {ns : List Int} {k : Int} (h : SqL K H p (ns.map V.int)) (h0 : 0 ≤ k) (q : ∀ (c : Int) H', Sm H H' → Q (.int c) H') : SpCell K ([.ref p, .int k] ++ []) H Q E := ⟨p, ns, k, rfl, h, h0, q⟩
def SpSourceB : Sp := fun vs H Q _ => ∃ (c k : Int), vs = [.int c, .int k] ∧ 0 ≤ k ∧ k < 1000 ∧ ∀ a H', H a = none → Sm H H' → Src a 0 H' → Q (.ref a) H'
theorem w_sourceB {H : Hp} {Q : VK} {E : XK} {c k : Int} (h0 : 0 ≤ k) (h1 : k < 1000) (q : ∀ a H', H a = none → Sm H H' → Src a 0 H' → Q (.ref a) H') : SpSourceB ([.int c, .int k] ++ []) H Q E := ⟨c, k, rfl, h0, h1, q⟩
/-! lists read -/
section
variable {K : PySem.W.Frag} {H : Hp} {Q : VK} {p : Addr} {xs : List V} {i : Int} {v : V}
theorem w_ixL (h : SqL K H p xs) (ha : atI xs i = some v) (k : Q v H) : rIxL K (.ref p) (.int i) H Q := ⟨p, xs, i, v, rfl, rfl, h, ha, k⟩
theorem w_ixT (h : SqT K H p xs) (ha : atI xs i = some v) (k : Q v H) : rIxT K (.ref p) (.int i) H Q := ⟨p, xs, i, v, rfl, rfl, h, ha, k⟩
theorem w_len (h : SqL K H p xs) (k : Q (.int xs.length) H) : (fun (xs : List V) H Q => ∃ p ys, xs = [V.ref p] ∧ (SqL K H p ys ∨ SqT K H p ys) ∧ Q (.int ys.length) H) [.ref p] H Q := ⟨p, xs, rfl, .inl h, k⟩
end
section
variable {K : PySem.W.Frag} {H : Hp} {Q : VK} {p q a : Addr} {N : Int} {xs ys : List V} {i : Int}
theorem w_catS (s : Src a N H) (h1 : Lst a H p xs) (h2 : Lst a H q ys) (k : ∀ r H', Kp a H H' → Src a N H' → Lst a H' r (xs ++ ys) → Q (.ref r) H') (hz : xs.length + ys.length ≤ 1000000 := by first | decide | (simp only [List.length_cons, List.length_nil]; decide)) : rCat (.ref p) (.ref q) H Q :=
  ⟨p, q, xs, ys, rfl, rfl, h1.at_, h2.at_, Nat.le_trans hz (by decide), fun r hr => k r _ (.of_same (same_upd hr)) (s.same (same_upd hr)) ⟨s.ne hr, upd_same⟩⟩
theorem w_repS (s : Src a N H) (h1 : Lst a H p xs) (k : ∀ r H', Kp a H H' → Src a N H' → Lst a H' r (List.replicate i.toNat xs).flatten → Q (.ref r) H') (h0 : -(2 ^ 63) ≤ i := by decide) (h3 : i < 2 ^ 63 := by decide) (hz : xs.length * i.toNat ≤ 1000000 := by first | decide | (simp only [List.length_cons, List.length_nil]; decide)) : rRep (.ref p) (.int i) H Q :=
  ⟨p, i, xs, rfl, rfl, h1.at_, h0, h3, Nat.le_trans hz (by decide), fun r hr => k r _ (.of_same (same_upd hr)) (s.same (same_upd hr)) ⟨s.ne hr, upd_same⟩⟩
end
/-- an item at a drawn place -/
theorem pick {α : Type} {xs : List α} {r : Int} (h0 : 0 ≤ r) (h1 : r < (xs.length : Int)) : ∃ v, v ∈ xs ∧ atI xs r = some v := by
  obtain ⟨n, rfl⟩ := Int.eq_ofNat_of_zero_le h0
  have hn : n < xs.length := by omega
  exact ⟨xs[n], List.getElem_mem hn, atI_nat (List.getElem?_eq_getElem hn)⟩
theorem pickI {xs : List Int} {r : Int} (P : Int → Prop) (h0 : 0 ≤ r) (h1 : r < (xs.length : Int)) (hP : ∀ m ∈ xs, P m) : ∃ m, atI (xs.map V.int) r = some (.int m) ∧ P m := by
  obtain ⟨v, hv, e⟩ := pick (xs := xs.map V.int) h0 (by simpa using h1)
  obtain ⟨m, hm, rfl⟩ := List.mem_map.mp hv
  exact ⟨m, e, hP m hm⟩
/-! and of bits -/
section
variable {X : Cx}
theorem op_and1 : OpR X (binaryOp .BitAnd) (rI (fun i j => 0 ≤ i ∧ j = 1) fun i j => .int (i % 2)) := by
  intro pins s σ H x y v u Q I rx ry h
  obtain ⟨i, j, rfl, rfl, ⟨hi, rfl⟩, q⟩ := h
  exact op_andM pins s σ H (.int i) (.int 1) v u Q I rx ry ⟨i, 1, rfl, rfl, by simpa using q⟩
end
/-! built-ins by named readings -/
def rMax2 : List V → Hp → VK → Prop := fun xs H Q => ∃ i j, xs = [.int i, .int j] ∧ Q (.int (if j > i then j else i)) H
def rMin2 : List V → Hp → VK → Prop := fun xs H Q => ∃ i j, xs = [.int i, .int j] ∧ Q (.int (if j < i then j else i)) H
def rAbs : List V → Hp → VK → Prop := fun xs H Q => ∃ i, xs = [.int i] ∧ Q (.int (if i < 0 then -i else i)) H
def rLen (K : PySem.W.Frag) : List V → Hp → VK → Prop := fun xs H Q => ∃ p ys, xs = [.ref p] ∧ (SqL K H p ys ∨ SqT K H p ys) ∧ Q (.int ys.length) H
section
variable {X : Cx}
theorem c_max2 (hc : X.calm = true) : CallR X (.builtin "max") rMax2 := call_max2 hc
theorem c_min2 (hc : X.calm = true) : CallR X (.builtin "min") rMin2 := call_min2 hc
theorem c_abs : CallR X (.builtin "abs") rAbs := call_abs
theorem c_len : CallR X (.builtin "len") (rLen X.K) := call_len_seq
end
section
variable {K : PySem.W.Frag} {H : Hp} {Q : VK} {p : Addr} {xs : List V} {i j : Int}
theorem w_max2 (k : Q (.int (max i j)) H) : rMax2 [.int i, .int j] H Q := ⟨i, j, rfl, by
  have e : (if j > i then j else i) = max i j := by split <;> omega
  rw [e]; exact k⟩
theorem w_min2 (k : Q (.int (min i j)) H) : rMin2 [.int i, .int j] H Q := ⟨i, j, rfl, by
  have e : (if j < i then j else i) = min i j := by split <;> omega
  rw [e]; exact k⟩
theorem w_abs (k : Q (.int (i.natAbs : Int)) H) : rAbs [.int i] H Q := ⟨i, rfl, by
  have e : (if i < 0 then -i else i) = (i.natAbs : Int) := by split <;> omega
  rw [e]; exact k⟩
theorem w_lenL (h : SqL K H p xs) (k : Q (.int xs.length) H) : rLen K [.ref p] H Q := ⟨p, xs, rfl, .inl h, k⟩
theorem w_lenT (h : SqT K H p xs) (k : Q (.int xs.length) H) : rLen K [.ref p] H Q := ⟨p, xs, rfl, .inr h, k⟩
theorem w_isi_ii (k : Q (.bl true) H) : rIsi K [.int i, .ty "int"] H Q := ⟨_, _, _, _, true, rfl, .ty _, .base (.int i), kit_ty (by decide +kernel), k⟩
theorem w_isi_ib (k : Q (.bl false) H) : rIsi K [.int i, .ty "bool"] H Q := ⟨_, _, _, _, false, rfl, .ty _, .base (.int i), kit_ty (by decide +kernel), k⟩
end
@[irreducible] def p2 (k : Int) : Int := 2 ^ k.toNat
theorem p2_pos (k : Int) : 0 < p2 k := by
  unfold p2
  exact Int.pow_pos (by decide)
theorem p2_succ {k : Int} (h : 0 ≤ k) : p2 (k + 1) = 2 * p2 k := by
  unfold p2
  rw [show (k + 1).toNat = k.toNat + 1 by omega, Int.pow_succ]
  omega
theorem p2_zero : p2 0 = 1 := by
  unfold p2
  rfl
theorem p2_add {k l : Int} (h : 0 ≤ k) (h2 : 0 ≤ l) : p2 (k + l) = p2 k * p2 l := by
  unfold p2
  rw [show (k + l).toNat = k.toNat + l.toNat by omega, Int.pow_add]
theorem p2_lt {k l : Int} (h : 0 ≤ k) (h2 : k < l) : p2 k < p2 l := by
  unfold p2
  exact_mod_cast (Nat.pow_lt_pow_right (by decide : 1 < 2) (by omega : k.toNat < l.toNat))
theorem p2_le {k l : Int} (h2 : k ≤ l) : p2 k ≤ p2 l := by
  unfold p2
  exact_mod_cast (Nat.pow_le_pow_right (by decide : 0 < 2) (by omega : k.toNat ≤ l.toNat))

section
variable {X : Cx}
theorem op_shl1 : OpR X (binaryOp .LShift) (rI (fun i j => i = 1 ∧ 0 ≤ j ∧ j ≤ 100000) fun i j => .int (p2 j)) := by
  intro pins s σ H x y v u Q I rx ry h
  obtain ⟨i, j, rfl, rfl, ⟨rfl, h0, h1⟩, q⟩ := h
  exact op_shl pins s σ H (.int 1) (.int j) v u Q I rx ry ⟨1, j, rfl, rfl, ⟨h0, by omega, by decide⟩, by simpa [p2] using q⟩
theorem op_shrP : OpR X (binaryOp .RShift) (rI (fun _ j => 0 ≤ j) fun i j => .int (i / p2 j)) := by
  unfold p2
  exact op_shr
end
/-! loops over ranges -/
def Loop (J : It) (g : TG) (tb : TS) (D : Ends) (σ : L2.St) (H1 : Hp) : Prop := ∃ W : Nat → Nat → L2.St → Hp → Prop, (∃ m, W 0 m σ H1) ∧ ∀ i m σ H, W i m σ H →
  (J.stop i H ∧ D.nx σ H) ∨ (J.go i H ∧ ∃ N : L2.St → Hp → Prop, (∀ σ' H', N σ' H' → ∃ m', m' < m ∧ W (i + 1) m' σ' H') ∧ ∀ x H', J.yld i H x H' → g x σ H' fun σ2 H2 => tb { D with nx := N, ct := N, bk := D.nx } σ2 H2)
section
variable {K : PySem.W.Frag} {σ : L2.St} {H : Hp} {D : Ends} {ta : TA} {tl : TE} {tb : TS} {j : Nat} {g : TG}
theorem w_for1 (k : ta σ H fun vs H1 => ∃ n : Int, vs = [.int n] ∧ -(2 ^ 62) ≤ n ∧ n < 2 ^ 62 ∧ Loop (Itr 0 n.toNat) g tb D σ H1) : tFor (iRng1 ta) g tb D σ H := k
theorem w_for2 (k : ta σ H fun vs H1 => ∃ i n : Int, vs = [.int i, .int n] ∧ (-(2 ^ 62) ≤ i ∧ i < 2 ^ 62 ∧ -(2 ^ 62) ≤ n ∧ n < 2 ^ 62) ∧ Loop (Itr i (n - i).toNat) g tb D σ H1) : tFor (iRng2 ta) g tb D σ H := k
theorem w_forL (k : tl σ H fun x H1 => ∃ a, x = .ref a ∧ (∃ xs, SqL K H1 a xs) ∧ Loop (Itl K a) g tb D σ H1) : tFor (iList K tl) g tb D σ H := k
theorem w_forT (k : tl σ H fun x H1 => ∃ a, x = .ref a ∧ (∃ xs, SqT K H1 a xs) ∧ Loop (Itt K a) g tb D σ H1) : tFor (iTup K tl) g tb D σ H := k
theorem w_rng1 {n : Int} (h1 : -(2 ^ 62) ≤ n) (h2 : n < 2 ^ 62) (Pv : Nat → L2.St → Hp → Prop) (h0 : Pv 0 σ H)
    (hs : ∀ (i : Nat) σ' H', (i : Int) < n → Pv i σ' H' → tb { D with nx := Pv (i + 1), ct := Pv (i + 1), bk := D.nx } (σ'.set j (some (.int (i : Int)))) H') (hd : ∀ σ' H', Pv n.toNat σ' H' → D.nx σ' H') :
    ∃ m : Int, [V.int n] = [.int m] ∧ -(2 ^ 62) ≤ m ∧ m < 2 ^ 62 ∧ Loop (Itr 0 m.toNat) (gName j) tb D σ H := by
  refine ⟨n, rfl, h1, h2, for_range (lo := 0) (n := n.toNat) Pv h0 (fun i σ' H' hi p => ?_) hd⟩
  have e0 : (0 : Int) + (i : Int) = (i : Int) := Int.zero_add _
  show tb { D with nx := Pv (i + 1), ct := Pv (i + 1), bk := D.nx } (σ'.set j (some (.int ((0 : Int) + (i : Int))))) H'
  rw [e0]
  exact hs i σ' H' (by omega) p
theorem w_rng2 {l n : Int} (h1 : -(2 ^ 62) ≤ l) (h2 : l < 2 ^ 62) (h3 : -(2 ^ 62) ≤ n) (h4 : n < 2 ^ 62) (Pv : Nat → L2.St → Hp → Prop) (h0 : Pv 0 σ H)
    (hs : ∀ (i : Nat) σ' H', l + (i : Int) < n → Pv i σ' H' → tb { D with nx := Pv (i + 1), ct := Pv (i + 1), bk := D.nx } (σ'.set j (some (.int (l + (i : Int))))) H') (hd : ∀ σ' H', Pv (n - l).toNat σ' H' → D.nx σ' H') :
    ∃ i m : Int, [V.int l, V.int n] = [.int i, .int m] ∧ (-(2 ^ 62) ≤ i ∧ i < 2 ^ 62 ∧ -(2 ^ 62) ≤ m ∧ m < 2 ^ 62) ∧ Loop (Itr i (m - i).toNat) (gName j) tb D σ H :=
  ⟨l, n, rfl, ⟨h1, h2, h3, h4⟩, for_range (lo := l) (n := (n - l).toNat) Pv h0 (fun i σ' H' hi p => hs i σ' H' (by omega) p) hd⟩
theorem w_lst {a : Addr} {xs : List V} (hx : SqL K H a xs) (Pv : Nat → L2.St → Hp → Prop) (h0 : Pv 0 σ H) (hl : ∀ i σ' H', i ≤ xs.length → Pv i σ' H' → SqL K H' a xs)
    (hs : ∀ i x σ' H', xs[i]? = some x → Pv i σ' H' → g x σ' H' fun σ2 H2 => tb { D with nx := Pv (i + 1), ct := Pv (i + 1), bk := D.nx } σ2 H2) (hd : ∀ σ' H', Pv xs.length σ' H' → D.nx σ' H') :
    ∃ b, V.ref a = .ref b ∧ (∃ xs, SqL K H b xs) ∧ Loop (Itl K b) g tb D σ H := ⟨a, rfl, ⟨xs, hx⟩, for_list Pv h0 hl hs hd⟩
/-- xs.append(e), xs a name -/
theorem w_app {i : Nat} {p : Addr} {te : TE} (h : σ[i]? = some (some (.ref p))) {ys : List V} (hy : H p = some (.lst ys)) (k : te σ H fun y H2 => ∃ xs, H2 p = some (.lst xs) ∧ xs.length < sizeLine ∧ D.nx σ (upd H2 p (.lst (xs ++ [y])))) :
    tDrop (tBM K "list" rAppend (tVar i) (tCons te tNil)) D σ H := by
  refine ⟨.ref p, h, .inl ⟨rfl, ys, .inl (.inl hy)⟩, ?_⟩
  have e : (fun y H2 => ∃ xs, H2 p = some (.lst xs) ∧ xs.length < sizeLine ∧ D.nx σ (upd H2 p (.lst (xs ++ [y])))) = (fun y (H2 : Hp) => rAppend (.ref p) [y] H2 fun _ H3 => D.nx σ H3) := by
    funext y H2
    refine propext ⟨fun ⟨xs, h1, h2, h3⟩ => ⟨p, xs, y, rfl, rfl, h1, h2, h3⟩, fun ⟨l, xs, z, e1, e2, h1, h2, h3⟩ => ?_⟩
    cases e1
    cases e2
    exact ⟨xs, h1, h2, h3⟩
  show te σ H fun y H2 => rAppend (.ref p) [y] H2 fun _ H3 => D.nx σ H3
  rw [← e]
  exact k
/-- while, by a word and a measure -/
theorem w_while {c : TT} (W : Nat → L2.St → Hp → Prop) (m0 : Nat) (h0 : W m0 σ H)
    (hs : ∀ m σ' H', W m σ' H' → c σ' H' fun b H1 => if b = true then ∃ N : L2.St → Hp → Prop, (∀ σ2 H2, N σ2 H2 → ∃ m', m' < m ∧ W m' σ2 H2) ∧ tb { D with nx := N, ct := N, bk := D.nx } σ' H1 else D.nx σ' H1) : tWhile c tb D σ H := ⟨W, ⟨m0, h0⟩, hs⟩
end
end SC

set_option Elab.async false
set_option linter.all false
set_option maxRecDepth 100000
set_option maxHeartbeats 4000000
/-! More steps: keywords, comprehensions, == of lists, sorted, slices. -/
namespace SC
open PySem PySem.Spec PyProof.Rows L2

/-! ### a call by keywords alone -/
section
variable {X : Cx} {CX : CXT} {k n : Nat} {f : Addr} {fd : FuncData} {ps ks : List Str} {sp : Sp} {E : XK} {x : Str} {p pos : Pos} {kws : List Keyword} {t tk : TA} {g : List Value → List Value → List Value} {gV : List V → List V → List V}
theorem pe_callN0 (F : FnOk X.prog X.w X.K X.mg X.base CX k f fd ps sp) (hr : Room k X.A) (hg : Gl X x) (hm : X.mg x = some (.ref f)) (hk : PySem.W.keepIn X.K (.ref f) = true) (hb : KBn X.K fd ps 0 ks g gV) (hx : Passes CX X E)
    (hkw : PK X kws tk) (hall : (backToKw pos (keywordEach kws X.env)).all (·.1.isSome) = true := by rfl) (hks : (backToKw pos (keywordEach kws X.env)).filterMap (·.1) = ks := by rfl)
    (hdb : (x == ("__debug__" : Str)) = false := by decide)
    (hpl : ((backTo pos (starEach [] X.env)).any (·.1) || (backToKw pos (keywordEach kws X.env)).any (·.1.isNone)) = false := by rfl) :
    PE X (.Call (.Name x p) [] kws pos) (tCallN 0 ks.length sp gV E tNil tk) := by
  refine ⟨fun pins s σ H Q I h => ?_⟩
  refine wpAny_Call_Name_kw (ld_glob I hg hm ?_ hdb)
  refine PySem.W.callWith_KW0 (h₀ := X.base) I.ok.mod.kin hk hall ?_ hpl
  refine thn (hkw.run pos pins s σ H _ I h) fun ws s2 ⟨zs, H2, I2, rz, l1, l2, q2⟩ => ⟨I2.kIn, ?_⟩
  rw [hks]
  exact run_fnN (us := []) F hr hb hx I2 .nil rz l1 l2 q2
end
/-- the values by their places among the given ones -/
def pickBy {A : Type} (d : A) (idx : List Nat) (us ws : List A) : List A := idx.map fun i => (us ++ ws).getD i d
theorem vals_getD : ∀ {xs : List V} {us : List Value} (i : Nat), Vals xs us → RelV (xs.getD i .non) (us.getD i .none)
  | [], _, i, .nil => by simp only [List.getD_nil]; exact rfl
  | x :: xs, u :: us, 0, .cons r _ => r
  | x :: xs, u :: us, i + 1, .cons _ r => by
    simp only [List.getD_cons_succ]
    exact vals_getD i r
theorem vals_pick {vs zs : List V} {us ws : List Value} (r : Vals vs us) (rz : Vals zs ws) : ∀ idx : List Nat, Vals (pickBy .non idx vs zs) (pickBy .none idx us ws)
  | [] => .nil
  | i :: idx => .cons (vals_getD i (r.append rz)) (vals_pick r rz idx)
section
variable {σ : L2.St} {H : Hp} {Q : VK} {t tk : TA} {sp : Sp} {E : XK} {n m : Nat} {gV : List V → List V → List V}
def CallN (n m : Nat) (sp : Sp) (gV : List V → List V → List V) (E : XK) (vs zs : List V) (H : Hp) (Q : VK) : Prop := vs.length = n ∧ zs.length = m ∧ sp (gV vs zs) H Q E
theorem w_callN (k : t σ H fun vs H1 => tk σ H1 fun zs H2 => CallN n m sp gV E vs zs H2 Q) : tCallN n m sp gV E t tk σ H Q := k
theorem w_kw {vs zs ws : List V} (hg : gV vs zs = ws) (k : sp (ws ++ []) H Q E) (h1 : vs.length = n := by rfl) (h2 : zs.length = m := by rfl) : CallN n m sp gV E vs zs H Q := ⟨h1, h2, by rw [hg]; rw [List.append_nil] at k; exact k⟩
end

theorem at_int {ns : List Int} {i : Nat} {x : V} (h : (ns.map V.int)[i]? = some x) : ∃ z, ns[i]? = some z ∧ x = V.int z := by
  rw [List.getElem?_map] at h
  cases e : ns[i]? with
  | none => rw [e] at h; cases h
  | some z => rw [e] at h; exact ⟨z, rfl, (Option.some.inj h).symm⟩
/-! ### data -/
theorem dp_ints {K : PySem.W.Frag} {H : Hp} : ∀ ns : List Int, DpAll K H (ns.map V.int) (ns.map PyData.int)
  | [] => .nil
  | n :: ns => .cons (.int n) (dp_ints ns)
theorem lay_ints : ∀ ns : List Int, PyData.canLayAll0 (ns.map PyData.int) = true
  | [] => rfl
  | n :: ns => by simp only [List.map_cons, PyData.canLayAll0, PyData.canLay0, lay_ints ns, Bool.and_self]
theorem dep_ints : ∀ ns : List Int, PyData.depthAll (ns.map PyData.int) ≤ 1
  | [] => by simp [PyData.depthAll]
  | n :: ns => by
    have := dep_ints ns
    simp only [List.map_cons, PyData.depthAll, PyData.depth]
    omega
theorem shaped_ints (ns : List Int) : SeqAt.shaped (.list (ns.map PyData.int)) = true := by
  unfold SeqAt.shaped
  have h1 := lay_ints ns
  have h2 := dep_ints ns
  rw [Bool.and_eq_true]
  refine ⟨by simpa only [PyData.canLay0] using h1, decide_eq_true ?_⟩
  simp only [PyData.depth]
  omega
section
variable {K : PySem.W.Frag} {H : Hp} {Q : VK} {p q : Addr} {xs ys : List Int} {v u : V} {d : PyData}
theorem eqv_ints (ns : List Int) : PyData.eqv (.list (ns.map PyData.int)) (.list (ns.map PyData.int)) = true := SeqAt.eqv_refl _ (SeqAt.canLay_of_shaped (shaped_ints ns))
/-- two equal lists of ints -/
theorem w_eqLs (h1 : SqL K H p (xs.map V.int)) (h2 : SqL K H q (ys.map V.int)) (e : xs = ys) (k : Q (.bl true) H) : rEqD K (.ref p) (.ref q) H Q := by
  subst e
  refine ⟨_, _, .lst h1 (dp_ints xs), .lst h2 (dp_ints xs), shaped_ints _, shaped_ints _, ?_⟩
  rw [eqv_ints]
  exact k
theorem w_neLs (h1 : SqL K H p (xs.map V.int)) (h2 : SqL K H q (ys.map V.int)) (e : xs = ys) (k : Q (.bl false) H) : rNeD K (.ref p) (.ref q) H Q := by
  subst e
  refine ⟨_, _, .lst h1 (dp_ints xs), .lst h2 (dp_ints xs), shaped_ints _, shaped_ints _, ?_⟩
  rw [eqv_ints]
  exact k
theorem w_eqDs (h1 : Dp K H v d) (h2 : Dp K H u d) (sh : SeqAt.shaped d = true) (k : Q (.bl true) H) : rEqD K v u H Q := by
  refine ⟨_, _, h1, h2, sh, sh, ?_⟩
  rw [SeqAt.eqv_refl _ (SeqAt.canLay_of_shaped sh)]
  exact k
theorem w_neDs (h1 : Dp K H v d) (h2 : Dp K H u d) (sh : SeqAt.shaped d = true) (k : Q (.bl false) H) : rNeD K v u H Q := by
  refine ⟨_, _, h1, h2, sh, sh, ?_⟩
  rw [SeqAt.eqv_refl _ (SeqAt.canLay_of_shaped sh)]
  exact k
end
/-! ### comprehensions -/
def LcB (J : It) (g : TG) (tt : TT) (te : TE) (vs : List Nat) (σ : L2.St) (H1 : Hp) (Q : VK) : Prop := ∀ D, H1 D = none → ∃ W : Nat → Nat → Hp → Prop, (∃ m, W 0 m (upd H1 D (.lst []))) ∧ ∀ i m H, W i m H →
  (J.stop i H ∧ Q (.ref D) H) ∨ (J.go i H ∧ ∃ Nx : Hp → Prop, (∀ H', Nx H' → ∃ m', m' < m ∧ W (i + 1) m' H') ∧ ∀ x H', J.yld i H x H' → g x (wipe σ vs) H' fun σ2 H2 => wipe σ2 vs = wipe σ vs ∧ tt σ2 H2 fun b H3 =>
    if b = true then te σ2 H3 fun y H4 => ∃ acc, H4 D = some (.lst acc) ∧ acc.length < sizeLine ∧ Nx (upd H4 D (.lst (acc ++ [y]))) else Nx H3)
section
variable {K : PySem.W.Frag} {σ : L2.St} {H : Hp} {Q : VK} {ta : TA} {tl te : TE} {vs : List Nat} {j : Nat} {g : TG} {tt : TT}
theorem w_lc1 (k : ta σ H fun vs1 H1 => ∃ n : Int, vs1 = [.int n] ∧ -(2 ^ 62) ≤ n ∧ n < 2 ^ 62 ∧ LcB (Itr 0 n.toNat) g tt te vs σ H1 Q) : tLc (iRng1 ta) g tt te vs σ H Q := k
theorem w_lc2 (k : ta σ H fun vs1 H1 => ∃ i n : Int, vs1 = [.int i, .int n] ∧ (-(2 ^ 62) ≤ i ∧ i < 2 ^ 62 ∧ -(2 ^ 62) ≤ n ∧ n < 2 ^ 62) ∧ LcB (Itr i (n - i).toNat) g tt te vs σ H1 Q) : tLc (iRng2 ta) g tt te vs σ H Q := k
theorem w_lcL (k : tl σ H fun x H1 => ∃ a, x = .ref a ∧ (∃ xs, SqL K H1 a xs) ∧ LcB (Itl K a) g tt te vs σ H1 Q) : tLc (iList K tl) g tt te vs σ H Q := k
/-- over a range; what the element is, leaving all that was -/
theorem w_lcr1 {n : Int} (f : Nat → V) (h1 : 0 ≤ n) (h2 : n ≤ 1000000) (hw : ∀ x, wipe ((wipe σ vs).set j (some x)) vs = wipe σ vs)
    (he : ∀ (i : Nat) H', (i : Int) < n → Sm H H' → ∀ R : VK, (∀ H2, Sm H' H2 → R (f i) H2) → te ((wipe σ vs).set j (some (.int (i : Int)))) H' R)
    (k : ∀ p H', Sm H H' → H p = none → H' p = some (.lst ((List.range n.toNat).map f)) → Q (.ref p) H') :
    ∃ m : Int, [V.int n] = [.int m] ∧ -(2 ^ 62) ≤ m ∧ m < 2 ^ 62 ∧ LcB (Itr 0 m.toNat) (gName j) tYes te vs σ H Q := by
  refine ⟨n, rfl, by omega, by omega, fun D hD => ?_⟩
  refine lc_range (lo := 0) (n := n.toNat) (fun i H' => Sm H H' ∧ H' D = some (.lst ((List.range i).map f))) ⟨same_upd hD, upd_same⟩ (fun i H' hi p => ?_) (fun H' p => k D H' p.1 hD p.2)
  have e0 : (0 : Int) + (i : Int) = (i : Int) := Int.zero_add _
  show wipe ((wipe σ vs).set j (some (.int ((0 : Int) + (i : Int))))) vs = wipe σ vs ∧ te ((wipe σ vs).set j (some (.int ((0 : Int) + (i : Int))))) H' _
  rw [e0]
  refine ⟨hw _, he i H' (by omega) p.1 _ fun H2 s2 => ⟨_, s2 _ _ p.2, ?_, sm_upd (p.1.trans s2) hD, ?_⟩⟩
  · rw [List.length_map, List.length_range]
    exact Nat.lt_of_lt_of_le (show i < 1000000 by omega) (by decide)
  · rw [upd_same, List.range_succ, List.map_append]
    rfl
theorem w_lcr2 {l n : Int} (f : Nat → V) (h0 : -1000000 ≤ l) (h1 : l ≤ n) (h2 : n ≤ 1000000) (h3 : n - l ≤ 1000000) (hw : ∀ x, wipe ((wipe σ vs).set j (some x)) vs = wipe σ vs)
    (he : ∀ (i : Nat) H', l + (i : Int) < n → Sm H H' → ∀ R : VK, (∀ H2, Sm H' H2 → R (f i) H2) → te ((wipe σ vs).set j (some (.int (l + (i : Int))))) H' R)
    (k : ∀ p H', Sm H H' → H p = none → H' p = some (.lst ((List.range (n - l).toNat).map f)) → Q (.ref p) H') :
    ∃ i m : Int, [V.int l, V.int n] = [.int i, .int m] ∧ (-(2 ^ 62) ≤ i ∧ i < 2 ^ 62 ∧ -(2 ^ 62) ≤ m ∧ m < 2 ^ 62) ∧ LcB (Itr i (m - i).toNat) (gName j) tYes te vs σ H Q := by
  refine ⟨l, n, rfl, ⟨by omega, by omega, by omega, by omega⟩, fun D hD => ?_⟩
  refine lc_range (lo := l) (n := (n - l).toNat) (fun i H' => Sm H H' ∧ H' D = some (.lst ((List.range i).map f))) ⟨same_upd hD, upd_same⟩ (fun i H' hi p => ?_) (fun H' p => k D H' p.1 hD p.2)
  show wipe ((wipe σ vs).set j (some (.int (l + (i : Int))))) vs = wipe σ vs ∧ te ((wipe σ vs).set j (some (.int (l + (i : Int))))) H' _
  refine ⟨hw _, he i H' (by omega) p.1 _ fun H2 s2 => ⟨_, s2 _ _ p.2, ?_, sm_upd (p.1.trans s2) hD, ?_⟩⟩
  · rw [List.length_map, List.length_range]
    exact Nat.lt_of_lt_of_le (show i < 1000000 by omega) (by decide)
  · rw [upd_same, List.range_succ, List.map_append]
    rfl
/-- over a list -/
theorem w_lcl {a : Addr} {xs : List V} (f : Nat → V) (hs : SqL K H a xs) (hz : xs.length ≤ 1000000) (hw : ∀ x, wipe ((wipe σ vs).set j (some x)) vs = wipe σ vs)
    (he : ∀ (i : Nat) x H', xs[i]? = some x → Sm H H' → ∀ R : VK, (∀ H2, Sm H' H2 → R (f i) H2) → te ((wipe σ vs).set j (some x)) H' R)
    (k : ∀ p H', Sm H H' → H p = none → H' p = some (.lst ((List.range xs.length).map f)) → Q (.ref p) H') :
    ∃ b, V.ref a = .ref b ∧ (∃ xs, SqL K H b xs) ∧ LcB (Itl K b) (gName j) tYes te vs σ H Q := by
  refine ⟨a, rfl, ⟨xs, hs⟩, fun D hD => ?_⟩
  refine lc_list (xs := xs) (fun i H' => Sm H H' ∧ H' D = some (.lst ((List.range i).map f))) ⟨same_upd hD, upd_same⟩ (fun i H' _ p => p.1.seq hs) (fun i x H' hi p => ?_) (fun H' p => k D H' p.1 hD p.2)
  show wipe ((wipe σ vs).set j (some x)) vs = wipe σ vs ∧ te ((wipe σ vs).set j (some x)) H' _
  refine ⟨hw _, he i x H' hi p.1 _ fun H2 s2 => ⟨_, s2 _ _ p.2, ?_, sm_upd (p.1.trans s2) hD, ?_⟩⟩
  · have hi2 := (List.getElem?_eq_some_iff.mp hi).1
    rw [List.length_map, List.length_range]
    exact Nat.lt_of_lt_of_le (show i < 1000000 by omega) (by decide)
  · rw [upd_same, List.range_succ, List.map_append]
    rfl
end
/-! ### list(range), slices, sorted, range by steps -/
section
variable {K : PySem.W.Frag} {σ : L2.St} {H : Hp} {Q : VK} {ta : TA} {te tb : TE} {tl th : TO} {p : Addr} {xs : List V} {ns : List Int} {i j : Int} {lo hi : Option Int}
def LstRg (a b : Int) (H1 : Hp) (Q : VK) : Prop := RgOk a b ∧ ∀ q, H1 q = none → Q (.ref q) (upd H1 q (.lst (rgV a b)))
theorem w_lrg1 (k : te σ H fun x H1 => ∃ n, x = .int n ∧ LstRg 0 n H1 Q) : tLstRg (tRg1 te) σ H Q := k
theorem w_lrg2 (k : te σ H fun x H1 => tb σ H1 fun y H2 => ∃ i j, x = .int i ∧ y = .int j ∧ LstRg i j H2 Q) : tLstRg (tRg2 te tb) σ H Q := k
theorem w_rg1 {n : Int} (h0 : 0 ≤ n) (h1 : n ≤ 1000000) (k : ∀ q H', Sm H H' → H q = none → H' q = some (.lst (((List.range n.toNat).map fun i : Nat => (i : Int)).map V.int)) → Q (.ref q) H') : ∃ m, V.int n = .int m ∧ LstRg 0 m H Q :=
  ⟨n, rfl, RgOk.of_le (by decide) (by omega) (by decide) h0, fun q hq => k q _ (same_upd hq) hq (by
    rw [upd_same]
    unfold rgV
    rw [List.map_map]
    congr 3
    · funext i
      show V.int (0 + (i : Int)) = V.int (i : Int)
      rw [Int.zero_add]
    · rw [Int.sub_zero])⟩
theorem w_slice {r : V → Option Int → Option Int → Hp → VK → Prop} (k : te σ H fun x H1 => tl σ H1 fun l H2 => th σ H2 fun u H3 => r x l u H3 Q) : tSl r te tl th σ H Q := k
theorem w_nopart {R : Option Int → Hp → Prop} (k : R none H) : tNoPart σ H R := k
theorem w_part {R : Option Int → Hp → Prop} (k : te σ H fun x H1 => ∃ i, x = .int i ∧ R (some i) H1) : tPart te σ H R := k
theorem w_isi {R : Int → Prop} (k : R i) : ∃ n, V.int i = .int n ∧ R n := ⟨i, rfl, k⟩
theorem w_sl (h : SqL K H p xs) (k : ∀ q H', Sm H H' → H q = none → H' q = some (.lst (cutV xs lo hi)) → Q (.ref q) H') : rSlL K (.ref p) lo hi H Q := ⟨p, xs, rfl, h, fun q hq => k q _ (same_upd hq) hq upd_same⟩
theorem w_sorted (h : SqL K H p (ns.map V.int)) (k : ∀ (ms : List Int) q H', ms.Perm ns → ms.Pairwise (· ≤ ·) → Sm H H' → H q = none → H' q = some (.lst (ms.map V.int)) → Q (.ref q) H') : rSortedI K [.ref p] H Q :=
  ⟨p, ns, rfl, h, fun ms q hp hs hq => k ms q _ hp hs (same_upd hq) hq upd_same⟩
theorem w_cat {q : Addr} {ys : List V} (h1 : H p = some (.lst xs)) (h2 : H q = some (.lst ys)) (hz : xs.length + ys.length ≤ 1000000) (k : ∀ r H', Sm H H' → H r = none → H' r = some (.lst (xs ++ ys)) → Q (.ref r) H') : rCat (.ref p) (.ref q) H Q :=
  ⟨p, q, xs, ys, rfl, rfl, h1, h2, Nat.le_trans hz (by decide), fun r hr => k r _ (same_upd hr) hr upd_same⟩
theorem w_rep (h1 : H p = some (.lst xs)) (h0 : -(2 ^ 63) ≤ i) (h3 : i < 2 ^ 63) (hz : xs.length * i.toNat ≤ 1000000) (k : ∀ r H', Sm H H' → H r = none → H' r = some (.lst (List.replicate i.toNat xs).flatten) → Q (.ref r) H') : rRep (.ref p) (.int i) H Q :=
  ⟨p, i, xs, rfl, rfl, h1, h0, h3, Nat.le_trans hz (by decide), fun r hr => k r _ (same_upd hr) hr upd_same⟩
end
section
variable {σ : L2.St} {H : Hp} {D : Ends} {ta : TA} {tb : TS} {j : Nat} {g : TG}
theorem w_for3 (k : ta σ H fun vs H1 => ∃ (i j c : Int) (n : Nat), vs = [.int i, .int j, .int c] ∧ RgC i j c n ∧ Loop (Itc i c n) g tb D σ H1) : tFor (iRng3 ta) g tb D σ H := k
theorem w_rng3 {l n c : Int} (m : Nat) (hr : RgC l n c m) (Pv : Nat → L2.St → Hp → Prop) (h0 : Pv 0 σ H)
    (hs : ∀ (i : Nat) σ' H', i < m → Pv i σ' H' → tb { D with nx := Pv (i + 1), ct := Pv (i + 1), bk := D.nx } (σ'.set j (some (.int (l + (i : Int) * c)))) H') (hd : ∀ σ' H', Pv m σ' H' → D.nx σ' H') :
    ∃ (i j' c' : Int) (n' : Nat), [V.int l, V.int n, V.int c] = [.int i, .int j', .int c'] ∧ RgC i j' c' n' ∧ Loop (Itc i c' n') (gName j) tb D σ H :=
  ⟨l, n, c, m, rfl, hr, for_rangeC Pv h0 (fun i σ' H' hi p => hs i σ' H' hi p) hd⟩
theorem w_par3 {a b c : Nat} {trA : TA} (k : trA σ H fun vs H1 => ∃ u v w, vs = [u, v, w] ∧ D.nx (((σ.set a (some u)).set b (some v)).set c (some w)) H1) : tPar3 a b c trA D σ H := k
theorem w_three {u v w : V} {A : V → V → V → Prop} (k : A u v w) : ∃ a b c, [u, v, w] = [a, b, c] ∧ A a b c := ⟨u, v, w, rfl, k⟩
end
end SC

set_option Elab.async false
set_option linter.all false
set_option maxHeartbeats 1000000
/-! The bracket by numbers: plain mathematics. -/
namespace SC
open L2
/-- a seed of a cup of twice h players, told in the cup of h players -/
def fold1 (h s : Int) : Int := if h < s then 2 * h + 1 - s else s
/-- the block numbers of s in a cup of k rounds, level by level -/
def wy (k s : Int) : Nat → Int
  | 0 => s
  | r + 1 => fold1 (p2 (k - 1 - r)) (wy k s r)
/-- its place, bit by bit -/
def pl (k s : Int) : Nat → Int
  | 0 => 0
  | r + 1 => if p2 (k - 1 - r) < wy k s r then pl k s r + p2 r else pl k s r
/-- the seed at a place, round by round -/
def sd (k p : Int) : Nat → Int
  | 0 => 1
  | d + 1 => if p / p2 (k - (1 + d)) % 2 = 1 then p2 (1 + d) + 1 - sd k p d else sd k p d
def turned (b r c : Int) : Int := if r % 2 = 0 then c else b + 1 - c
/-- the number of the block in which s stands, of m blocks -/
def blk (m s : Int) : Int := turned m ((s - 1) / m) ((s - 1) % m + 1)
def seedAt (k p : Int) : Int := sd k p k.toNat
def placeOf (k s : Int) : Int := pl k s k.toNat

theorem p2_half {k : Int} (h : 0 < k) : p2 k = 2 * p2 (k - 1) := by
  have := p2_succ (k := k - 1) (by omega)
  rwa [show k - 1 + 1 = k by omega] at this
theorem p2_abs {k : Int} {n : Nat} (h : k < n) (h0 : 0 < n) : (p2 k).natAbs < 2 ^ n := by
  unfold p2
  rw [Int.natAbs_pow]
  exact Nat.pow_lt_pow_right (by decide) (by omega)
theorem p2_div {i k : Int} (h : k ≤ 1000) : CDivW i (p2 k) := wide_div (p2_pos _) (p2_abs (n := 1001) (by omega) (by decide)) (by decide) (by decide)
theorem mul_small {i l r : Int} (h0 : 0 ≤ i) (h1 : i < p2 l) (h2 : l ≤ 1000) (h3 : r - l ≤ 1000) : CMulX i (p2 (r - l)) :=
  mulx_ok (a := 1001) (b := 1001) (Nat.lt_of_le_of_lt (by omega) (p2_abs (n := 1001) (show l < (1001 : Nat) by omega) (by decide))) (p2_abs (by omega) (by decide)) (by decide)
theorem p2_lim {k : Int} (h : k ≤ 1000) : p2 k < BIG := by
  unfold BIG
  have h1 := p2_abs (k := k) (n := 1001) (by omega) (by decide)
  have h2 := p2_pos k
  have h3 : (2 : Nat) ^ 1001 < 2 ^ 2000 := Nat.pow_lt_pow_right (by decide) (by decide)
  have h4 : ((p2 k).natAbs : Int) < ((2 ^ 2000 : Nat) : Int) := by exact_mod_cast Nat.lt_trans h1 h3
  rw [Int.natAbs_of_nonneg (by omega)] at h4
  simpa using h4
theorem small_lim {b : Int} (h : b ≤ 1000000) : b < BIG := Int.lt_of_le_of_lt h (by decide +kernel)
theorem mul_rem {x y k : Int} (h : 0 < p2 k) (hk : k ≤ 900) : CMulX (x % (2 * p2 k)) (y % (2 * p2 k)) := by
  have a := p2_abs (k := k) (n := 1000) (by omega) (by decide)
  have e : ∀ z : Int, (z % (2 * p2 k)).natAbs < 2 ^ 1001 := fun z => by
    have h1 := Int.emod_nonneg z (b := 2 * p2 k) (by omega)
    have h2 := Int.emod_lt_of_pos z (b := 2 * p2 k) (by omega)
    have h3 : (2 : Nat) ^ 1001 = 2 * 2 ^ 1000 := by rw [Nat.pow_succ]; omega
    rw [h3]
    omega
  exact mulx_ok (e x) (e y) (by decide)
theorem wy_range {k s : Int} (h1 : 1 ≤ s) (h2 : s ≤ p2 k) : ∀ r : Nat, (r : Int) ≤ k → 1 ≤ wy k s r ∧ wy k s r ≤ p2 (k - r)
  | 0, _ => by simpa [wy] using ⟨h1, h2⟩
  | r + 1, hr => by
    have ih := wy_range h1 h2 r (by omega)
    have e : p2 (k - r) = 2 * p2 (k - 1 - r) := by
      rw [p2_half (by omega)]
      congr 2
      omega
    have e2 : p2 (k - ((r + 1 : Nat) : Int)) = p2 (k - 1 - r) := by congr 1; omega
    simp only [wy, fold1]
    rw [e2]
    split <;> omega
theorem pl_range (k s : Int) : ∀ r : Nat, 0 ≤ pl k s r ∧ pl k s r < p2 r
  | 0 => by simp [pl, p2]
  | r + 1 => by
    have ih := pl_range k s r
    have e : p2 ((r + 1 : Nat) : Int) = 2 * p2 r := by
      have := p2_succ (k := (r : Int)) (by omega)
      rw [← this]; congr 1
    rw [e]
    simp only [pl]
    split <;> omega
theorem pl_bit {k s : Int} : ∀ (r j : Nat), j < r → (pl k s r / p2 j % 2 = 1 ↔ p2 (k - 1 - j) < wy k s j)
  | 0, j, h => by omega
  | r + 1, j, h => by
    by_cases hj : j = r
    · subst hj
      have ra := pl_range k s j
      have pp := p2_pos (j : Int)
      simp only [pl]
      split
      · rename_i hb
        simp only [hb, iff_true]
        rw [show pl k s j + p2 j = pl k s j + 1 * p2 j by omega, Int.add_mul_ediv_right _ _ (by omega), Int.ediv_eq_zero_of_lt ra.1 ra.2]
        decide
      · rename_i hb
        simp only [hb, iff_false]
        rw [Int.ediv_eq_zero_of_lt ra.1 ra.2]
        decide
    · have ih := pl_bit (k := k) (s := s) r j (by omega)
      rw [← ih]
      simp only [pl]
      split
      · have e : p2 (r : Int) = p2 ((r - j - 1 : Nat) : Int) * 2 * p2 (j : Int) := by
          have h1 := p2_add (k := ((r - j : Nat) : Int)) (l := (j : Int)) (by omega) (by omega)
          have h2 := p2_succ (k := ((r - j - 1 : Nat) : Int)) (by omega)
          rw [show ((r - j : Nat) : Int) + (j : Int) = r by omega] at h1
          rw [show ((r - j - 1 : Nat) : Int) + 1 = ((r - j : Nat) : Int) by omega] at h2
          rw [h1, h2, Int.mul_comm 2]
        rw [e, Int.add_mul_ediv_right _ _ (by have := p2_pos (j : Int); omega), Int.add_mul_emod_self_right]
      · exact Iff.rfl
theorem sd_back {k s : Int} (h1 : 1 ≤ s) (h2 : s ≤ p2 k) (hk : 0 ≤ k) : ∀ d : Nat, (d : Int) ≤ k → sd k (placeOf k s) d = wy k s (k.toNat - d)
  | 0, _ => by
    have := wy_range h1 h2 k.toNat (by omega)
    rw [show k - (k.toNat : Int) = 0 by omega, p2_zero] at this
    simp only [sd, Nat.sub_zero]
    omega
  | d + 1, hd => by
    have ih := sd_back h1 h2 hk d (by omega)
    have hj : k.toNat - d = k.toNat - (d + 1) + 1 := by omega
    have hb := pl_bit (k := k) (s := s) k.toNat (k.toNat - (d + 1)) (by omega)
    have e1 : k - (1 + (d : Int)) = ((k.toNat - (d + 1) : Nat) : Int) := by omega
    have e2 : k - 1 - ((k.toNat - (d + 1) : Nat) : Int) = d := by omega
    have ra := wy_range h1 h2 (k.toNat - (d + 1)) (by omega)
    have e3 : p2 (k - ((k.toNat - (d + 1) : Nat) : Int)) = p2 (1 + (d : Int)) := by congr 1; omega
    have e4 : p2 (1 + (d : Int)) = 2 * p2 d := by rw [Int.add_comm, p2_succ (by omega)]
    rw [e2] at hb
    rw [hj] at ih
    simp only [wy, fold1] at ih
    rw [e2] at ih
    have hb' : placeOf k s / p2 (k - (1 + (d : Int))) % 2 = 1 ↔ p2 (d : Int) < wy k s (k.toNat - (d + 1)) := by
      rw [e1]; exact hb
    simp only [sd]
    by_cases hc : p2 (d : Int) < wy k s (k.toNat - (d + 1))
    · rw [if_pos hc] at ih
      rw [if_pos (hb'.mpr hc), ih]
      omega
    · rw [if_neg hc] at ih
      rw [if_neg (fun z => hc (hb'.mp z)), ih]
/-- seed_at undoes place_of -/
theorem seed_place {k s : Int} (h1 : 1 ≤ s) (h2 : s ≤ p2 k) (hk : 0 ≤ k) : seedAt k (placeOf k s) = s := by
  have := sd_back h1 h2 hk k.toNat (by omega)
  rw [Nat.sub_self] at this
  exact this
theorem place_range (k s : Int) (hk : 0 ≤ k) : 0 ≤ placeOf k s ∧ placeOf k s < p2 k := by
  have := pl_range k s k.toNat
  rwa [show (k.toNat : Int) = k by omega] at this

/-- rows and columns -/
theorem blk_fold {m s : Int} (hm : 0 < m) (hs : 1 ≤ s) : blk m s = fold1 m (blk (2 * m) s) := by
  have d1 := Int.emod_add_mul_ediv (s - 1) (2 * m)
  have n1 := Int.emod_nonneg (s - 1) (b := 2 * m) (by omega)
  have l1 := Int.emod_lt_of_pos (s - 1) (b := 2 * m) (by omega)
  generalize hq : (s - 1) / (2 * m) = q at d1
  generalize ht : (s - 1) % (2 * m) = t at d1 n1 l1
  unfold blk turned fold1
  rw [hq, ht]
  by_cases c : t < m
  · have e1 : (s - 1) / m = 2 * q := by
      rw [← d1, show t + 2 * m * q = t + (2 * q) * m by rw [Int.mul_comm 2 m, Int.mul_assoc, Int.mul_comm m], Int.add_mul_ediv_right _ _ (by omega), Int.ediv_eq_zero_of_lt n1 c]
      omega
    have e2 : (s - 1) % m = t := by
      rw [← d1, show t + 2 * m * q = t + (2 * q) * m by rw [Int.mul_comm 2 m, Int.mul_assoc, Int.mul_comm m], Int.add_mul_emod_self_right, Int.emod_eq_of_lt n1 c]
    rw [e1, e2]
    split <;> split <;> split <;> omega
  · have e1 : (s - 1) / m = 2 * q + 1 := by
      rw [← d1, show t + 2 * m * q = (t - m) + (2 * q + 1) * m by rw [Int.mul_comm 2 m, Int.mul_assoc, Int.mul_comm m, Int.add_mul]; omega, Int.add_mul_ediv_right _ _ (by omega), Int.ediv_eq_zero_of_lt (by omega) (by omega)]
      omega
    have e2 : (s - 1) % m = t - m := by
      rw [← d1, show t + 2 * m * q = (t - m) + (2 * q + 1) * m by rw [Int.mul_comm 2 m, Int.mul_assoc, Int.mul_comm m, Int.add_mul]; omega, Int.add_mul_emod_self_right, Int.emod_eq_of_lt (by omega) (by omega)]
    rw [e1, e2]
    split <;> split <;> split <;> omega
theorem blk_top {m s : Int} (h1 : 1 ≤ s) (h2 : s ≤ m) : blk m s = s := by
  unfold blk turned
  have e1 : (s - 1) / m = 0 := Int.ediv_eq_zero_of_lt (by omega) (by omega)
  have e2 : (s - 1) % m = s - 1 := Int.emod_eq_of_lt (by omega) (by omega)
  rw [e1, e2]
  split <;> omega
theorem wy_blk {k s : Int} (h1 : 1 ≤ s) (h2 : s ≤ p2 k) : ∀ r : Nat, (r : Int) ≤ k → wy k s r = blk (p2 (k - r)) s
  | 0, _ => by
    simp only [wy]
    rw [blk_top h1 (by simpa using h2)]
  | r + 1, hr => by
    have ih := wy_blk h1 h2 r (by omega)
    have e : p2 (k - r) = 2 * p2 (k - 1 - r) := by
      rw [p2_half (by omega)]
      congr 2
      omega
    have e2 : p2 (k - ((r + 1 : Nat) : Int)) = p2 (k - 1 - r) := by congr 1; omega
    simp only [wy]
    rw [ih, e, e2]
    exact (blk_fold (p2_pos _) h1).symm
theorem blk_range {m s : Int} (hm : 0 < m) : 1 ≤ blk m s ∧ blk m s ≤ m := by
  have n1 := Int.emod_nonneg (s - 1) (b := m) (by omega)
  have l1 := Int.emod_lt_of_pos (s - 1) hm
  unfold blk turned
  split <;> omega
/-- the member with an index, and back -/
def mem (m b i : Int) : Int := i * m + turned m i b
theorem mem_parts {m b i : Int} (hm : 0 < m) (hb : 1 ≤ b) (hb2 : b ≤ m) : (mem m b i - 1) / m = i ∧ blk m (mem m b i) = b := by
  unfold mem blk
  have key : ∀ c : Int, 1 ≤ c → c ≤ m → (i * m + c - 1) / m = i ∧ (i * m + c - 1) % m = c - 1 := fun c h1 h2 => by
    have e : i * m + c - 1 = (c - 1) + i * m := by omega
    rw [e, Int.add_mul_ediv_right _ _ (by omega), Int.add_mul_emod_self_right, Int.ediv_eq_zero_of_lt (by omega) (by omega), Int.emod_eq_of_lt (by omega) (by omega)]
    omega
  by_cases c : i % 2 = 0
  · have e : turned m i b = b := if_pos c
    rw [e]
    obtain ⟨k1, k2⟩ := key b hb hb2
    rw [k1, k2]
    refine ⟨rfl, ?_⟩
    unfold turned
    rw [if_pos c]
    omega
  · have e : turned m i b = m + 1 - b := if_neg c
    rw [e]
    obtain ⟨k1, k2⟩ := key (m + 1 - b) (by omega) (by omega)
    rw [k1, k2]
    refine ⟨rfl, ?_⟩
    unfold turned
    rw [if_neg c]
    omega
theorem mem_back {m s : Int} (hm : 0 < m) : mem m (blk m s) ((s - 1) / m) = s := by
  have d1 := Int.emod_add_mul_ediv (s - 1) m
  unfold mem blk turned
  rw [Int.mul_comm] at d1
  split <;> omega
theorem mem_range {m n b i : Int} (hm : 0 < m) (hb : 1 ≤ b) (hb2 : b ≤ m) (hi : 0 ≤ i) (hn : i < n) : 1 ≤ mem m b i ∧ mem m b i ≤ n * m := by
  have h1 : 0 ≤ i * m := Int.mul_nonneg hi (by omega)
  have h2 : (i + 1) * m ≤ n * m := Int.mul_le_mul_of_nonneg_right (by omega) (by omega)
  rw [Int.add_mul] at h2
  unfold mem turned
  split <;> omega
/-- an index counted by the two remainders -/
theorem counted {m s : Int} (hm : 0 < m) : (s - blk m s) / (2 * m) + 1 + ((s - (2 * m + 1 - blk m s)) / (2 * m) + 1) - 1 = (s - 1) / m ∧ (s - blk m s) % (2 * m) * ((s + blk m s - 1) % (2 * m)) = 0 := by
  have d1 := Int.emod_add_mul_ediv (s - 1) m
  have n1 := Int.emod_nonneg (s - 1) (b := m) (by omega)
  have l1 := Int.emod_lt_of_pos (s - 1) hm
  unfold blk turned
  generalize (s - 1) / m = r at *
  generalize (s - 1) % m = c at *
  have key : ∀ q t x : Int, 0 ≤ t → t < 2 * m → x = t + q * (2 * m) → x / (2 * m) = q ∧ x % (2 * m) = t := fun q t x h0 h1 e => by
    rw [e, Int.add_mul_ediv_right _ _ (by omega), Int.add_mul_emod_self_right, Int.ediv_eq_zero_of_lt h0 h1, Int.emod_eq_of_lt h0 h1]
    omega
  have hr := Int.emod_add_mul_ediv r 2
  split
  · rename_i hc
    have er : r = 2 * (r / 2) := by omega
    generalize r / 2 = q at *
    subst er
    have e : m * (2 * q) = q * (2 * m) := by rw [Int.mul_comm m, Int.mul_assoc, Int.mul_left_comm]
    rw [e] at d1
    have a := key q 0 (s - (c + 1)) (by omega) (by omega) (by omega)
    have b := key (q - 1) (2 * c + 1) (s - (2 * m + 1 - (c + 1))) (by omega) (by omega) (by rw [Int.sub_mul]; omega)
    rw [a.1, b.1, a.2, Int.zero_mul]
    omega
  · rename_i hc
    have er : r = 2 * (r / 2) + 1 := by omega
    generalize r / 2 = q at *
    subst er
    have e : m * (2 * q + 1) = q * (2 * m) + m := by rw [Int.mul_add, Int.mul_one, Int.mul_comm m, Int.mul_assoc, Int.mul_left_comm]
    rw [e] at d1
    have a := key q (2 * c + 1) (s - (m + 1 - (c + 1))) (by omega) (by omega) (by omega)
    have b := key q 0 (s - (2 * m + 1 - (m + 1 - (c + 1)))) (by omega) (by omega) (by omega)
    have d := key (q + 1) 0 (s + (m + 1 - (c + 1)) - 1) (by omega) (by omega) (by rw [Int.add_mul]; omega)
    rw [a.1, b.1, d.2, Int.mul_zero]
    omega
/-- the last seed of the list -/
def lst : Nat → Int
  | 0 => 1
  | d + 1 => 2 * p2 d + 1 - lst d
theorem lst_range : ∀ d : Nat, 1 ≤ lst d ∧ lst d ≤ p2 d
  | 0 => by simp [lst, p2]
  | d + 1 => by
    have ih := lst_range d
    have e : p2 ((d + 1 : Nat) : Int) = 2 * p2 d := by
      have := p2_succ (k := (d : Int)) (by omega)
      rw [← this]; congr 1
    simp only [lst]
    omega
theorem wy_lst {k : Int} (hk : 0 ≤ k) : ∀ r : Nat, (r : Int) ≤ k → wy k (lst k.toNat) r = lst (k.toNat - r) ∧ pl k (lst k.toNat) r = p2 r - 1
  | 0, _ => ⟨rfl, by simp [pl, p2]⟩
  | r + 1, hr => by
    obtain ⟨i1, i2⟩ := wy_lst hk r (by omega)
    have ej : k.toNat - r = (k.toNat - (r + 1)) + 1 := by omega
    have e1 : k - 1 - (r : Int) = ((k.toNat - (r + 1) : Nat) : Int) := by omega
    have e : p2 ((r + 1 : Nat) : Int) = 2 * p2 r := by
      have := p2_succ (k := (r : Int)) (by omega)
      rw [← this]; congr 1
    have ra := lst_range (k.toNat - (r + 1))
    have c : p2 (k - 1 - r) < wy k (lst k.toNat) r := by
      rw [i1, ej, e1]
      simp only [lst]
      omega
    simp only [wy, pl, fold1]
    rw [if_pos c, if_pos c, i2, e, i1, ej, e1]
    simp only [lst]
    omega
theorem seed_last {k : Int} (hk : 0 ≤ k) : seedAt k (p2 k - 1) = lst k.toNat ∧ placeOf k (lst k.toNat) = p2 k - 1 := by
  have h := (wy_lst hk k.toNat (by omega)).2
  have ra := lst_range k.toNat
  rw [show (k.toNat : Int) = k by omega] at h ra
  have hp : placeOf k (lst k.toNat) = p2 k - 1 := h
  refine ⟨?_, hp⟩
  rw [← hp]
  exact seed_place ra.1 ra.2 hk
end SC

set_option Elab.async false
set_option linter.all false
set_option maxHeartbeats 1000000
/-! The bracket as a list, its parts, their members in order. -/
namespace SC
open L2
/-- each seed by itself and its new partner -/
def ext (m : Int) (s : Int) : Nat → List Int
  | 0 => [s]
  | h + 1 => (ext m s h).flatMap fun x => [x, 2 * p2 (m + h) + 1 - x]
def brk (n : Nat) : List Int := ext 0 1 n
theorem ext_len (m s : Int) : ∀ h, (ext m s h).length = 2 ^ h
  | 0 => rfl
  | h + 1 => by
    have ih := ext_len m s h
    have key : ∀ l : List Int, (l.flatMap fun x => [x, 2 * p2 (m + h) + 1 - x]).length = 2 * l.length := fun l => by
      induction l with
      | nil => rfl
      | cons a r ih => simp only [List.flatMap_cons, List.length_append, List.length_cons, List.length_nil, ih]; omega
    rw [show ext m s (h + 1) = (ext m s h).flatMap fun x => [x, 2 * p2 (m + h) + 1 - x] from rfl, key, ih, Nat.pow_succ, Nat.mul_comm]
theorem ext_two (m s : Int) : ∀ a b, ext m s (a + b) = (ext m s a).flatMap fun x => ext (m + a) x b
  | a, 0 => by
    show ext m s a = _
    simp only [ext]
    induction ext m s a with
    | nil => rfl
    | cons x r ih => rw [List.flatMap_cons, ← ih]; rfl
  | a, b + 1 => by
    have ih := ext_two m s a b
    show (ext m s (a + b)).flatMap (fun x => [x, 2 * p2 (m + ((a + b : Nat) : Int)) + 1 - x]) = _
    rw [ih, List.flatMap_assoc]
    congr 1
    funext x
    show _ = (ext (m + a) x b).flatMap fun y => [y, 2 * p2 (m + a + b) + 1 - y]
    rw [show m + ((a + b : Nat) : Int) = m + a + b by omega]
theorem blk_mirror {m x n : Int} (hm : 0 < m) : blk m (2 * (n * m) + 1 - x) = blk m x := by
  have d1 := Int.emod_add_mul_ediv (x - 1) m
  have n1 := Int.emod_nonneg (x - 1) (b := m) (by omega)
  have l1 := Int.emod_lt_of_pos (x - 1) hm
  unfold blk turned
  generalize (x - 1) / m = r at *
  generalize (x - 1) % m = c at *
  have e : 2 * (n * m) + 1 - x - 1 = (m - 1 - c) + (2 * n - r - 1) * m := by
    rw [Int.sub_mul, Int.sub_mul, Int.mul_assoc, Int.one_mul, ← Int.mul_comm m r]
    omega
  have e1 : (2 * (n * m) + 1 - x - 1) / m = 2 * n - r - 1 := by
    rw [e, Int.add_mul_ediv_right _ _ (by omega), Int.ediv_eq_zero_of_lt (by omega) (by omega), Int.zero_add]
  have e2 : (2 * (n * m) + 1 - x - 1) % m = m - 1 - c := by
    rw [e, Int.add_mul_emod_self_right, Int.emod_eq_of_lt (by omega) (by omega)]
  rw [e1, e2]
  split <;> split <;> omega
theorem ext_in {m s : Int} (hm : 0 ≤ m) (h1 : 1 ≤ s) (h2 : s ≤ p2 m) : ∀ h : Nat, ∀ x ∈ ext m s h, (1 ≤ x ∧ x ≤ p2 (m + h)) ∧ blk (p2 m) x = s
  | 0, x, hx => by
    simp only [ext, List.mem_cons, List.not_mem_nil, or_false] at hx
    subst hx
    refine ⟨⟨h1, by simpa using h2⟩, blk_top h1 h2⟩
  | h + 1, x, hx => by
    simp only [ext, List.mem_flatMap, List.mem_cons, List.not_mem_nil, or_false] at hx
    obtain ⟨y, hy, hx⟩ := hx
    obtain ⟨r, b⟩ := ext_in hm h1 h2 h y hy
    have e : p2 (m + ((h + 1 : Nat) : Int)) = 2 * p2 (m + h) := by
      rw [← p2_succ (by omega)]
      congr 1
      omega
    have e2 : p2 (m + h) = p2 h * p2 m := by rw [Int.add_comm, p2_add (by omega) hm]
    rcases hx with rfl | rfl
    · exact ⟨⟨r.1, by omega⟩, b⟩
    · refine ⟨⟨by omega, by omega⟩, ?_⟩
      rw [e2, blk_mirror (p2_pos m), b]
theorem ext_nd {m s : Int} (hm : 0 ≤ m) (h1 : 1 ≤ s) (h2 : s ≤ p2 m) : ∀ h : Nat, (ext m s h).Nodup
  | 0 => by simp [ext]
  | h + 1 => by
    have ih := ext_nd hm h1 h2 h
    have ra := ext_in hm h1 h2 h
    simp only [ext]
    generalize ext m s h = l at ih ra
    induction l with
    | nil => simp
    | cons a r il =>
      rw [List.flatMap_cons]
      have i2 := il (List.nodup_cons.mp ih).2 (fun x hx => ra x (List.mem_cons_of_mem _ hx))
      have na := (List.nodup_cons.mp ih).1
      have ea := (ra a (List.mem_cons_self ..)).1
      rw [List.nodup_append]
      refine ⟨?_, i2, fun x hx y hy => ?_⟩
      · simp only [List.nodup_cons, List.mem_cons, List.not_mem_nil, or_false, not_false_iff, List.nodup_nil, and_true]
        omega
      · simp only [List.mem_flatMap, List.mem_cons, List.not_mem_nil, or_false] at hx hy
        obtain ⟨z, hz, hy⟩ := hy
        have ez := (ra z (List.mem_cons_of_mem _ hz)).1
        have nz : a ≠ z := fun q => na (q ▸ hz)
        omega
/-- the members in ascending order -/
def mems (m b : Int) (n : Nat) : List Int := (List.range n).map fun i : Nat => mem m b (i : Int)
theorem mems_len (m b : Int) (n : Nat) : (mems m b n).length = n := by simp [mems]
theorem mems_at {m b : Int} {n : Nat} {j : Int} (h0 : 0 ≤ j) (h : j < n) : atI ((mems m b n).map V.int) j = some (.int (mem m b j)) := by
  obtain ⟨k, rfl⟩ := Int.eq_ofNat_of_zero_le h0
  refine atI_nat ?_
  unfold mems
  rw [List.map_map, List.getElem?_map, List.getElem?_range (by omega)]
  rfl
theorem mems_last {m b : Int} {n : Nat} (h : 0 < n) : atI ((mems m b n).map V.int) (-1) = some (.int (mem m b ((n : Int) - 1))) := by
  obtain ⟨k, rfl⟩ : ∃ k, n = k + 1 := ⟨n - 1, by omega⟩
  unfold mems
  rw [List.range_succ, List.map_append, List.map_append]
  rw [show (((k + 1 : Nat) : Int) - 1) = (k : Int) by omega]
  exact atI_last _ _
theorem mem_zero {m b : Int} : mem m b 0 = b := by
  unfold mem turned
  simp
theorem pow_p2 {h : Int} (h0 : 0 ≤ h) : ((2 ^ h.toNat : Nat) : Int) = p2 h := by
  unfold p2
  simp
theorem rgc_pow {m c : Nat} (hm : 0 < m) (hc : 0 < c) (hm2 : m ≤ 2 ^ 5) (hc2 : c ≤ 2 ^ 5) : RgC 0 ((m * c : Nat) : Int) (c : Int) m := by
  have e : ((m * c : Nat) : Int) = (m : Int) * (c : Int) := by push_cast; rfl
  have e2 : ((m : Int) * (c : Int) - 0 - 1) / (c : Int) + 1 = m := by
    rw [show (m : Int) * (c : Int) - 0 - 1 = ((c : Int) - 1) + ((m : Int) - 1) * (c : Int) by rw [Int.sub_mul]; omega, Int.add_mul_ediv_right _ _ (by omega), Int.ediv_eq_zero_of_lt (by omega) (by omega)]
    omega
  have e3 : (0 : Int) < (m : Int) * (c : Int) := Int.mul_pos (by omega) (by omega)
  have e4 : m * c ≤ 2 ^ 5 * 2 ^ 5 := Nat.mul_le_mul hm2 hc2
  have sz : PySem.Builtin.Range.rangeSize 0 ((m * c : Nat) : Int) (c : Int) = m := by
    unfold PySem.Builtin.Range.rangeSize
    rw [if_pos (by omega), e, if_pos e3, e2]
  refine ⟨by omega, by omega, ?_, sz⟩
  unfold PySem.Builtin.Range.small
  rw [sz]
  simp only [PySem.Builtin.Range.rangeFitsLong, Bool.and_eq_true, Bool.or_eq_true, decide_eq_true_eq, beq_iff_eq, if_pos (show (c : Int) > 0 by omega)]
  omega
theorem cut_part {xs : List V} {lo hi : Int} {a b : Nat} (ea : lo = (a : Int)) (eb : hi = (b : Int)) (h : a ≤ b) (hb : b ≤ xs.length) : cutV xs (some lo) (some hi) = (xs.drop a).take (b - a) := by
  subst ea eb
  unfold cutV
  rw [HT.sIx_nat, HT.sIx_nat]
  simp only [Nat.min_eq_left hb, Nat.min_eq_left (Nat.le_trans h hb)]
theorem idx_strict {m b x y : Int} (hm : 0 < m) (hx : blk m x = b) (hy : blk m y = b) (h : x < y) : (x - 1) / m < (y - 1) / m := by
  have h1 : (x - 1) / m ≤ (y - 1) / m := Int.ediv_le_ediv hm (by omega)
  have h2 : (x - 1) / m ≠ (y - 1) / m := fun e => by
    have a := mem_back (m := m) (s := x) hm
    have c := mem_back (m := m) (s := y) hm
    rw [hx, e] at a
    rw [hy] at c
    omega
  omega
/-- a rising list of as many numbers from lo on, below lo + their count, is that range -/
theorem rising_range : ∀ (l : List Int) (lo : Int), l.Pairwise (· < ·) → (∀ x ∈ l, lo ≤ x ∧ x < lo + l.length) → l = (List.range l.length).map fun i : Nat => lo + (i : Int)
  | [], lo, _, _ => rfl
  | a :: r, lo, hp, hb => by
    have hp2 := List.pairwise_cons.mp hp
    have ea : a = lo ∨ lo < a := by
      have := (hb a (List.mem_cons_self ..)).1
      omega
    have key : ∀ (l : List Int) (c : Int), l.Pairwise (· < ·) → (∀ x ∈ l, c < x) → ∀ d : Int, (∀ x ∈ l, x < d) → l ≠ [] → c + l.length < d := by
      intro l
      induction l with
      | nil => intro c _ _ d _ h; exact absurd rfl h
      | cons x t it =>
        intro c hp hc d hd _
        have q := List.pairwise_cons.mp hp
        have cx := hc x (List.mem_cons_self ..)
        by_cases ht : t = []
        · subst ht
          have := hd x (List.mem_cons_self ..)
          simp
          omega
        · have := it x q.2 q.1 d (fun y hy => hd y (List.mem_cons_of_mem _ hy)) ht
          simp
          omega
    have al : a = lo := by
      rcases ea with e | e
      · exact e
      · exfalso
        have := key (a :: r) lo hp (fun x hx => by
          rcases List.mem_cons.mp hx with rfl | hx
          · exact e
          · have := hp2.1 x hx; omega) (lo + ((a :: r).length : Int)) (fun x hx => (hb x hx).2) (by simp)
        omega
    subst al
    have ih := rising_range r (a + 1) hp2.2 (fun x hx => by
      have h1 := hp2.1 x hx
      have h2 := (hb x (List.mem_cons_of_mem _ hx)).2
      simp at h2
      omega)
    rw [List.length_cons, List.range_succ_eq_map, List.map_cons, List.map_map]
    congr 1
    · simp
    · conv => lhs; rw [ih]
      apply List.map_congr_left
      intro i _
      show a + 1 + (i : Int) = a + ((i + 1 : Nat) : Int)
      omega
/-- a part in order -/
theorem part_sorted {m s : Int} (hm : 0 ≤ m) (h1 : 1 ≤ s) (h2 : s ≤ p2 m) {h : Nat} {l : List Int} (hp : l.Perm (ext m s h)) (hs : l.Pairwise (· ≤ ·)) : l = mems (p2 m) s (2 ^ h) := by
  have mp := p2_pos m
  have nd : l.Nodup := (List.Perm.nodup_iff hp).mpr (ext_nd hm h1 h2 h)
  have inn : ∀ x ∈ l, (1 ≤ x ∧ x ≤ p2 (m + h)) ∧ blk (p2 m) x = s := fun x hx => ext_in hm h1 h2 h x (hp.mem_iff.mp hx)
  have len : l.length = 2 ^ h := by rw [hp.length_eq, ext_len]
  have st : l.Pairwise (· < ·) := by
    have q := hs.and nd
    refine q.imp ?_
    intro a b hab
    have := hab.1
    have := hab.2
    omega
  have e2 : p2 (m + h) = p2 h * p2 m := by rw [Int.add_comm, p2_add (by omega) hm]
  have e3 : p2 (h : Int) = ((2 ^ h : Nat) : Int) := by
    unfold p2
    simp
  have ri : (l.map fun x => (x - 1) / p2 m).Pairwise (· < ·) := by
    rw [List.pairwise_map]
    refine st.imp_of_mem ?_
    intro a b ha hb hab
    exact idx_strict mp (inn a ha).2 (inn b hb).2 hab
  have rr := rising_range (l.map fun x => (x - 1) / p2 m) 0 ri (fun x hx => by
    obtain ⟨y, hy, rfl⟩ := List.mem_map.mp hx
    have r := (inn y hy).1
    refine ⟨Int.ediv_nonneg (by omega) (by omega), ?_⟩
    rw [List.length_map, len, Int.zero_add, ← e3]
    exact Int.ediv_lt_of_lt_mul mp (by omega))
  rw [List.length_map, len] at rr
  have e : l = (l.map fun x => (x - 1) / p2 m).map fun i => mem (p2 m) s i := by
    rw [List.map_map]
    conv => lhs; rw [← List.map_id l]
    apply List.map_congr_left
    intro x hx
    have b := mem_back (m := p2 m) (s := x) mp
    rw [(inn x hx).2] at b
    exact b.symm
  rw [e, rr, List.map_map]
  unfold mems
  apply List.map_congr_left
  intro i _
  show mem (p2 m) s (0 + (i : Int)) = _
  rw [Int.zero_add]
/-- the list cut into parts of the same length -/
theorem cut_parts {f : Int → List Int} {z : Nat} : ∀ (l : List Int) (j : Nat) (x : Int), (∀ y, (f y).length = z) → l[j]? = some x → ((l.flatMap f).drop (j * z)).take z = f x
  | [], j, x, _, h => by simp at h
  | a :: r, 0, x, hz, h => by
    have e : a = x := Option.some.inj h
    subst e
    rw [List.flatMap_cons, Nat.zero_mul, List.drop_zero, List.take_append_of_le_length (by rw [hz]; exact Nat.le_refl _), ← hz a, List.take_length]
  | a :: r, j + 1, x, hz, h => by
    have ih := cut_parts r j x hz h
    have ej : (j + 1) * z = (f a).length + j * z := by rw [Nat.add_mul, hz]; omega
    rw [List.flatMap_cons, ej, List.drop_append]
    rw [List.drop_eq_nil_of_le (by omega), Nat.add_sub_cancel_left, List.nil_append]
    exact ih
theorem brk_len (n : Nat) : (brk n).length = 2 ^ n := ext_len 0 1 n
theorem brk_in (n : Nat) : ∀ x ∈ brk n, 1 ≤ x ∧ x ≤ p2 n := fun x hx => by
  have := (ext_in (m := 0) (s := 1) (by decide) (by decide) (by rw [p2_zero]; decide) n x hx).1
  simpa using this
/-- the part at j of the level h of the bracket of n rounds -/
theorem brk_part {n h j : Nat} (hn : h ≤ n) (hj : j < 2 ^ (n - h)) : ∃ s, (1 ≤ s ∧ s ≤ p2 ((n - h : Nat) : Int)) ∧ ((brk n).drop (j * 2 ^ h)).take (2 ^ h) = ext ((n - h : Nat) : Int) s h := by
  have hl : j < (brk (n - h)).length := by rw [brk_len]; exact hj
  refine ⟨(brk (n - h))[j], brk_in _ _ (List.getElem_mem hl), ?_⟩
  have e : brk n = (brk (n - h)).flatMap fun x => ext (0 + ((n - h : Nat) : Int)) x h := by
    have := ext_two 0 1 (n - h) h
    rw [show n - h + h = n by omega] at this
    exact this
  rw [e, Int.zero_add]
  exact cut_parts (f := fun x => ext ((n - h : Nat) : Int) x h) _ j _ (fun y => ext_len _ _ _) (List.getElem?_eq_getElem hl)
end SC

set_option Elab.async false
set_option linter.all false
set_option maxHeartbeats 1000000
/-! Meetings: triangular numbers, blocks, places. -/
namespace SC
open L2
/-! ### bits of natural numbers -/
theorem dvd_or {r a b : Nat} : (a ||| b) % 2 ^ r = 0 ↔ a % 2 ^ r = 0 ∧ b % 2 ^ r = 0 := by
  rw [Nat.or_mod_two_pow]
  constructor
  · intro h
    exact ⟨by have := Nat.left_le_or (n := a % 2 ^ r) (m := b % 2 ^ r); omega, by have := Nat.right_le_or (n := a % 2 ^ r) (m := b % 2 ^ r); omega⟩
  · rintro ⟨h1, h2⟩
    rw [h1, h2]
    rfl
theorem dvd_xor {r a b : Nat} : (a ^^^ b) % 2 ^ r = 0 ↔ a % 2 ^ r = b % 2 ^ r := by
  rw [Nat.xor_mod_two_pow]
  constructor
  · intro h
    have e : (a % 2 ^ r ^^^ b % 2 ^ r) ^^^ b % 2 ^ r = a % 2 ^ r := by rw [Nat.xor_assoc, Nat.xor_self, Nat.xor_zero]
    rw [h, Nat.zero_xor] at e
    exact e.symm
  · intro h
    rw [h, Nat.xor_self]
theorem and_pred : ∀ (x : Nat), 0 < x → ∃ v, x - (x &&& (x - 1)) = 2 ^ v ∧ ∀ r, x % 2 ^ r = 0 ↔ r ≤ v := by
  intro x
  induction x using Nat.strongRecOn with
  | ind x ih =>
    intro hx
    have h1 : (x &&& (x - 1)) / 2 = x / 2 &&& (x - 1) / 2 := Nat.and_div_two
    have h2 : (x &&& (x - 1)) % 2 = 0 := by
      have h3 := Nat.and_mod_two_eq_one (a := x) (b := x - 1)
      omega
    by_cases c : x % 2 = 1
    · refine ⟨0, ?_, fun r => ?_⟩
      · have e : (x - 1) / 2 = x / 2 := by omega
        rw [e, Nat.and_self] at h1
        have := Nat.and_le_left (n := x) (m := x - 1)
        show _ = 1
        omega
      · constructor
        · intro h
          by_cases z : r = 0
          · omega
          · exfalso
            obtain ⟨k, rfl⟩ : ∃ k, r = k + 1 := ⟨r - 1, by omega⟩
            have : x % 2 = 0 := by
              have d := Nat.dvd_of_mod_eq_zero h
              exact Nat.mod_eq_zero_of_dvd (Nat.dvd_trans ⟨2 ^ k, by rw [Nat.pow_succ, Nat.mul_comm]⟩ d)
            omega
        · intro h
          obtain rfl : r = 0 := by omega
          simp [Nat.mod_one]
    · obtain ⟨v, e1, e2⟩ := ih (x / 2) (by omega) (by omega)
      have e : (x - 1) / 2 = x / 2 - 1 := by omega
      rw [e] at h1
      refine ⟨v + 1, ?_, fun r => ?_⟩
      · rw [Nat.pow_succ, ← e1]
        have := Nat.and_le_left (n := x / 2) (m := x / 2 - 1)
        omega
      · cases r with
        | zero => simp [Nat.mod_one]
        | succ r =>
          have := e2 r
          rw [Nat.pow_succ, Nat.mul_comm, Nat.mod_mul]
          omega
/-! ### triangular numbers -/
def tri (s : Int) : Int := s * (s - 1) / 2
theorem tri_two (s : Int) : 2 * tri s = s * (s - 1) := by
  have h : s * (s - 1) % 2 = 0 := by
    rw [Int.mul_emod]
    have : s % 2 = 0 ∨ s % 2 = 1 := by omega
    rcases this with h | h
    · rw [h]; simp
    · rw [show (s - 1) % 2 = 0 by omega]; simp
  unfold tri
  omega
theorem tri_nn {s : Int} (h : 1 ≤ s) : 0 ≤ tri s := by
  have h1 := tri_two s
  have h2 : 0 ≤ s * (s - 1) := Int.mul_nonneg (by omega) (by omega)
  omega
theorem tri_diff (a b : Int) : 2 * (tri a - tri b) = (a - b) * (a + b - 1) := by
  have h1 := tri_two a
  have h2 := tri_two b
  have e : (a - b) * (a + b - 1) = a * (a - 1) - b * (b - 1) := by
    rw [Int.sub_mul, Int.mul_sub, Int.mul_sub, Int.mul_sub, Int.mul_sub, Int.mul_add, Int.mul_add, Int.mul_comm b a]
    omega
  omega
/-- an even power divides a product with one odd factor as it divides the other -/
theorem dvd_odd {x y : Int} (hy : y % 2 = 1) : ∀ j : Nat, (2 ^ j : Int) ∣ x * y → (2 ^ j : Int) ∣ x
  | 0, _ => ⟨x, by simp⟩
  | j + 1, h => by
    have h0 : (2 ^ j : Int) ∣ x * y := Int.dvd_trans ⟨2, by rw [Int.pow_succ]⟩ h
    obtain ⟨c, hc⟩ := dvd_odd hy j h0
    obtain ⟨d, hd⟩ := h
    rw [hc, Int.pow_succ, Int.mul_assoc, Int.mul_assoc] at hd
    have hp : (2 ^ j : Int) ≠ 0 := Int.ne_of_gt (Int.pow_pos (by decide))
    have e : c * y = 2 * d := Int.eq_of_mul_eq_mul_left hp hd
    have : c % 2 = 0 := by
      have q : c * y % 2 = 0 := by rw [e]; omega
      rw [Int.mul_emod, hy] at q
      omega
    refine ⟨c / 2, ?_⟩
    rw [hc, Int.pow_succ, Int.mul_assoc]
    congr 1
    omega
theorem tri_dvd {a b : Int} (j : Nat) : (2 ^ j : Int) ∣ tri a - tri b ↔ (2 ^ (j + 1) : Int) ∣ a - b ∨ (2 ^ (j + 1) : Int) ∣ a + b - 1 := by
  have td := tri_diff a b
  have up : (2 ^ j : Int) ∣ tri a - tri b ↔ (2 ^ (j + 1) : Int) ∣ (a - b) * (a + b - 1) := by
    rw [← td, Int.pow_succ, Int.mul_comm]
    exact (Int.mul_dvd_mul_iff_left (by decide)).symm
  rw [up]
  constructor
  · intro h
    by_cases c : (a + b - 1) % 2 = 1
    · exact .inl (dvd_odd c _ h)
    · rw [Int.mul_comm] at h
      exact .inr (dvd_odd (by omega) _ h)
  · rintro (h | h)
    · exact Int.dvd_trans h ⟨_, rfl⟩
    · exact Int.dvd_trans h ⟨_, Int.mul_comm _ _⟩
/-- blocks by remainders -/
theorem blk_eq {m a b : Int} (hm : 0 < m) : blk m a = blk m b ↔ 2 * m ∣ a - b ∨ 2 * m ∣ a + b - 1 := by
  have d1 := Int.emod_add_mul_ediv (a - 1) m
  have n1 := Int.emod_nonneg (a - 1) (b := m) (by omega)
  have l1 := Int.emod_lt_of_pos (a - 1) hm
  have d2 := Int.emod_add_mul_ediv (b - 1) m
  have n2 := Int.emod_nonneg (b - 1) (b := m) (by omega)
  have l2 := Int.emod_lt_of_pos (b - 1) hm
  unfold blk turned
  generalize (a - 1) / m = r at *
  generalize (a - 1) % m = c at *
  generalize (b - 1) / m = t at *
  generalize (b - 1) % m = e at *
  have key : ∀ (x : Int) (q : Int) (u : Int), x = u + q * (2 * m) → -(2 * m) < u → u < 2 * m → (2 * m ∣ x ↔ u = 0) := fun x q u hx h1 h2 => by
    rw [hx]
    constructor
    · rintro ⟨w, hw⟩
      have h3 : u = (w - q) * (2 * m) := by rw [Int.sub_mul, Int.mul_comm w]; omega
      by_cases z : w - q = 0
      · rw [z] at h3; omega
      · exfalso
        by_cases p : 0 < w - q
        · have := Int.mul_le_mul_of_nonneg_right (show 1 ≤ w - q by omega) (show 0 ≤ 2 * m by omega)
          omega
        · have := Int.mul_le_mul_of_nonneg_right (show w - q ≤ -1 by omega) (show 0 ≤ 2 * m by omega)
          omega
    · intro h
      exact ⟨q, by rw [h, Int.zero_add, Int.mul_comm]⟩
  have hr : r = 2 * (r / 2) + r % 2 := by omega
  have ht : t = 2 * (t / 2) + t % 2 := by omega
  have er : m * r = (r / 2) * (2 * m) + (r % 2) * m := by
    conv => lhs; rw [hr]
    rw [Int.mul_add, Int.mul_comm m (r % 2), Int.mul_comm m, Int.mul_assoc, Int.mul_left_comm]
  have et : m * t = (t / 2) * (2 * m) + (t % 2) * m := by
    conv => lhs; rw [ht]
    rw [Int.mul_add, Int.mul_comm m (t % 2), Int.mul_comm m, Int.mul_assoc, Int.mul_left_comm]
  have r2 : r % 2 = 0 ∨ r % 2 = 1 := by omega
  have t2 : t % 2 = 0 ∨ t % 2 = 1 := by omega
  generalize r / 2 = p at *
  generalize t / 2 = q at *
  rcases r2 with r2 | r2 <;> rcases t2 with t2 | t2 <;> rw [r2] at er <;> rw [t2] at et <;> simp only [r2, t2, if_true, if_false, show ¬ ((1 : Int) = 0) by decide]
  · rw [key (a - b) (p - q) (c - e) (by rw [Int.sub_mul]; omega) (by omega) (by omega), key (a + b - 1) (p + q) (c + e + 1) (by rw [Int.add_mul]; omega) (by omega) (by omega)]
    omega
  · rw [key (a - b) (p - q) (c - e - m) (by rw [Int.sub_mul]; omega) (by omega) (by omega), key (a + b - 1) (p + q + 1) (c + e + 1 - m) (by rw [Int.add_mul, Int.add_mul]; omega) (by omega) (by omega)]
    omega
  · rw [key (a - b) (p - q) (c - e + m) (by rw [Int.sub_mul]; omega) (by omega) (by omega), key (a + b - 1) (p + q + 1) (c + e + 1 - m) (by rw [Int.add_mul, Int.add_mul]; omega) (by omega) (by omega)]
    omega
  · rw [key (a - b) (p - q) (c - e) (by rw [Int.sub_mul]; omega) (by omega) (by omega), key (a + b - 1) (p + q + 1) (c + e + 1) (by rw [Int.add_mul, Int.add_mul]; omega) (by omega) (by omega)]
    omega
theorem tri_blk {a b : Int} (j : Nat) : (2 ^ j : Int) ∣ tri a - tri b ↔ blk (p2 j) a = blk (p2 j) b := by
  rw [tri_dvd, blk_eq (p2_pos _)]
  have e : (2 * p2 (j : Int) : Int) = 2 ^ (j + 1) := by
    unfold p2
    rw [Int.toNat_natCast, Int.pow_succ, Int.mul_comm]
  rw [e]
/-! ### the least common level -/
def dif (ss : List Int) (s0 : Int) : Nat := ss.foldl (fun d s => d ||| ((tri s).toNat ^^^ (tri s0).toNat)) 0
theorem dif_fold (s0 : Int) (h0 : 1 ≤ s0) (j : Nat) : ∀ (ss : List Int) (d : Nat), (∀ s ∈ ss, 1 ≤ s) → ((ss.foldl (fun d s => d ||| ((tri s).toNat ^^^ (tri s0).toNat)) d) % 2 ^ j = 0 ↔ d % 2 ^ j = 0 ∧ ∀ s ∈ ss, blk (p2 j) s = blk (p2 j) s0)
  | [], d, _ => by simp
  | s :: r, d, h => by
    have hs := h s (List.mem_cons_self ..)
    rw [List.foldl_cons, dif_fold s0 h0 j r _ (fun x hx => h x (List.mem_cons_of_mem _ hx)), dvd_or, dvd_xor]
    have e : (tri s).toNat % 2 ^ j = (tri s0).toNat % 2 ^ j ↔ (2 ^ j : Int) ∣ tri s - tri s0 := by
      have n1 := tri_nn hs
      have n2 := tri_nn h0
      obtain ⟨x, hx⟩ := Int.eq_ofNat_of_zero_le n1
      obtain ⟨y, hy⟩ := Int.eq_ofNat_of_zero_le n2
      rw [hx, hy, Int.toNat_natCast, Int.toNat_natCast, Int.dvd_iff_emod_eq_zero, ← Int.emod_eq_emod_iff_emod_sub_eq_zero]
      constructor
      · intro q
        exact_mod_cast q
      · intro q
        exact_mod_cast q
    rw [e]
    constructor
    · rintro ⟨⟨a, b⟩, c⟩
      refine ⟨a, fun x hx => ?_⟩
      rcases List.mem_cons.mp hx with rfl | hx
      · exact (tri_blk j).mp b
      · exact c x hx
    · rintro ⟨a, c⟩
      exact ⟨⟨a, (tri_blk j).mpr (c s (List.mem_cons_self ..))⟩, fun x hx => c x (List.mem_cons_of_mem _ hx)⟩
theorem dif_zero {ss : List Int} {s0 : Int} (h0 : 1 ≤ s0) (h : ∀ s ∈ ss, 1 ≤ s) (j : Nat) : dif ss s0 % 2 ^ j = 0 ↔ ∀ s ∈ ss, blk (p2 j) s = blk (p2 j) s0 := by
  unfold dif
  rw [dif_fold s0 h0 j ss 0 h]
  simp
/-- the lowest set bit's place -/
def lowAt (d : Nat) : Int := (PySem.Builtin.Int.intBits ((d - (d &&& (d - 1)) : Nat) : Int) : Int) - 1
theorem lowAt_spec {d : Nat} (h : 0 < d) : 0 ≤ lowAt d ∧ ∀ r : Nat, d % 2 ^ r = 0 ↔ (r : Int) ≤ lowAt d := by
  obtain ⟨v, e1, e2⟩ := and_pred d h
  have e : lowAt d = v := by
    unfold lowAt
    rw [e1]
    unfold PySem.Builtin.Int.intBits
    have hp : (2 : Nat) ^ v ≠ 0 := Nat.pos_iff_ne_zero.mp (Nat.pow_pos (by decide))
    rw [if_neg (by intro z; have z2 : ((2 ^ v : Nat) : Int) = 0 := eq_of_beq z; omega)]
    rw [Int.natAbs_natCast, Nat.log2_two_pow]
    omega
  rw [e]
  refine ⟨by omega, fun r => ?_⟩
  rw [e2]
  omega
def lev (k : Int) (ss : List Int) (s0 : Int) : Int := if dif ss s0 = 0 then 0 else k - lowAt (dif ss s0)
/-- the level is at most h exactly if all stand in one block of level h -/
theorem lev_le {k h : Int} {ss : List Int} {s0 : Int} (hk : 0 ≤ k) (h0 : 1 ≤ s0) (hs0 : s0 ≤ p2 k) (hs : ∀ s ∈ ss, 1 ≤ s ∧ s ≤ p2 k) (l0 : 0 ≤ h) (l1 : h ≤ k) : lev k ss s0 ≤ h ↔ ∀ s ∈ ss, blk (p2 (k - h)) s = blk (p2 (k - h)) s0 := by
  obtain ⟨j, hj⟩ := Int.eq_ofNat_of_zero_le (show 0 ≤ k - h by omega)
  have dz := dif_zero h0 (fun s x => (hs s x).1) j
  rw [hj, ← dz]
  unfold lev
  by_cases c : dif ss s0 = 0
  · rw [if_pos c, c]
    simp [l0]
  · rw [if_neg c, (lowAt_spec (by omega)).2 j]
    omega
theorem lev_range {k : Int} {ss : List Int} {s0 : Int} (hk : 0 ≤ k) (h0 : 1 ≤ s0) (hs0 : s0 ≤ p2 k) (hs : ∀ s ∈ ss, 1 ≤ s ∧ s ≤ p2 k) : 0 ≤ lev k ss s0 ∧ lev k ss s0 ≤ k := by
  obtain ⟨j, hj⟩ := Int.eq_ofNat_of_zero_le hk
  have dz := dif_zero h0 (fun s x => (hs s x).1)
  unfold lev
  by_cases c : dif ss s0 = 0
  · rw [if_pos c]
    omega
  · rw [if_neg c]
    have ls := lowAt_spec (d := dif ss s0) (by omega)
    refine ⟨?_, by omega⟩
    by_cases z : lowAt (dif ss s0) ≤ k
    · omega
    · exfalso
      have e1 := (dz j).mp ((ls.2 j).mpr (by omega))
      have e2 : ∀ s ∈ ss, s = s0 := fun s x => by
        have := e1 s x
        rw [← hj, blk_top (hs s x).1 (hs s x).2, blk_top h0 hs0] at this
        exact this
      have e3 : ∀ r, dif ss s0 % 2 ^ r = 0 := fun r => (dz r).mpr fun s x => by rw [e2 s x]
      have e4 := e3 (dif ss s0)
      rw [Nat.mod_eq_of_lt Nat.lt_two_pow_self] at e4
      exact c e4
/-- places by blocks -/
theorem pl_shift {k s : Int} (h1 : 1 ≤ s) (h2 : s ≤ p2 k) {r : Nat} (hr : (r : Int) ≤ k) : ∀ n : Nat, wy (k - r) (wy k s r) n = wy k s (r + n) ∧ pl k s (r + n) = pl k s r + p2 r * pl (k - r) (wy k s r) n
  | 0 => by simp [wy, pl]
  | n + 1 => by
    obtain ⟨i1, i2⟩ := pl_shift h1 h2 hr n
    have e : k - r - 1 - (n : Int) = k - 1 - ((r + n : Nat) : Int) := by omega
    have e2 : p2 ((r + n : Nat) : Int) = p2 r * p2 n := by rw [show ((r + n : Nat) : Int) = (r : Int) + n by omega, p2_add (by omega) (by omega)]
    constructor
    · show fold1 (p2 (k - r - 1 - n)) (wy (k - r) (wy k s r) n) = fold1 (p2 (k - 1 - ((r + n : Nat) : Int))) (wy k s (r + n))
      rw [i1, e]
    · show (if p2 (k - 1 - ((r + n : Nat) : Int)) < wy k s (r + n) then pl k s (r + n) + p2 ((r + n : Nat) : Int) else pl k s (r + n)) = pl k s r + p2 r * (if p2 (k - r - 1 - n) < wy (k - r) (wy k s r) n then pl (k - r) (wy k s r) n + p2 n else pl (k - r) (wy k s r) n)
      rw [i1, e]
      split
      · rw [i2, e2, Int.mul_add]
        omega
      · exact i2
theorem place_div {k s : Int} (hk : 0 ≤ k) (h1 : 1 ≤ s) (h2 : s ≤ p2 k) {h : Int} (l0 : 0 ≤ h) (l1 : h ≤ k) : placeOf k s / p2 h = placeOf (k - h) (blk (p2 (k - h)) s) := by
  obtain ⟨r, rfl⟩ := Int.eq_ofNat_of_zero_le l0
  obtain ⟨_, e⟩ := pl_shift h1 h2 l1 (k - r).toNat
  have ra := pl_range k s r
  have pp := p2_pos (r : Int)
  unfold placeOf
  rw [show k.toNat = r + (k - r).toNat by omega, e, ← wy_blk h1 h2 r l1, Int.add_mul_ediv_left _ _ (by omega), Int.ediv_eq_zero_of_lt ra.1 ra.2, Int.zero_add]
theorem place_eq {k a b : Int} (hk : 0 ≤ k) (a1 : 1 ≤ a) (a2 : a ≤ p2 k) (b1 : 1 ≤ b) (b2 : b ≤ p2 k) {h : Int} (l0 : 0 ≤ h) (l1 : h ≤ k) : placeOf k a / p2 h = placeOf k b / p2 h ↔ blk (p2 (k - h)) a = blk (p2 (k - h)) b := by
  rw [place_div hk a1 a2 l0 l1, place_div hk b1 b2 l0 l1]
  constructor
  · intro e
    have ra := blk_range (m := p2 (k - h)) (s := a) (p2_pos _)
    have rb := blk_range (m := p2 (k - h)) (s := b) (p2_pos _)
    have ea := seed_place (k := k - h) ra.1 ra.2 (by omega)
    have eb := seed_place (k := k - h) rb.1 rb.2 (by omega)
    rw [← ea, e, eb]
  · intro e
    rw [e]
theorem lev_same {k : Int} {ss : List Int} {s0 : Int} (hk : 0 ≤ k) (h0 : 1 ≤ s0) (hs0 : s0 ≤ p2 k) (hs : ∀ s ∈ ss, 1 ≤ s ∧ s ≤ p2 k) (e : ∀ s ∈ ss, s = s0) : lev k ss s0 = 0 := by
  have h1 := (lev_le hk h0 hs0 hs (Int.le_refl 0) hk).mpr fun s x => by rw [e s x]
  have h2 := lev_range hk h0 hs0 hs
  omega
theorem two_in {k a b : Int} (ha : 1 ≤ a ∧ a ≤ p2 k) (hb : 1 ≤ b ∧ b ≤ p2 k) : ∀ s ∈ [a, b], 1 ≤ s ∧ s ≤ p2 k := fun s hs => by
  simp only [List.mem_cons, List.not_mem_nil, or_false] at hs
  rcases hs with rfl | rfl
  · exact ha
  · exact hb
theorem lev_two {k a b h : Int} (hk : 0 ≤ k) (ha : 1 ≤ a ∧ a ≤ p2 k) (hb : 1 ≤ b ∧ b ≤ p2 k) (l0 : 0 ≤ h) (l1 : h ≤ k) : lev k [a, b] a ≤ h ↔ blk (p2 (k - h)) a = blk (p2 (k - h)) b := by
  rw [lev_le hk ha.1 ha.2 (two_in ha hb) l0 l1]
  constructor
  · intro z
    exact (z b (by simp)).symm
  · intro z s hs
    simp only [List.mem_cons, List.not_mem_nil, or_false] at hs
    rcases hs with rfl | rfl
    · rfl
    · exact z.symm
theorem lev_diff {k a b : Int} (hk : 0 ≤ k) (ha : 1 ≤ a ∧ a ≤ p2 k) (hb : 1 ≤ b ∧ b ≤ p2 k) (h : a ≠ b) : 1 ≤ lev k [a, b] a := by
  by_cases c : lev k [a, b] a ≤ 0
  · have := (lev_two hk ha hb (Int.le_refl 0) hk).mp c
    rw [Int.sub_zero, blk_top ha.1 ha.2, blk_top hb.1 hb.2] at this
    exact absurd this h
  · omega
/-- with one round more the same seeds meet one round later -/
theorem lev_more {k a b : Int} (hk : 0 ≤ k) (ha : 1 ≤ a ∧ a ≤ p2 k) (hb : 1 ≤ b ∧ b ≤ p2 k) (h : a ≠ b) : lev (k + 1) [b, a] b = lev k [a, b] a + 1 := by
  have up := p2_succ hk
  have ha' : 1 ≤ a ∧ a ≤ p2 (k + 1) := by omega
  have hb' : 1 ≤ b ∧ b ≤ p2 (k + 1) := by omega
  have r1 := lev_range hk ha.1 ha.2 (two_in ha hb)
  have r2 := lev_range (show 0 ≤ k + 1 by omega) hb'.1 hb'.2 (two_in hb' ha')
  have d2 := lev_diff (show 0 ≤ k + 1 by omega) hb' ha' (Ne.symm h)
  have e1 : ∀ x, 0 ≤ x → x ≤ k → (lev (k + 1) [b, a] b ≤ x + 1 ↔ lev k [a, b] a ≤ x) := fun x x0 x1 => by
    rw [lev_two hk ha hb x0 x1, lev_two (by omega) hb' ha' (by omega) (by omega), show k + 1 - (x + 1) = k - x by omega]
    exact eq_comm
  have a1 := (e1 _ r1.1 r1.2).mpr (Int.le_refl _)
  have a2 := (e1 (lev (k + 1) [b, a] b - 1) (by omega) (by omega)).mp (by omega)
  omega
/-- the least level of many is the greatest of the pairs' -/
theorem lev_max {k m : Int} {ss : List Int} {s0 : Int} (hk : 0 ≤ k) (h0 : 1 ≤ s0 ∧ s0 ≤ p2 k) (hs : ∀ s ∈ ss, 1 ≤ s ∧ s ≤ p2 k) (hm : ∃ s ∈ ss, m = lev k [s0, s] s0) (ha : ∀ s ∈ ss, lev k [s0, s] s0 ≤ m) : lev k ss s0 = m := by
  have r1 := lev_range hk h0.1 h0.2 hs
  obtain ⟨t, ht, rfl⟩ := hm
  have r2 := lev_range hk h0.1 h0.2 (two_in h0 (hs t ht))
  have e1 : lev k ss s0 ≤ lev k [s0, t] s0 := by
    rw [lev_le hk h0.1 h0.2 hs r2.1 r2.2]
    intro s x
    exact ((lev_two hk h0 (hs s x) r2.1 r2.2).mp (ha s x)).symm
  have e2 : lev k [s0, t] s0 ≤ lev k ss s0 := by
    rw [lev_two hk h0 (hs t ht) r1.1 r1.2]
    exact ((lev_le hk h0.1 h0.2 hs r1.1 r1.2).mp (Int.le_refl _) t ht).symm
  omega
/-- two seeds whose sum is one more than a power of two -/
theorem lev_sum {k t a : Int} (hk : 0 ≤ k) (t0 : 1 ≤ t) (t1 : t ≤ k) (a0 : 1 ≤ a) (a1 : a ≤ p2 t / 2) : lev k [a, p2 t + 1 - a] a = k - t + 1 := by
  have pt := p2_half (show 0 < t by omega)
  have pk := p2_le (k := t) (l := k) t1
  have ha : 1 ≤ a ∧ a ≤ p2 k := by omega
  have hb : 1 ≤ p2 t + 1 - a ∧ p2 t + 1 - a ≤ p2 k := by omega
  have e1 : lev k [a, p2 t + 1 - a] a ≤ k - t + 1 := by
    rw [lev_two hk ha hb (by omega) (by omega), blk_eq (p2_pos _)]
    right
    rw [show k - (k - t + 1) = t - 1 by omega, ← pt]
    exact ⟨1, by omega⟩
  have e2 : ¬ lev k [a, p2 t + 1 - a] a ≤ k - t := by
    rw [lev_two hk ha hb (by omega) (by omega), blk_eq (p2_pos _), show k - (k - t) = t by omega]
    rintro (⟨c, hc⟩ | ⟨c, hc⟩)
    · have e : a - (p2 t + 1 - a) = 2 * (p2 t * c) := by rw [hc, Int.mul_assoc]
      omega
    · have e : a + (p2 t + 1 - a) - 1 = p2 t * (2 * c) := by rw [hc, Int.mul_comm 2 (p2 t), Int.mul_assoc]
      have pp := p2_pos t
      have : (1 : Int) = 2 * c := by
        refine Int.eq_of_mul_eq_mul_left (Int.ne_of_gt pp) ?_
        omega
      omega
  omega
theorem getD_range {ss : List Int} {n : Nat} (h : ss.length = n) : ((List.range n).map fun j => ss.getD j 0) = ss := by
  apply List.ext_getElem
  · simp [h]
  · intro i h1 h2
    rw [List.getElem_map, List.getElem_range, List.getD_eq_getElem?_getD, List.getElem?_eq_getElem h2]
    rfl
end SC

set_option Elab.async false
set_option linter.all false
set_option maxRecDepth 100000
set_option maxHeartbeats 4000000
/-! Star defs, their calls; walks over tuples; scalar equality. -/
namespace SC
open PySem PySem.Spec PyProof.Rows L2 StX
def spStar (n : Nat) (sp : Sp) : Sp := fun vs H Q E => ∃ ws rest, vs = ws ++ rest ∧ ws.length = n ∧ rest.length ≤ sizeLine ∧ ∀ p, H p = Option.none → sp (ws ++ [V.ref p]) (upd H p (.tup rest)) Q E
section
variable {P : Program} {w : World} {K : PySem.W.Frag} {mg : Str → Option Value} {base : Heap}
theorem okStar {x qual : Str} {st : Stmt} {f : Addr} {fd : FuncData} {N ps : List Str} {pv : Str} {k : Nat} {sp : Sp} (F : Fun K x qual st f fd) (S : FnScope N (ps ++ [pv]) (defScope st))
    (hb : ∀ (kV doc pm : Value) (an : Option Addr) (cdv ct : Value) (us rest : List Value), us.length = ps.length → bindArgs (PySem.W.fnOf x qual (defArgs st) (defBody st) (defScope st) .none kV doc pm an cdv ct) ⟨us ++ rest, []⟩ = (newTuple rest >>= fun t => pure (ps.zip us ++ [(pv, t)])))
    (hbody : ∀ (cdv : Value) (A : Around) (outer : List Env) (s : Shared) (H : Hp) (vs : List V) (Q : VK) (E : XK), Room k (A.deeper (envOfC qual (defScope st) s.heap.objs.size f cdv)) → sp vs H Q E →
      ∃ t, PSs (cxOf CX0 P w K mg base N qual (defScope st) f cdv A outer s H E).nox (defBody st) t ∧ t { nx := fun _ H' => Q .non H', rt := Q } (start N vs) H) : FnR P w K mg base CX0 (k + 1) f (spStar ps.length sp) := by
  obtain ⟨oc, od, kV, doc, pm, an, cdv, ct, osl, rfl, lk, hcd⟩ := F.ex
  refine fn_star lk hcd S cxUp_none (hb kV doc pm an cdv ct) fun A outer s H vs Q E hr hsp => ?_
  obtain ⟨t, h, q⟩ := hbody cdv A outer s H vs Q E hr hsp
  exact ⟨t, h.nox, q⟩
/-- a promise by keywords alone -/
def FnRk (P : Program) (w : World) (K : PySem.W.Frag) (mg : Str → Option Value) (base : Heap) (CX : CXT) (k : Nat) (f : Addr) (ks : List Str) (sp : Sp) : Prop :=
  ∀ (A : Around) (outer : List Env) (s : Shared) (H : Hp) (ws : List Value) (zs : List V) (Q : VK) (E : XK), Room k A → Env0 P w K mg base A outer s H → Vals zs ws → zs.length = ks.length → sp zs H Q E →
    codeAny (model P w) A (.call (.ref f) ⟨[], ks.zip ws⟩) (CR CX outer P w H s Q E) s
def spStarK (idx : List Nat) (sp : Sp) : Sp := fun zs H Q E => ∀ p, H p = Option.none → sp (pickBy .non idx [] zs ++ [V.ref p]) (upd H p (.tup [])) Q E
theorem okStarK {x qual : Str} {st : Stmt} {f : Addr} {fd : FuncData} {N ps ks : List Str} {pv : Str} {k : Nat} {sp : Sp} (idx : List Nat) (hi : idx.length = ps.length) (F : Fun K x qual st f fd) (S : FnScope N (ps ++ [pv]) (defScope st))
    (hb : ∀ (kV doc pm : Value) (an : Option Addr) (cdv ct : Value) (ws : List Value), ws.length = ks.length → bindArgs (PySem.W.fnOf x qual (defArgs st) (defBody st) (defScope st) .none kV doc pm an cdv ct) ⟨[], ks.zip ws⟩ = (newTuple [] >>= fun t => pure (ps.zip (pickBy .none idx [] ws) ++ [(pv, t)])))
    (hbody : ∀ (cdv : Value) (A : Around) (outer : List Env) (s : Shared) (H : Hp) (vs : List V) (Q : VK) (E : XK), Room k (A.deeper (envOfC qual (defScope st) s.heap.objs.size f cdv)) → sp vs H Q E →
      ∃ t, PSs (cxOf CX0 P w K mg base N qual (defScope st) f cdv A outer s H E).nox (defBody st) t ∧ t { nx := fun _ H' => Q .non H', rt := Q } (start N vs) H) : FnRk P w K mg base CX0 (k + 1) f ks (spStarK idx sp) := by
  obtain ⟨oc, od, kV, doc, pm, an, cdv, ct, osl, rfl, lk, hcd⟩ := F.ex
  intro A outer s H ws zs Q E hr e0 r hl hsp
  have hn : H s.heap.objs.size = Option.none := e0.hok.fresh (Nat.le_refl _)
  refine run_bnd lk hcd S hr e0 (G := fun xs H2 => ∃ p, H p = Option.none ∧ xs = pickBy .non idx [] zs ++ [V.ref p] ∧ H2 = upd H p (.tup [])) (fun A' Ex Q' h => ?_) fun s2 H2 xs ⟨p, hp, ex, eH⟩ hr' => ?_
  · rw [hb kV doc pm an cdv ct ws (by rw [← r.length]; exact hl)]
    refine wpAny_bind (wpAny_newTuple (wpAny_pure ?_) (Nat.zero_le _))
    have new : ObjOk P w (upd H s.heap.objs.size (.tup [])) (s.heap.push ({ cls := .type "tuple", data := .seq ([] : List Value).toArray } : Obj)) s.heap.objs.size (.tup []) := ⟨Nat.zero_le _, [], .nil, ⟨_, Heap.get?_push_size _ rfl, rfl, _, rfl⟩⟩
    have un := un_laid (fs := frs outer) (s := s) (o := ({ cls := .type "tuple", data := .seq ([] : List Value).toArray } : Obj)) (u := .tup []) hn
    have r1 : Vals (pickBy .non idx [] zs) (pickBy .none idx [] ws) := vals_pick .nil r idx
    have l1 : (pickBy .none idx [] ws).length = ps.length := by rw [← hi]; simp [pickBy]
    have z := h _ _ (pickBy .non idx [] zs ++ [V.ref s.heap.objs.size]) (pickBy .none idx [] ws ++ [Value.ref s.heap.objs.size]) (env0_laid e0 new) un rfl (fun e s' z => False.elim z) (r1.append (.cons rfl .nil))
      (by rw [List.length_append, List.length_append, r1.length, l1] <;> rfl) ⟨_, hn, rfl, rfl⟩
    rw [List.zip_append l1.symm] at z
    exact z
  · subst ex eH
    obtain ⟨t, h, q⟩ := hbody cdv A outer s2 _ _ Q E hr' (hsp p hp)
    exact ⟨t, h.nox, q⟩
end
section
variable {X : Cx} {CX : CXT} {k : Nat} {f : Addr} {ks : List Str} {sp : Sp} {E : XK} {x : Str} {p pos : Pos} {e : Expr} {es : List Expr} {kws : List Keyword} {t tk : TA}
def tCallR (sp : Sp) (E : XK) (t : TA) : TE := fun σ H Q => t σ H fun vs H1 => sp vs H1 Q E
theorem pe_callR (F : FnR X.prog X.w X.K X.mg X.base CX k f sp) (hr : Room k X.A) (hg : Gl X x) (hm : X.mg x = some (.ref f)) (hk : PySem.W.keepIn X.K (.ref f) = true) (hx : Passes CX X E)
    (ha : PA X (e :: es) t) (hdb : (x == ("__debug__" : Str)) = false := by decide) (he : starEach (e :: es) X.env = (false, eval e X.env) :: starEach es X.env := by rfl) (hpl : (backTo pos (starEach es X.env)).any (·.1) = false := by rfl) :
    PE X (.Call (.Name x p) (e :: es) [] pos) (tCallR sp E t) := by
  refine ⟨fun pins s σ H Q I h => ?_⟩
  refine wpAny_Call_Name_kw (ld_glob I hg hm ?_ hdb)
  refine PySem.W.callWith_K (h₀ := X.base) I.ok.mod.kin hk (thn (ha.run pos pins s σ H _ I h) fun us s1 ⟨vs, H1, I1, r, q⟩ => ⟨I1.kIn, ?_⟩) he hpl
  exact wpAny_call (run_fnR F hr hx I1 r q)
def tCallRk (n : Nat) (sp : Sp) (E : XK) (tk : TA) : TE := fun σ H Q => tk σ H fun zs H1 => zs.length = n ∧ sp zs H1 Q E
theorem pe_callRk (F : FnRk X.prog X.w X.K X.mg X.base CX k f ks sp) (hr : Room k X.A) (hg : Gl X x) (hm : X.mg x = some (.ref f)) (hk : PySem.W.keepIn X.K (.ref f) = true) (hx : Passes CX X E)
    (hkw : PK X kws tk) (hall : (backToKw pos (keywordEach kws X.env)).all (·.1.isSome) = true := by rfl) (hks : (backToKw pos (keywordEach kws X.env)).filterMap (·.1) = ks := by rfl)
    (hdb : (x == ("__debug__" : Str)) = false := by decide) (hpl : ((backTo pos (starEach [] X.env)).any (·.1) || (backToKw pos (keywordEach kws X.env)).any (·.1.isNone)) = false := by rfl) :
    PE X (.Call (.Name x p) [] kws pos) (tCallRk ks.length sp E tk) := by
  refine ⟨fun pins s σ H Q I h => ?_⟩
  refine wpAny_Call_Name_kw (ld_glob I hg hm ?_ hdb)
  refine PySem.W.callWith_KW0 (h₀ := X.base) I.ok.mod.kin hk hall ?_ hpl
  refine thn (hkw.run pos pins s σ H _ I h) fun ws s2 ⟨zs, H2, I2, rz, l, q⟩ => ⟨I2.kIn, ?_⟩
  rw [hks]
  refine wpAny_call (codeAny_mono (F X.A X.stack s2 H2 ws zs Q E hr I2.env0 rz l q) fun r s' hq => ?_)
  cases r with
  | error e => exact hx pins σ H2 s2 e s' I2 hq
  | ok fl =>
    cases fl with
    | ret u => exact I2.after hq
    | next => exact False.elim hq
    | brk => exact False.elim hq
    | cont => exact False.elim hq
end
section
variable {K : PySem.W.Frag} {σ : L2.St} {H : Hp} {Q : VK} {t tk : TA} {te : TE} {sp : Sp} {E : XK} {n : Nat} {D : Ends} {tb : TS} {g : TG}
def CallRk (n : Nat) (sp : Sp) (E : XK) (zs : List V) (H : Hp) (Q : VK) : Prop := zs.length = n ∧ sp zs H Q E
theorem w_callR (k : t σ H fun vs H1 => sp vs H1 Q E) : tCallR sp E t σ H Q := k
theorem w_callRk (k : tk σ H fun zs H1 => CallRk n sp E zs H1 Q) : tCallRk n sp E tk σ H Q := k
theorem w_rk {zs : List V} (k : sp zs H Q E) (h : zs.length = n := by rfl) : CallRk n sp E zs H Q := ⟨h, k⟩
def Starred (K : PySem.W.Frag) (x : V) (H1 : Hp) (R : List V → Prop) : Prop := ∃ p xs, x = V.ref p ∧ (SqT K H1 p xs ∨ SqL K H1 p xs) ∧ R xs
theorem w_star {R : List V → Hp → Prop} (k : te σ H fun x H1 => Starred K x H1 fun xs => t σ H1 fun ys H2 => R (xs ++ ys) H2) : tStar K te t σ H R := k
theorem w_starT {p : Addr} {xs : List V} {R : List V → Prop} (h : SqT K H p xs) (k : R xs) : Starred K (.ref p) H R := ⟨p, xs, rfl, .inl h, k⟩
theorem w_bits (k : te σ H fun x H1 => ∃ i, x = .int i ∧ Q (.int (Builtin.Int.intBits i : Nat)) H1) : tBits te σ H Q := k
theorem w_ltup {a : Addr} {xs : List V} (hx : SqT K H a xs) (Pv : Nat → L2.St → Hp → Prop) (h0 : Pv 0 σ H) (hl : ∀ i σ' H', i ≤ xs.length → Pv i σ' H' → SqT K H' a xs)
    (hs : ∀ i x σ' H', xs[i]? = some x → Pv i σ' H' → g x σ' H' fun σ2 H2 => tb { D with nx := Pv (i + 1), ct := Pv (i + 1), bk := D.nx } σ2 H2) (hd : ∀ σ' H', Pv xs.length σ' H' → D.nx σ' H') :
    ∃ b, V.ref a = .ref b ∧ (∃ xs, SqT K H b xs) ∧ Loop (Itt K b) g tb D σ H := ⟨a, rfl, ⟨xs, hx⟩, for_tup Pv h0 hl hs hd⟩
end
theorem same_seqT {K : PySem.W.Frag} {H H' : Hp} {a : Addr} {xs : List V} (e : Sm H H') (h : SqT K H a xs) : SqT K H' a xs := by
  rcases h with (h | ⟨o, h⟩) | h
  · exact .inl (.inl (e _ _ h))
  · exact .inl (.inr ⟨o, e _ _ h⟩)
  · exact .inr h
/-! isinstance of a scalar against a new tuple of classes, one class -/
section
variable {K : PySem.W.Frag} {H : Hp} {Q : VK} {i : Int} {b : Bool} {p : Addr}
theorem w_isiT_i (h : H p = some (.tup [.ty "list", .ty "tuple"])) (k : Q (.bl false) H) : rIsiT K [.int i, .ref p] H Q :=
  ⟨_, _, _, _, _, false, rfl, h, .cons (.ty _) (.cons (.ty _) .nil), .base (.int i), kitAny_cons (kit_ty (b := "list") (r := false) (by decide +kernel)) (fun _ => kitAny_cons (kit_ty (b := "tuple") (r := false) (by decide +kernel)) (fun _ => kitAny_nil) (fun z => nomatch z)) (fun z => nomatch z), k⟩
theorem w_isiT_b (h : H p = some (.tup [.ty "list", .ty "tuple"])) (k : Q (.bl false) H) : rIsiT K [.bl b, .ref p] H Q :=
  ⟨_, _, _, _, _, false, rfl, h, .cons (.ty _) (.cons (.ty _) .nil), .base (.bl b), kitAny_cons (kit_ty (b := "list") (r := false) (by decide +kernel)) (fun _ => kitAny_cons (kit_ty (b := "tuple") (r := false) (by decide +kernel)) (fun _ => kitAny_nil) (fun z => nomatch z)) (fun z => nomatch z), k⟩
theorem w_isiT_l {a : Addr} {xs : List V} (ha : H a = some (.lst xs)) (h : H p = some (.tup [.ty "list", .ty "tuple"])) (k : Q (.bl true) H) : rIsiT K [.ref a, .ref p] H Q :=
  ⟨_, _, _, _, _, true, rfl, h, .cons (.ty _) (.cons (.ty _) .nil), .base (.lst ha), kitAny_cons (kit_ty (b := "list") (r := true) (by decide +kernel)) (fun z => nomatch z) (fun _ => rfl), k⟩
theorem w_isi_ll {a : Addr} {xs : List V} (ha : H a = some (.lst xs)) (k : Q (.bl true) H) : rIsi K [.ref a, .ty "list"] H Q := ⟨_, _, _, _, true, rfl, .ty _, .base (.lst ha), kit_ty (by decide +kernel), k⟩
theorem w_all {a : Addr} {bs : List Bool} (h : SqL K H a (bs.map V.bl)) (k : Q (.bl (bs.all id)) H) : rAll K [.ref a] H Q := ⟨a, bs, rfl, h, k⟩
theorem w_max {a : Addr} {ns : List Int} (h : SqL K H a (ns.map V.int)) (h0 : 0 < ns.length) (k : ∀ m, m ∈ ns → (∀ y, y ∈ ns → y ≤ m) → Q (.int m) H) : rMax K [.ref a] H Q := ⟨a, ns, rfl, h, h0, k⟩
theorem w_isi_bb (k : Q (.bl true) H) : rIsi K [.bl b, .ty "bool"] H Q := ⟨_, _, _, _, true, rfl, .ty _, .base (.bl b), kit_ty (by decide +kernel), k⟩
end
end SC

set_option Elab.async false
set_option linter.all false
set_option maxHeartbeats 1000000
/-! Dicts of ints, lists made of draws, the bracket as a list and its meetings. -/
namespace SC
open PySem PySem.Spec PyProof.Rows L2
section
variable {K : PySem.W.Frag} {σ : L2.St} {H : Hp} {Q : VK} {D : Ends} {ta : TA} {td ty tv te : TE} {a : Addr} {kvs : List (Key × V)} {x : Int} {v : V}
def rLenD : List V → Hp → VK → Prop := fun xs H Q => ∃ a kvs, xs = [V.ref a] ∧ H a = some (.dK kvs) ∧ Q (.int kvs.length) H
theorem c_lenD {X : Cx} : CallR X (.builtin "len") rLenD := call_lenD
theorem w_lenD (e : H a = some (.dK kvs)) (k : Q (.int kvs.length) H) : rLenD [.ref a] H Q := ⟨a, kvs, rfl, e, k⟩
theorem w_dnew (k : ∀ p H', Sm H H' → H p = none → H' p = some (.dK []) → Q (.ref p) H') : tDNewK σ H Q := fun p hp => k p _ (same_upd hp) hp upd_same
theorem w_sdput (k : tv σ H fun v H1 => td σ H1 fun x H2 => ty σ H2 fun y H3 => ∃ a H4, x = .ref a ∧ DPut H3 a y v H4 ∧ D.nx σ H4) : sDPut td ty tv D σ H := k
theorem w_put {R : Hp → Prop} (e : H a = some (.dK kvs)) (hl : kvs.length < 1000000) (k : R (upd H a (.dK (putK kvs (.inl x) v)))) : ∃ b H4, V.ref a = .ref b ∧ DPut H b (.int x) v H4 ∧ R H4 :=
  ⟨a, _, rfl, DPut.k (k := .inl x) e (Nat.lt_of_lt_of_le hl (by decide)), k⟩
theorem w_dget' (k : td σ H fun x H1 => ty σ H1 fun y H2 => ∃ a v, x = .ref a ∧ DGet H2 a y (some v) ∧ Q v H2) : tDGet td ty σ H Q := k
theorem w_get (e : H a = some (.dK kvs)) (hv : valV kvs (.inl x) = some v) (k : Q v H) : ∃ b u, V.ref a = .ref b ∧ DGet H b (.int x) (some u) ∧ Q u H :=
  ⟨a, v, rfl, by rw [← hv]; exact DGet.k (k := .inl x) e, k⟩
theorem w_glst {xs : List V} {n : Nat} {g : TGs} {R : L2.St → Hp → Prop} (h : SqL K H a xs) (hl : xs.length = n) (k : g xs σ H R) : gLst K n g (.ref a) σ H R := ⟨a, xs, rfl, h, hl, k⟩
/-- a comprehension over a range, by what holds after each turn -/
theorem w_lcrI {n : Int} {vs : List Nat} {j : Nat} (J : Nat → List V → Addr → Hp → Prop) (h1 : 0 ≤ n) (h2 : n ≤ 1000000) (hw : ∀ x, wipe ((wipe σ vs).set j (some x)) vs = wipe σ vs)
    (h0 : ∀ p H', Sm H H' → H p = none → H' p = some (.lst []) → J 0 [] p H')
    (he : ∀ (i : Nat) xs p H', (i : Int) < n → H p = none → xs.length = i → J i xs p H' → H' p = some (.lst xs) → ∀ R : VK, (∀ y H2, H2 p = some (.lst xs) → J (i + 1) (xs ++ [y]) p (upd H2 p (.lst (xs ++ [y]))) → R y H2) → te ((wipe σ vs).set j (some (.int (i : Int)))) H' R)
    (k : ∀ xs p H', H p = none → xs.length = n.toNat → J n.toNat xs p H' → H' p = some (.lst xs) → Q (.ref p) H') :
    ∃ m : Int, [V.int n] = [.int m] ∧ -(2 ^ 62) ≤ m ∧ m < 2 ^ 62 ∧ LcB (Itr 0 m.toNat) (gName j) tYes te vs σ H Q := by
  refine ⟨n, rfl, by omega, by omega, fun D hD => ?_⟩
  refine lc_range (lo := 0) (n := n.toNat) (fun i H' => ∃ xs, J i xs D H' ∧ H' D = some (.lst xs) ∧ xs.length = i) ⟨[], h0 D _ (same_upd hD) hD upd_same, upd_same, rfl⟩ (fun i H' hi p => ?_) (fun H' p => ?_)
  · obtain ⟨xs, hJ, hx, hl⟩ := p
    have e0 : (0 : Int) + (i : Int) = (i : Int) := Int.zero_add _
    show wipe ((wipe σ vs).set j (some (.int ((0 : Int) + (i : Int))))) vs = wipe σ vs ∧ te ((wipe σ vs).set j (some (.int ((0 : Int) + (i : Int))))) H' _
    rw [e0]
    refine ⟨hw _, he i xs D H' (by omega) hD hl hJ hx _ fun y H2 e2 j2 => ⟨_, e2, ?_, _, j2, upd_same, by simp [hl]⟩⟩
    exact Nat.lt_of_lt_of_le (show xs.length < 1000000 by omega) (by decide)
  · obtain ⟨xs, hJ, hx, hl⟩ := p
    exact k xs D H' hD hl hJ hx
end
/-! ### the bracket as a list -/
theorem brk_all : ∀ (n : Nat) (s : Int), 1 ≤ s → s ≤ p2 n → s ∈ brk n
  | 0, s, h1, h2 => by
    have e : p2 ((0 : Nat) : Int) = 1 := p2_zero
    have : s = 1 := by omega
    subst this
    exact List.mem_singleton.mpr rfl
  | n + 1, s, h1, h2 => by
    have e := p2_succ (k := (n : Int)) (by omega)
    have e2 : p2 ((n + 1 : Nat) : Int) = 2 * p2 n := by rw [Int.natCast_add]; exact e
    have ez : p2 (0 + (n : Int)) = p2 n := by rw [Int.zero_add]
    show s ∈ (ext 0 1 n).flatMap fun x => [x, 2 * p2 (0 + (n : Int)) + 1 - x]
    rw [List.mem_flatMap]
    by_cases c : s ≤ p2 n
    · exact ⟨s, brk_all n s h1 c, by simp⟩
    · refine ⟨2 * p2 n + 1 - s, brk_all n _ (by omega) (by omega), ?_⟩
      rw [ez]
      simp only [List.mem_cons, List.not_mem_nil, or_false]
      omega
theorem brk_nd (n : Nat) : (brk n).Nodup := ext_nd (m := 0) (s := 1) (by omega) (by omega) (by rw [p2_zero]; omega) n
theorem p2_nat (h : Nat) : p2 (h : Int) = ((2 ^ h : Nat) : Int) := by
  have := pow_p2 (h := (h : Int)) (by omega)
  rw [Int.toNat_natCast] at this
  exact this.symm
theorem brk_blk {n h i : Nat} {x : Int} (hn : h ≤ n) (hx : (brk n)[i]? = some x) : (brk (n - h))[i / 2 ^ h]? = some (blk (p2 ((n : Int) - h)) x) := by
  have hi : i < 2 ^ n := by
    have := (List.getElem?_eq_some_iff.mp hx).1
    rwa [brk_len] at this
  have en : 2 ^ n = 2 ^ (n - h) * 2 ^ h := by rw [← Nat.pow_add]; congr 1; omega
  have hq : i / 2 ^ h < 2 ^ (n - h) := by
    rw [Nat.div_lt_iff_lt_mul (Nat.pow_pos (by decide))]
    omega
  have hb : i / 2 ^ h < (brk (n - h)).length := by rw [brk_len]; exact hq
  have ex : (brk (n - h))[i / 2 ^ h]? = some (brk (n - h))[i / 2 ^ h] := List.getElem?_eq_getElem hb
  generalize hs : (brk (n - h))[i / 2 ^ h] = s at ex
  have hin := brk_in (n - h) s (by rw [← hs]; exact List.getElem_mem _)
  have ee : brk n = (brk (n - h)).flatMap fun y => ext (0 + ((n - h : Nat) : Int)) y h := by
    have := ext_two 0 1 (n - h) h
    rw [show n - h + h = n by omega] at this
    exact this
  have hc := cut_parts (f := fun y => ext (0 + ((n - h : Nat) : Int)) y h) (z := 2 ^ h) (brk (n - h)) (i / 2 ^ h) s (fun y => ext_len _ _ _) ex
  rw [← ee] at hc
  have hm : x ∈ ext (0 + ((n - h : Nat) : Int)) s h := by
    rw [← hc]
    have r := Nat.mod_lt i (Nat.pow_pos (n := h) (show 0 < 2 by decide))
    have e3 : ((brk n).drop (i / 2 ^ h * 2 ^ h)).take (2 ^ h) = ((brk n).drop (i / 2 ^ h * 2 ^ h)).take (2 ^ h) := rfl
    refine List.mem_of_getElem? (i := i % 2 ^ h) ?_
    rw [List.getElem?_take, if_pos r, List.getElem?_drop, Nat.div_add_mod']
    exact hx
  rw [Int.zero_add] at hm
  have bb := (ext_in (m := ((n - h : Nat) : Int)) (by omega) hin.1 hin.2 h x hm).2
  rw [show ((n : Int) - h) = ((n - h : Nat) : Int) by omega, bb]
  exact ex
theorem brk_inj {n i j : Nat} {x : Int} (h1 : (brk n)[i]? = some x) (h2 : (brk n)[j]? = some x) : i = j := by
  have hi := (List.getElem?_eq_some_iff.mp h1).1
  exact (List.getElem?_inj hi (brk_nd n)).mp (h1.trans h2.symm)
theorem brk_meet {n i j h : Nat} {a b : Int} (hi : (brk n)[i]? = some a) (hj : (brk n)[j]? = some b) (hh : h ≤ n) : lev n [a, b] a ≤ h ↔ (i : Int) / p2 h = (j : Int) / p2 h := by
  have ha := brk_in n a (List.mem_of_getElem? hi)
  have hb := brk_in n b (List.mem_of_getElem? hj)
  rw [lev_two (by omega) ha hb (by omega) (by omega), p2_nat h]
  have x1 := brk_blk hh hi
  have x2 := brk_blk hh hj
  constructor
  · intro e
    rw [e] at x1
    have := brk_inj x1 x2
    rw [← Int.natCast_ediv, ← Int.natCast_ediv, this]
  · intro e
    have e2 : i / 2 ^ h = j / 2 ^ h := by
      rw [← Int.natCast_ediv, ← Int.natCast_ediv] at e
      exact Int.ofNat.inj e
    rw [e2, x2] at x1
    exact (Option.some.inj x1).symm
/-- the place of each seed -/
def PD (n : Nat) (kvs : List (Key × V)) : Prop := kvs.length = 2 ^ n ∧ ∀ (i : Nat) x, (brk n)[i]? = some x → valV kvs (.inl x) = some (.int (i : Int))
theorem PD.at_ {n : Nat} {kvs : List (Key × V)} (h : PD n kvs) {a : Int} (ha : 1 ≤ a ∧ a ≤ p2 n) : ∃ i : Nat, (brk n)[i]? = some a ∧ valV kvs (.inl a) = some (.int (i : Int)) := by
  obtain ⟨i, hi⟩ := List.getElem?_of_mem (brk_all n a ha.1 ha.2)
  exact ⟨i, hi, h.2 i a hi⟩
/-- after d seeds -/
def PDn (n d : Nat) (kvs : List (Key × V)) : Prop := kvs.length = d ∧ (∀ (i : Nat) x, i < d → (brk n)[i]? = some x → valV kvs (.inl x) = some (.int (i : Int))) ∧ ∀ (i : Nat) x, d ≤ i → (brk n)[i]? = some x → valV kvs (.inl x) = none
theorem PDn.zero (n : Nat) : PDn n 0 [] := ⟨rfl, fun _ _ h => absurd h (Nat.not_lt_zero _), fun _ _ _ _ => rfl⟩
theorem PDn.put {n d : Nat} {kvs : List (Key × V)} {x : Int} (h : PDn n d kvs) (hx : (brk n)[d]? = some x) : PDn n (d + 1) (putK kvs (.inl x) (.int (d : Int))) := by
  obtain ⟨h1, h2, h3⟩ := h
  refine ⟨?_, fun i y hi hy => ?_, fun i y hi hy => ?_⟩
  · rw [putK_new _ (h3 d x (Nat.le_refl _) hx), List.length_append, h1]
    rfl
  · rw [valV_put]
    split
    · rename_i e
      have e := Sum.inl.inj e
      subst e
      rw [brk_inj hy hx]
    · rename_i e
      refine h2 i y ?_ hy
      by_cases z : i = d
      · subst z
        rw [hx] at hy
        exact absurd (by rw [Option.some.inj hy]) e
      · omega
  · rw [valV_put, if_neg, h3 i y (by omega) hy]
    intro e
    have e := Sum.inl.inj e
    subst e
    have := brk_inj hy hx
    omega
theorem PDn.done {n : Nat} {kvs : List (Key × V)} (h : PDn n (2 ^ n) kvs) : PD n kvs := ⟨h.1, fun i x hx => h.2.1 i x (by
  have := (List.getElem?_eq_some_iff.mp hx).1
  rwa [brk_len] at this) hx⟩
theorem lev_sym {k a b : Int} (hk : 0 ≤ k) (ha : 1 ≤ a ∧ a ≤ p2 k) (hb : 1 ≤ b ∧ b ≤ p2 k) : lev k [b, a] b = lev k [a, b] a := by
  have r1 := lev_range (k := k) (s0 := a) hk ha.1 ha.2 (two_in ha hb)
  have r2 := lev_range (k := k) (s0 := b) hk hb.1 hb.2 (two_in hb ha)
  have e : ∀ h, 0 ≤ h → h ≤ k → (lev k [b, a] b ≤ h ↔ lev k [a, b] a ≤ h) := fun h l0 l1 => by
    rw [lev_two hk hb ha l0 l1, lev_two hk ha hb l0 l1]
    exact ⟨Eq.symm, Eq.symm⟩
  have x1 := (e _ r1.1 r1.2).mpr (Int.le_refl _)
  have x2 := (e _ r2.1 r2.2).mp (Int.le_refl _)
  omega
/-- the level of a set, whoever is named first -/
theorem lev_any {k h a b : Int} {s t : List Int} (hk : 0 ≤ k) (hs : ∀ x ∈ s, 1 ≤ x ∧ x ≤ p2 k) (ha : a ∈ s) (hb : b ∈ t) (e : ∀ x, x ∈ s ↔ x ∈ t) (l0 : 0 ≤ h) (l1 : h ≤ k) : lev k s a ≤ h ↔ lev k t b ≤ h := by
  have ht : ∀ x ∈ t, 1 ≤ x ∧ x ≤ p2 k := fun x hx => hs x ((e x).mpr hx)
  rw [lev_le hk (hs a ha).1 (hs a ha).2 hs l0 l1, lev_le hk (ht b hb).1 (ht b hb).2 ht l0 l1]
  constructor
  · intro z x hx
    rw [z x ((e x).mpr hx), z b ((e b).mpr hb)]
  · intro z x hx
    rw [z x ((e x).mp hx), z a ((e a).mp ha)]
theorem lev_nil {k a : Int} : lev k [] a = 0 := by
  unfold lev dif
  simp
theorem lev_one {k a : Int} (hk : 0 ≤ k) (ha : 1 ≤ a ∧ a ≤ p2 k) : lev k [a] a = 0 :=
  lev_same hk ha.1 ha.2 (fun s hs => by rw [List.mem_singleton.mp hs]; exact ha) fun s hs => List.mem_singleton.mp hs
theorem six {xs : List V} {P : Int → Prop} (hl : xs.length = 6) (h : ∀ x ∈ xs, ∃ z, x = V.int z ∧ P z) : ∃ a b c d e f : Int, xs = [.int a, .int b, .int c, .int d, .int e, .int f] ∧ P a ∧ P b ∧ P c ∧ P d ∧ P e ∧ P f := by
  match xs, hl with
  | [x1, x2, x3, x4, x5, x6], _ =>
    obtain ⟨a, rfl, ha⟩ := h x1 (by simp)
    obtain ⟨b, rfl, hb⟩ := h x2 (by simp)
    obtain ⟨c, rfl, hc⟩ := h x3 (by simp)
    obtain ⟨d, rfl, hd⟩ := h x4 (by simp)
    obtain ⟨e, rfl, he⟩ := h x5 (by simp)
    obtain ⟨f, rfl, hf⟩ := h x6 (by simp)
    exact ⟨a, b, c, d, e, f, rfl, ha, hb, hc, hd, he, hf⟩
/-- a tuple of two seeds -/
def PairOk (n : Nat) (x : V) (H : Hp) : Prop := ∃ (q : Addr) (u v : Int), x = .ref q ∧ H q = some (.tup [.int u, .int v]) ∧ (1 ≤ u ∧ u ≤ p2 n) ∧ (1 ≤ v ∧ v ≤ p2 n)
theorem PairOk.go {n : Nat} {x : V} {H H' : Hp} (h : PairOk n x H) (g : ∀ q ys, H q = some (.tup ys) → H' q = some (.tup ys)) : PairOk n x H' := by
  obtain ⟨q, u, v, e, hq, hu, hv⟩ := h
  exact ⟨q, u, v, e, g _ _ hq, hu, hv⟩
theorem PairOk.same {n : Nat} {x : V} {H H' : Hp} (h : PairOk n x H) (g : Sm H H') : PairOk n x H' := h.go fun q ys e => g q _ e
theorem PairOk.kp {n : Nat} {x : V} {H H' : Hp} {a : Addr} {N : Int} (h : PairOk n x H) (s : Src a N H) (g : Kp a H H') : PairOk n x H' := h.go fun q ys e => g q _ (fun z => by
  subst z
  obtain ⟨_, _, _, z, _⟩ := s
  rw [z] at e
  cases e) e
theorem PairOk.upd {n : Nat} {x : V} {H : Hp} {p : Addr} {xs : List V} {o : HO} (h : PairOk n x H) (hp : H p = some (.lst xs)) : PairOk n x (upd H p o) := h.go fun q ys e => by
  rw [upd_ne]
  · exact e
  · intro z
    subst z
    rw [hp] at e
    cases e
theorem pickV {xs : List V} {r : Int} (h0 : 0 ≤ r) (h1 : r < (xs.length : Int)) : ∃ x, atI xs r = some x ∧ x ∈ xs := by
  have hl : r.toNat < xs.length := by omega
  refine ⟨xs[r.toNat], ?_, List.getElem_mem _⟩
  have := atI_nat (j := r.toNat) (List.getElem?_eq_getElem hl)
  rwa [Int.toNat_of_nonneg h0] at this
theorem cut2 {a b c d e f : V} : cutV [a, b, c, d, e, f] none (some 2) = [a, b] := rfl
theorem cut3 {a b c d e f : V} : cutV [a, b, c, d, e, f] none (some 3) = [a, b, c] := rfl
theorem cut4 {a b c d e f : V} : cutV [a, b, c, d, e, f] none (some 4) = [a, b, c, d] := rfl
theorem cut5 {a b c d e f : V} : cutV [a, b, c, d, e, f] none (some 5) = [a, b, c, d, e] := rfl
end SC

set_option Elab.async false
set_option linter.all false
set_option maxRecDepth 100000
set_option maxHeartbeats 4000000
/-! Values of any kind, what a check of one answers, errors without a text. -/
namespace SC
open PySem PySem.Spec PyProof.Rows L2
/-- what a caller may hand -/
inductive Kd (H : Hp) : V → Prop where
  | int (i : Int) : Kd H (.int i)
  | bl (b : Bool) : Kd H (.bl b)
  | non : Kd H .non
  | str (s : Str) : Kd H (.str s)
  | lst {a : Addr} {xs : List V} (e : H a = some (.lst xs)) : Kd H (.ref a)
  | tup {a : Addr} {xs : List V} (e : H a = some (.tup xs)) : Kd H (.ref a)
  | dic {a : Addr} {kvs : List (Key × V)} (e : H a = some (.dK kvs)) : Kd H (.ref a)
theorem Kd.same {H H' : Hp} {v : V} (h : Kd H v) (s : Sm H H') : Kd H' v := by
  cases h with
  | int i => exact .int i
  | bl b => exact .bl b
  | non => exact .non
  | str s => exact .str s
  | lst e => exact .lst (s _ _ e)
  | tup e => exact .tup (s _ _ e)
  | dic e => exact .dic (s _ _ e)
def isI : V → Bool
  | .int _ => true
  | _ => false
def iv : V → Int
  | .int i => i
  | _ => 0
def isB : V → Bool
  | .bl _ => true
  | _ => false
def inR (v : V) (l h : Int) : Bool := match v with
  | .int i => decide (l ≤ i ∧ i ≤ h)
  | _ => false
section
variable {K : PySem.W.Frag} {H : Hp} {Q : VK} {v : V}
theorem w_isInt (h : Kd H v) (k : Q (.bl (isI v || isB v)) H) : rIsi K [v, .ty "int"] H Q := by
  cases h with
  | int i => exact ⟨_, _, _, _, true, rfl, .ty _, .base (.int i), kit_ty (by decide +kernel), k⟩
  | bl b => exact ⟨_, _, _, _, true, rfl, .ty _, .base (.bl b), kit_ty (by decide +kernel), k⟩
  | non => exact ⟨_, _, _, _, false, rfl, .ty _, .base .non, kit_ty (by decide +kernel), k⟩
  | str s => exact ⟨_, _, _, _, false, rfl, .ty _, .base (.str s), kit_ty (by decide +kernel), k⟩
  | lst e => exact ⟨_, _, _, _, false, rfl, .ty _, .base (.lst e), kit_ty (by decide +kernel), k⟩
  | tup e => exact ⟨_, _, _, _, false, rfl, .ty _, .base (.tup e), kit_ty (by decide +kernel), k⟩
  | dic e => exact ⟨_, _, _, _, false, rfl, .ty _, .base (.dK e), kit_ty (by decide +kernel), k⟩
theorem w_isBool (h : Kd H v) (k : Q (.bl (isB v)) H) : rIsi K [v, .ty "bool"] H Q := by
  cases h with
  | int i => exact ⟨_, _, _, _, false, rfl, .ty _, .base (.int i), kit_ty (by decide +kernel), k⟩
  | bl b => exact ⟨_, _, _, _, true, rfl, .ty _, .base (.bl b), kit_ty (by decide +kernel), k⟩
  | non => exact ⟨_, _, _, _, false, rfl, .ty _, .base .non, kit_ty (by decide +kernel), k⟩
  | str s => exact ⟨_, _, _, _, false, rfl, .ty _, .base (.str s), kit_ty (by decide +kernel), k⟩
  | lst e => exact ⟨_, _, _, _, false, rfl, .ty _, .base (.lst e), kit_ty (by decide +kernel), k⟩
  | tup e => exact ⟨_, _, _, _, false, rfl, .ty _, .base (.tup e), kit_ty (by decide +kernel), k⟩
  | dic e => exact ⟨_, _, _, _, false, rfl, .ty _, .base (.dK e), kit_ty (by decide +kernel), k⟩
end
section
variable {X : Cx} {C : Addr} {bmB : List Value} {B newId initId : String}
/-- X(), X an own error without own __init__ -/
theorem pmk_own0 {x : Str} {p pos : Pos} (F : ExcBaseFacts B newId initId bmB) (q : PySem.W.excIn X.K C bmB newId = true) (gC : X.mg x = some (.ref C)) (kC : PySem.W.keepIn X.K (.ref C) = true) (r : Raises X (.ref C)) (hg : Gl X x)
    (hdb : (x == ("__debug__" : Str)) = false := by decide) : PMk X (.Call (.Name x p) [] [] pos) (fun _ H Q => Q (.ref C) none H) := by
  intro pins s σ H Q I h
  refine wpAny_Call_Name_kw (ld_glob I hg gC ?_ hdb)
  refine PySem.W.callWith_K0 I.kIn kC ?_
  show wpAny _ _ (call (.ref C) []) _ _ _
  obtain ⟨bm, N, nm, qn, bs, hdct, sn, sub, ab, col, dd, k0, k1, k2, k3, k5, mN, hC, hN, hni, T⟩ := exc_obj I.kIn q
  exact wpAny_call_exc_subT F T hC hN hni (fun h' e hm => mk_of I hm r h (I.hok.gone hm.new)) (Nat.zero_le _)
end
section
variable {σ : L2.St} {H : Hp} {Q : VK} {sp : Sp} {E : L2.St → XK} {t : TA} {C : Addr} {D : Ends}
theorem w_callS (k : t σ H fun vs H1 => sp vs H1 Q (E σ)) : tCallS sp E t σ H Q := k
end
/-! promises of checks -/
def SpIsI : Sp := fun vs H Q _ => ∃ v, vs = [v] ∧ Kd H v ∧ ∀ H', Sm H H' → Q (.bl (isI v)) H'
theorem w_isI {H : Hp} {Q : VK} {E : XK} {v : V} (h : Kd H v) (q : ∀ H', Sm H H' → Q (.bl (isI v)) H') : SpIsI ([v] ++ []) H Q E := ⟨v, rfl, h, q⟩
def SpBet : Sp := fun vs H Q _ => ∃ v l h, vs = [v, .int l, .int h] ∧ Kd H v ∧ ∀ H', Sm H H' → Q (.bl (inR v l h)) H'
theorem w_bet {H : Hp} {Q : VK} {E : XK} {v : V} {l h : Int} (hv : Kd H v) (q : ∀ H', Sm H H' → Q (.bl (inR v l h)) H') : SpBet ([v, .int l, .int h] ++ []) H Q E := ⟨v, l, h, rfl, hv, q⟩
/-- how a def ends: with a value, or with an error of the class at C -/
inductive Out where
  | val (v : V)
  | err (C : Addr)
def Out.to (o : Out) (Q : VK) (E : XK) (H : Hp) : Prop := match o with
  | .val v => Q v H
  | .err C => E (.ref C) none H
/-- any values of some form: the end that f says, all that was being left as it was -/
def SpOut (n : Nat) (pre : List V → Prop) (f : List V → Out) : Sp := fun vs H Q E => vs.length = n ∧ pre vs ∧ (∀ v ∈ vs, Kd H v) ∧ ∀ H', Sm H H' → (f vs).to Q E H'
theorem w_out {n : Nat} {pre : List V → Prop} {f : List V → Out} {vs : List V} {H : Hp} {Q : VK} {E : XK} (hp : pre vs) (hk : ∀ v ∈ vs, Kd H v) (q : ∀ H', Sm H H' → (f vs).to Q E H') (hl : vs.length = n := by rfl) : SpOut n pre f vs H Q E := ⟨hl, hp, hk, q⟩
theorem out_if {c : Bool} {C : Addr} {Q : VK} {E : XK} {H : Hp} {v : V} (h1 : c = true → Q v H) (h2 : c = false → E (.ref C) none H) : (if c = true then Out.val v else .err C).to Q E H := by
  cases c with
  | true => exact h1 rfl
  | false => exact h2 rfl
theorem out_yes {c : Bool} {C : Addr} {Q : VK} {E : XK} {H : Hp} {o : Out} (k : (if c = true then o else .err C).to Q E H) (e : c = true) : o.to Q E H := by
  subst e
  exact k
theorem out_no {c : Bool} {C : Addr} {Q : VK} {E : XK} {H : Hp} {o : Out} (k : (if c = true then o else .err C).to Q E H) (e : c = false) : E (.ref C) none H := by
  subst e
  exact k
theorem inR_int {v : V} {l h : Int} (e : inR v l h = true) : ∃ i, v = .int i ∧ l ≤ i ∧ i ≤ h := by
  cases v with
  | int i => exact ⟨i, rfl, of_decide_eq_true e⟩
  | _ => cases e
theorem w_ifn' {c : Bool} {A B : Prop} (h1 : c = false → A) (h2 : c = true → B) : if (!c) = true then A else B := by
  cases c with
  | true => exact h2 rfl
  | false => exact h1 rfl
theorem w_ifb {c : Bool} {A B : Prop} (h1 : c = true → A) (h2 : c = false → B) : if c = true then A else B := by
  cases c with
  | true => exact h1 rfl
  | false => exact h2 rfl
end SC

set_option Elab.async false
set_option linter.all false
set_option maxHeartbeats 1000000
/-! A cup and the cup of one round more: plain mathematics. -/
namespace SC
open L2
theorem place_double {m s : Int} (hm : 0 ≤ m) (h1 : 1 ≤ s) (h2 : s ≤ p2 (m + 1)) : placeOf (m + 1) s = 2 * placeOf m (fold1 (p2 m) s) + (if p2 m < s then 1 else 0) := by
  obtain ⟨_, e⟩ := pl_shift (k := m + 1) h1 h2 (r := 1) (by omega) m.toNat
  have e1 : m + 1 - 1 - ((0 : Nat) : Int) = m := by omega
  have w1 : wy (m + 1) s 1 = fold1 (p2 m) s := by
    show fold1 (p2 (m + 1 - 1 - ((0 : Nat) : Int))) s = _
    rw [e1]
  have l1 : pl (m + 1) s 1 = if p2 m < s then 1 else 0 := by
    show (if p2 (m + 1 - 1 - ((0 : Nat) : Int)) < s then 0 + p2 ((0 : Nat) : Int) else 0) = _
    rw [e1, show p2 ((0 : Nat) : Int) = 1 from p2_zero, Int.zero_add]
  have p1 : p2 ((1 : Nat) : Int) = 2 := by
    have := p2_succ (k := 0) (by omega)
    rw [p2_zero] at this
    exact this
  unfold placeOf
  rw [show (m + 1).toNat = 1 + m.toNat by omega, e, w1, l1, p1, show m + 1 - ((1 : Nat) : Int) = m by omega]
  omega
theorem place_low {m s : Int} (hm : 0 ≤ m) (h1 : 1 ≤ s) (h2 : s ≤ p2 m) : placeOf (m + 1) s = 2 * placeOf m s := by
  have e := p2_succ (k := m) hm
  rw [place_double hm h1 (by have := p2_pos m; omega), fold1, if_neg (by omega), if_neg (by omega)]
  omega
theorem place_mate {m s : Int} (hm : 0 ≤ m) (h1 : 1 ≤ s) (h2 : s ≤ p2 m) : placeOf (m + 1) (2 * p2 m + 1 - s) = 2 * placeOf m s + 1 := by
  have e := p2_succ (k := m) hm
  rw [place_double hm (by omega) (by omega), fold1, if_pos (by omega), if_pos (by omega), show 2 * p2 m + 1 - (2 * p2 m + 1 - s) = s by omega]
theorem seed_low {m s : Int} (hm : 0 ≤ m) (h1 : 1 ≤ s) (h2 : s ≤ p2 m) : seedAt (m + 1) (2 * placeOf m s) = s := by
  have e := p2_succ (k := m) hm
  rw [← place_low hm h1 h2]
  exact seed_place h1 (by omega) (by omega)
theorem seed_mate {m s : Int} (hm : 0 ≤ m) (h1 : 1 ≤ s) (h2 : s ≤ p2 m) : seedAt (m + 1) (2 * placeOf m s + 1) = 2 * p2 m + 1 - s := by
  have e := p2_succ (k := m) hm
  rw [← place_mate hm h1 h2]
  exact seed_place (by omega) (by omega) (by omega)
/-- a block and the two below it -/
theorem blk_below {m s : Int} (hm : 0 < m) (h1 : 1 ≤ s) : blk (2 * m) s = blk m s ∨ blk (2 * m) s = 2 * m + 1 - blk m s := by
  have e := blk_fold hm h1
  unfold fold1 at e
  split at e
  · right; omega
  · left; exact e.symm
theorem blk_above {m s : Int} (hm : 0 < m) (h1 : 1 ≤ s) : blk m s = blk (2 * m) s ∨ blk m s = 2 * m + 1 - blk (2 * m) s := by
  have e := blk_fold hm h1
  unfold fold1 at e
  split at e
  · right; exact e
  · left; exact e
/-- a member of a half is a member of the block -/
theorem half_in {m b x : Int} (hm : 0 < m) (hb : 1 ≤ b) (hb2 : b ≤ m) (h1 : 1 ≤ x) (hx : blk (2 * m) x = b ∨ blk (2 * m) x = 2 * m + 1 - b) : blk m x = b := by
  have e := blk_fold hm h1
  unfold fold1 at e
  split at e <;> omega
/-- the first members of the two halves: their places -/
theorem halves_low {n h b : Int} (h1 : 1 ≤ h) (h2 : h ≤ n) (hb : 1 ≤ b) (hb2 : b ≤ p2 (n - h)) : placeOf n b / p2 (h - 1) = 2 * placeOf (n - h) b ∧ placeOf n b / p2 h = placeOf (n - h) b := by
  have up := p2_succ (k := n - h) (by omega)
  have le := p2_le (k := n - h + 1) (l := n) (by omega)
  have e1 := place_div (k := n) (s := b) (h := h - 1) (by omega) hb (by omega) (by omega) (by omega)
  have e2 := place_div (k := n) (s := b) (h := h) (by omega) hb (by omega) (by omega) (by omega)
  rw [show n - (h - 1) = n - h + 1 by omega, blk_top hb (by omega), place_low (by omega) hb hb2] at e1
  rw [blk_top hb hb2] at e2
  exact ⟨e1, e2⟩
theorem halves_high {n h b : Int} (h1 : 1 ≤ h) (h2 : h ≤ n) (hb : 1 ≤ b) (hb2 : b ≤ p2 (n - h)) : placeOf n (2 * p2 (n - h) + 1 - b) / p2 (h - 1) = 2 * placeOf (n - h) b + 1 ∧ placeOf n (2 * p2 (n - h) + 1 - b) / p2 h = placeOf (n - h) b := by
  have up := p2_succ (k := n - h) (by omega)
  have le := p2_le (k := n - h + 1) (l := n) (by omega)
  have e1 := place_div (k := n) (s := 2 * p2 (n - h) + 1 - b) (h := h - 1) (by omega) (by omega) (by omega) (by omega) (by omega)
  have e2 := place_div (k := n) (s := 2 * p2 (n - h) + 1 - b) (h := h) (by omega) (by omega) (by omega) (by omega) (by omega)
  rw [show n - (h - 1) = n - h + 1 by omega, blk_top (by omega) (by omega), place_mate (by omega) hb hb2] at e1
  have mi := blk_mirror (m := p2 (n - h)) (x := b) (n := 1) (p2_pos _)
  rw [Int.one_mul] at mi
  rw [mi, blk_top hb hb2] at e2
  exact ⟨e1, e2⟩
/-- the rule of the triangular numbers -/
theorem tri_rule {a b j : Int} (hj : 0 ≤ j) : (tri a - tri b) % p2 j = 0 ↔ blk (p2 j) a = blk (p2 j) b := by
  obtain ⟨n, rfl⟩ := Int.eq_ofNat_of_zero_le hj
  rw [← tri_blk n, show p2 (n : Int) = 2 ^ n by unfold p2; simp]
  exact ⟨Int.dvd_of_emod_eq_zero, Int.emod_eq_zero_of_dvd⟩
end SC

set_option Elab.async false
set_option linter.all false
set_option maxRecDepth 100000
set_option maxHeartbeats 4000000
/-! Steps that find their own facts: chains of heaps by what stands in the context. -/
namespace SC
open PySem PySem.Spec PyProof.Rows L2
theorem same_at {A H : Hp} {p : Addr} {o : HO} [NT o] (s : Sm A H) (h : A p = some o) : H p = some o := s _ _ h
theorem kp_at {a : Addr} {A H : Hp} {p : Addr} {o : HO} [NT o] (g : Kp a A H) (n : p ≠ a) (h : A p = some o) : H p = some o := g _ _ n h
theorem upd_at {A : Hp} {p q : Addr} {o u : HO} (n : p ≠ q) (h : A p = some o) : upd A q u p = some o := by rw [upd_ne n]; exact h
theorem ne_new {H : Hp} {p q : Addr} {o : HO} (h : H p = some o) (hq : H q = none) : p ≠ q := ne_of_none h hq
theorem src_ne {a p : Addr} {N : Int} {H : Hp} (s : Src a N H) (hp : H p = none) : p ≠ a := s.ne hp
theorem same_src {a : Addr} {N : Int} {H H' : Hp} (g : Sm H H') (s : Src a N H) : Src a N H' := s.same g
theorem big_abs0 {b : Int} (h0 : 0 ≤ b) (h : b < BIG) : b.natAbs < 2 ^ 2000 := by
  by_cases z : b = 0
  · subst z
    exact Nat.pow_pos (by decide)
  · exact big_abs (by omega) h
theorem same_seq {K : PySem.W.Frag} {H H' : Hp} {a : Addr} {xs : List V} (e : Sm H H') (h : SqL K H a xs) : SqL K H' a xs := e.seq h
theorem sq_of {K : PySem.W.Frag} {H : Hp} {a : Addr} {xs : List V} (h : H a = some (.lst xs)) : SqL K H a xs := .inl (.inl h)
theorem sqT_of {K : PySem.W.Frag} {H : Hp} {a : Addr} {xs : List V} (h : H a = some (.tup xs)) : SqT K H a xs := .inl (.inl h)
theorem cdivB {i b : Int} (h0 : 0 < b) (h : b < BIG) : CDivW i b := wide_div h0 (big_abs h0 h) (by decide) (by decide)
theorem cmulB {i j : Int} (h0 : 0 ≤ i) (h : i < BIG) (j0 : 0 ≤ j) (hj : j < BIG) : CMulX i j := mulx_ok (a := 2000) (b := 2000) (big_abs0 h0 h) (big_abs0 j0 hj) (by decide)
/-- how many of the seeds 1 to l are in group b -/
def cnt (m b l : Int) : Int := if turned m (l / m) b ≤ l % m then l / m + 1 else l / m
end SC
namespace SC
open PySem PySem.Spec PyProof.Rows L2
theorem wide_lim {b : Int} (h : b ≤ 10 ^ 300) : b < BIG := Int.lt_of_le_of_lt h (by decide +kernel)
/-- repr of a bool -/
def rReprB : List V → Hp → VK → Prop := fun xs H Q => ∃ b : Bool, xs = [.bl b] ∧ Q (.str (if b then "True" else "False")) H
theorem c_reprB {X : Cx} : CallR X (.builtin "repr") rReprB := by
  intro pins s σ H xs us Q I r h
  obtain ⟨i, rfl, q⟩ := h
  obtain ⟨u, rfl, r1⟩ := vals1 r
  cases r1
  exact PySem.P.repr_of_bool ⟨.str _, H, I.tok _, ⟨_, rfl⟩, q⟩
theorem w_reprB {H : Hp} {Q : VK} {b : Bool} (k : Q (.str (if b then "True" else "False")) H) : rReprB [.bl b] H Q := ⟨b, rfl, k⟩
theorem w_eqS {H : Hp} {Q : VK} {x y : Str} (k : Q (.bl (decide (x = y))) H) : rEq (.str x) (.str y) H Q := ⟨rfl, by
  have e : decide (V.str x = V.str y) = decide (x = y) := by simp
  rw [e]; exact k⟩
theorem dp_bools {K : PySem.W.Frag} {H : Hp} : ∀ ns : List Bool, DpAll K H (ns.map V.bl) (ns.map PyData.bool)
  | [] => .nil
  | n :: ns => .cons (.bl n) (dp_bools ns)
theorem lay_bools : ∀ ns : List Bool, PyData.canLayAll0 (ns.map PyData.bool) = true
  | [] => rfl
  | n :: ns => by simp only [List.map_cons, PyData.canLayAll0, PyData.canLay0, lay_bools ns, Bool.and_self]
theorem dep_bools : ∀ ns : List Bool, PyData.depthAll (ns.map PyData.bool) ≤ 1
  | [] => by simp [PyData.depthAll]
  | n :: ns => by
    have := dep_bools ns
    simp only [List.map_cons, PyData.depthAll, PyData.depth]
    omega
theorem shaped_bools (ns : List Bool) : SeqAt.shaped (.list (ns.map PyData.bool)) = true := by
  unfold SeqAt.shaped
  have h1 := lay_bools ns
  have h2 := dep_bools ns
  rw [Bool.and_eq_true]
  refine ⟨by simpa only [PyData.canLay0] using h1, decide_eq_true ?_⟩
  simp only [PyData.depth]
  omega
theorem w_neLb {K : PySem.W.Frag} {H : Hp} {Q : VK} {p q : Addr} (xs ys : List Bool) (h1 : SqL K H p (xs.map V.bl)) (h2 : SqL K H q (ys.map V.bl)) (e : xs = ys) (k : Q (.bl false) H) : rNeD K (.ref p) (.ref q) H Q := by
  subst e
  exact w_neDs (.lst h1 (dp_bools xs)) (.lst h2 (dp_bools xs)) (shaped_bools xs) k
/-- the sum of the first seeds of a group -/
def gsum (m b c : Int) : Int := c / 2 * (2 * m * (c / 2) + 1) + (if c % 2 = 1 then mem m b (c - 1) else 0)
theorem gsum_step {m b c : Int} : gsum m b (c + 1) - gsum m b c = mem m b c := by
  unfold gsum mem turned
  by_cases h : c % 2 = 0
  · have e1 : (c + 1) / 2 = c / 2 := by omega
    rw [e1, if_pos (show (c + 1) % 2 = 1 by omega), if_neg (show ¬ c % 2 = 1 by omega), if_pos h, show c + 1 - 1 = c by omega, if_pos h]
    omega
  · have e1 : (c + 1) / 2 = c / 2 + 1 := by omega
    rw [e1, if_neg (show ¬ (c + 1) % 2 = 1 by omega), if_pos (show c % 2 = 1 by omega), if_neg h, if_pos (show (c - 1) % 2 = 0 by omega)]
    obtain ⟨q, rfl⟩ : ∃ q, c = 2 * q + 1 := ⟨c / 2, by omega⟩
    rw [show (2 * q + 1) / 2 = q by omega]
    grind
theorem gsum_even {m b h : Int} : gsum m b (2 * h) = h * (2 * m * h + 1) := by
  unfold gsum
  rw [if_neg (by omega), show 2 * h / 2 = h by omega]
  omega
theorem gsum_bound {m b c : Int} (h0 : 0 ≤ m) (hm : m ≤ 10 ^ 41) (b1 : 1 ≤ b) (bm : b ≤ m) (c0 : 0 ≤ c) (hc : c ≤ 10 ^ 41) : 0 ≤ gsum m b c ∧ gsum m b c ≤ 10 ^ 130 := by
  have g1 : 0 ≤ m * (c / 2) := Int.mul_nonneg h0 (by omega)
  have g2 : m * (c / 2) ≤ 10 ^ 41 * 10 ^ 41 := Int.mul_le_mul hm (by omega) (by omega) (by decide)
  have g3 : 0 ≤ c / 2 * (2 * m * (c / 2) + 1) := Int.mul_nonneg (by omega) (by rw [Int.mul_assoc]; omega)
  have g4 : c / 2 * (2 * m * (c / 2) + 1) ≤ 10 ^ 41 * (10 ^ 83) := Int.mul_le_mul (by omega) (by rw [Int.mul_assoc]; omega) (by rw [Int.mul_assoc]; omega) (by decide)
  have g5 : -1 ≤ c - 1 := by omega
  unfold gsum mem turned
  by_cases h : c % 2 = 1
  · have g6 : 0 ≤ (c - 1) * m := Int.mul_nonneg (by omega) h0
    have g7 : (c - 1) * m ≤ 10 ^ 41 * 10 ^ 41 := Int.mul_le_mul (by omega) hm h0 (by decide)
    rw [if_pos h, if_pos (by omega)]
    omega
  · rw [if_neg h]
    omega
end SC
namespace SC
open PySem PySem.Spec PyProof.Rows L2
section
variable {K : PySem.W.Frag} {H : Hp} {Q : VK} {a b : Bool} {p : Addr}
theorem w_isB (k : Q (.bl (decide (a = b))) H) : rIsB (.bl a) (.bl b) H Q := ⟨a, b, rfl, rfl, k⟩
theorem w_isnotB (k : Q (.bl (!decide (a = b))) H) : rNotB (.bl a) (.bl b) H Q := ⟨a, b, rfl, rfl, k⟩
theorem w_isN {x : V} (k : Q (.bl (decide (x = .non))) H) : rIsN x .non H Q := ⟨rfl, k⟩
theorem w_isnotN {x : V} (k : Q (.bl (!decide (x = .non))) H) : rNotN x .non H Q := ⟨rfl, k⟩
theorem inV_int {x : Int} : ∀ ns : List Int, inV (.int x) (ns.map V.int) = decide (x ∈ ns)
  | [] => rfl
  | n :: ns => by
    have ih := inV_int (x := x) ns
    simp only [List.map_cons, inV, List.any_cons] at ih ⊢
    rw [ih]
    by_cases h : x = n
    · subst h
      simp [eqV]
    · simp [eqV, h, Ne.symm h]
theorem flat_ints : ∀ ns : List Int, (ns.map V.int).all flatV = true
  | [] => rfl
  | n :: ns => by
    simp only [List.map_cons, List.all_cons, flat_ints ns, Bool.and_true]
    rfl
theorem w_inI (ns : List Int) {x : Int} (h : SqL K H p (ns.map V.int)) (k : Q (.bl (decide (x ∈ ns))) H) : rIn K false (.int x) (.ref p) H Q :=
  ⟨p, _, rfl, .inl h, rfl, flat_ints ns, by rw [inV_int]; exact k⟩
theorem w_ninI (ns : List Int) {x : Int} (h : SqL K H p (ns.map V.int)) (k : Q (.bl (!decide (x ∈ ns))) H) : rIn K true (.int x) (.ref p) H Q :=
  ⟨p, _, rfl, .inl h, rfl, flat_ints ns, by rw [inV_int]; exact k⟩
end
theorem w_newZ {H : Hp} {Q : VK} {xs : List V} (hz : xs.length ≤ 1000000) (k : ∀ p H', Sm H H' → H p = none → H' p = some (.lst xs) → Q (.ref p) H') : NewL xs H Q := w_new k hz
theorem w_newTZ {H : Hp} {Q : VK} {xs : List V} (hz : xs.length ≤ 1000000) (k : ∀ p H', Sm H H' → H p = none → H' p = some (.tup xs) → Q (.ref p) H') : NewT xs H Q := w_newT k hz
theorem src_upd {a p : Addr} {N : Int} {H : Hp} {o : HO} (h : p ≠ a) (s : Src a N H) : Src a N (upd H p o) := s.upd h
theorem ne_src {a p : Addr} {N : Int} {H : Hp} (hp : H p = none) (s : Src a N H) : p ≠ a := s.ne hp
theorem ne_new' {H : Hp} {p q : Addr} {o : HO} (hq : H q = none) (h : H p = some o) : p ≠ q := ne_of_none h hq
theorem ifNT {A B : Prop} (h : B) : if (!true) = true then A else B := iteF' rfl h
theorem ifNF {A B : Prop} (h : A) : if (!false) = true then A else B := iteT' rfl h
end SC

set_option Elab.async false
set_option linter.all false
set_option maxRecDepth 100000
set_option maxHeartbeats 4000000
/-! repr of lists: promises of defs around which no repr is under way, down from the law's own call. -/
namespace SC
open PySem PySem.Spec PyProof.Rows L2 StX
/-- a def's promise, told for arounds in which no repr is under way -/
def FnG (P : Program) (w : World) (K : PySem.W.Frag) (mg : Str → Option Value) (base : Heap) (CX : CXT) (k : Nat) (f : Addr) (fd : FuncData) (ps : List Str) (sp : Sp) : Prop :=
  (∀ vs H Q E, sp vs H Q E → vs.length = ps.length) ∧
  ∀ (A : Around) (outer : List Env) (s : Shared) (H : Hp) (args : Args) (us : List Value) (vs : List V) (Q : VK) (E : XK), A.guards = some [] → Room k A → Env0 P w K mg base A outer s H → BindsTo s fd args (ps.zip us) → Vals vs us → sp vs H Q E →
    codeAny (model P w) A (.call (.ref f) args) (CR CX outer P w H s Q E) s
section
variable {P : Program} {w : World} {K : PySem.W.Frag} {mg : Str → Option Value} {base : Heap}
theorem okG {x qual : Str} {st : Stmt} {f : Addr} {fd : FuncData} {N ps : List Str} {k : Nat} {sp : Sp} (F : Fun K x qual st f fd) (S : FnScope N ps (defScope st)) (len : ∀ vs H Q E, sp vs H Q E → vs.length = ps.length)
    (hbody : ∀ (cdv : Value) (A : Around) (outer : List Env) (s : Shared) (H : Hp) (vs : List V) (Q : VK) (E : XK), (A.deeper (envOfC qual (defScope st) s.heap.objs.size f cdv)).guards = some [] → Room k (A.deeper (envOfC qual (defScope st) s.heap.objs.size f cdv)) → sp vs H Q E →
      ∃ t, PSs (cxOf CX0 P w K mg base N qual (defScope st) f cdv A outer s H E).nox (defBody st) t ∧ t { nx := fun _ H' => Q .non H', rt := Q } (start N vs) H) : FnG P w K mg base CX0 (k + 1) f fd ps sp := by
  obtain ⟨oc, od, kV, doc, pm, an, cdv, ct, osl, rfl, lk, hcd⟩ := F.ex
  refine ⟨len, fun A outer s H args us vs Q E hg hr e0 hb r hsp => ?_⟩
  refine run_bnd lk hcd S hr e0 (G := fun xs H2 => xs = vs ∧ H2 = H) (fun A' Ex Q' h => ?_) fun s2 H2 xs ⟨e1, e2⟩ hr' => ?_
  · exact hb _ _ _ _ (h s H vs us e0 .refl rfl (fun _ _ z => z) r (len _ _ _ _ hsp) ⟨rfl, rfl⟩)
  · subst e1 e2
    obtain ⟨t, h, q⟩ := hbody cdv A outer s2 _ _ Q E (by simpa [Around.deeper] using hg) hr' hsp
    exact ⟨t, h.nox, q⟩
end
section
variable {X : Cx} {CX : CXT} {k : Nat} {f : Addr} {fd : FuncData} {ps : List Str} {sp : Sp} {ds : List Value} {dvs : List V} {E : XK} {x : Str} {p pos : Pos} {e : Expr} {es : List Expr} {t : TA}
/-- repr of a list or a tuple of plain data -/
def rReprD (K : PySem.W.Frag) : List V → Hp → VK → Prop := fun xs H Q => ∃ (a : Addr) (d : PyData), xs = [.ref a] ∧ Dp K H (.ref a) d ∧ d.showable = true ∧ d.hasDict = false ∧ d.depth ≤ 60 ∧ d.shown.length ≤ sizeLine ∧ Q (.str d.shown) H
theorem call_reprD (hg : X.A.guards = some []) (hu : X.A.units + 64 < cLine) : CallR X (.builtin "repr") (rReprD X.K) := by
  intro pins s σ H xs us Q I r h
  obtain ⟨a, d, rfl, hd, sh, nd, hz, hl, q⟩ := h
  obtain rfl := Vals.ref1 r
  obtain ⟨as, rd⟩ := Dp.reads I d _ _ hd (show RelV (.ref a) (.ref a) from rfl)
  exact PySem.repr_of_reads' rd sh (fun z => by rw [nd] at z; cases z) hg (by omega) (fun _ _ e => e) (fun h' u tk hk => ⟨.str d.shown, H, I.kept hk, ⟨u, rfl⟩, q⟩) hl
theorem w_repr {K : PySem.W.Frag} {H : Hp} {Q : VK} {a : Addr} {d : PyData} (h : Dp K H (.ref a) d) (h1 : d.showable = true) (h2 : d.hasDict = false) (h3 : d.depth ≤ 60) (h4 : d.shown.length ≤ sizeLine) (k : Q (.str d.shown) H) : rReprD K [.ref a] H Q := ⟨a, d, rfl, h, h1, h2, h3, h4, k⟩
end
section
variable {X : Cx} {CX : CXT} {k : Nat} {f : Addr} {fd : FuncData} {ps : List Str} {sp : Sp} {E : XK} {x : Str} {p pos : Pos} {e : Expr} {es : List Expr} {t : TA}
/-- f(e, ..), f's promise told for arounds in which no repr is under way -/
theorem pe_callG (F : FnG X.prog X.w X.K X.mg X.base CX k f fd ps sp) (hgd : X.A.guards = some []) (hr : Room k X.A) (hg : Gl X x) (hm : X.mg x = some (.ref f)) (hk : PySem.W.keepIn X.K (.ref f) = true) (hb : Binds X.K fd ps []) (hx : Passes CX X E)
    (ha : PA X (e :: es) t) (hdb : (x == ("__debug__" : Str)) = false := by decide) (he : starEach (e :: es) X.env = (false, eval e X.env) :: starEach es X.env := by rfl) (hpl : (backTo pos (starEach es X.env)).any (·.1) = false := by rfl) :
    PE X (.Call (.Name x p) (e :: es) [] pos) (tCall sp [] E t) := by
  refine ⟨fun pins s σ H Q I h => ?_⟩
  refine wpAny_Call_Name_kw (ld_glob I hg hm ?_ hdb)
  refine PySem.W.callWith_K (h₀ := X.base) I.ok.mod.kin hk (thn (ha.run pos pins s σ H _ I h) fun us s1 ⟨vs, H1, I1, r, q⟩ => ⟨I1.kIn, ?_⟩) he hpl
  have q' : sp vs H1 Q E := by simpa using q
  have hl : us.length = ps.length := by rw [← r.length]; exact F.1 _ _ _ _ q'
  have b := hb s1 us I1.kIn (by rw [List.append_nil]; exact hl)
  rw [List.append_nil] at b
  refine wpAny_call (codeAny_mono (F.2 X.A X.stack s1 H1 ⟨us, []⟩ us vs Q E hgd hr I1.env0 b r q') fun r s' hq => ?_)
  match r, hq with
  | .error e, hq => exact hx pins σ H1 s1 e s' I1 hq
  | .ok (.ret u), hq => exact I1.after hq
  | .ok .next, hq => exact False.elim hq
  | .ok .brk, hq => exact False.elim hq
  | .ok .cont, hq => exact False.elim hq
end
/-! ### the law's own call -/
/-- what the law may see of the heap: its script, unless the top made that very list -/
def scriptHp (K : PySem.W.Frag) (a : Addr) (o : HO) : Hp := fun b => if b = a ∧ (K.lookup a).isNone = true then some o else none
theorem scriptHp_some {K : PySem.W.Frag} {a b : Addr} {o u : HO} (h : scriptHp K a o b = some u) : b = a ∧ u = o ∧ K.lookup a = none := by
  unfold scriptHp at h
  split at h
  · rename_i c
    exact ⟨c.1, (Option.some.inj h).symm, Option.isNone_iff_eq_none.mp c.2⟩
  · cases h
theorem law_runG {P : Program} {w : World} {K : PySem.W.Frag} {mg mb : Str → Option Value} {k : Nat} {fa a : Addr} {fd : FuncData} {x : Str} {sp : Sp} {s₁ : Shared} {vs : List Value} {ns : List Int}
    (KX : K.In s₁.heap) (hns : s₁.heap.Ns mainGlobals mg) (hb : s₁.heap.Ns builtinsNs mb) (hbb : ∀ x : Str, x ≠ "__name__" → mb x = bootBuiltins x) (hlim : s₁.heap.NoLimit) (hg : s₁.gens = #[])
    (ha : s₁.heap.get? a = some { cls := .type "list", data := .seq vs.toArray }) (hi : IntsAre vs ns) (hl : ns.length ≤ sizeLine) (hr : Room k callerA)
    (F : ∀ base : Heap, K.In base → base.Ns mainGlobals mg → FnG P w K mg base CX0 k fa fd [x] sp) (hbind : ∀ (s : Shared) (u : Value), BindsTo s fd ⟨[u], []⟩ [(x, u)])
    (hsp : ∀ H : Hp, Only H → SqL K H a (ns.map V.int) → sp [.ref a] H (fun v _ => v = .bl true) fun _ _ _ => False) :
    codeAny (model P w) callerA (.call (.ref fa) ⟨[.ref a], []⟩) (fun r s' => r = .ok (.ret (.bool true)) ∧ OldK s₁.heap s'.heap ∧ s'.os = s₁.os ∧ AllBare s'.gens) s₁ := by
  have rv := vals_ints hi
  have hlen := hi.length
  generalize eo : HO.frz { cls := .type "list", data := .seq vs.toArray } (.lst (ns.map V.int)) = fz
  generalize eH : scriptHp K a fz = H
  have only : Only H := fun b => by
    rw [← eH]
    unfold scriptHp
    split
    · exact .inr ⟨_, _, by rw [← eo]⟩
    · exact .inl rfl
  have sees : ∀ {b : Addr} {u : HO}, H b = some u → b = a ∧ u = fz ∧ K.lookup a = none := fun h => scriptHp_some (by rw [eH]; exact h)
  have seq : SqL K H a (ns.map V.int) := by
    cases hk : K.lookup a with
    | none => exact .inl (.inr ⟨{ cls := .type "list", data := .seq vs.toArray }, by rw [← eH, eo]; exact if_pos ⟨rfl, by rw [hk]; rfl⟩⟩)
    | some o =>
      have e := KX a o hk
      rw [ha] at e
      cases e
      exact .inr ⟨_, vs.toArray, _, hk, rfl, rfl, rfl, by rw [List.size_toArray, hlen]; exact hl, by simpa using rv⟩
  have ok : HOk P w H s₁.heap := fun b u h => by
    obtain ⟨rfl, rfl, _⟩ := sees h
    rw [← eo]
    exact ⟨ha, by rw [List.length_map]; exact hl, vs, _, rv, ha⟩
  -- objects with a dict's data, and the top's own objects, are not hidden
  have free : ∀ {b : Addr} {o : Obj}, s₁.heap.get? b = some o → (∀ xs n, o.data ≠ .seq xs n) ∨ K.lookup b = some o → H b = none := fun {b o} e c => by
    cases q : H b with
    | none => rfl
    | some u =>
      obtain ⟨rfl, _, hk⟩ := sees q
      rcases c with c | c
      · rw [ha] at e
        cases e
        exact absurd rfl (c _ _)
      · rw [hk] at c
        cases c
  have ns_ : ∀ {b : Addr} {m : Str → Option Value}, s₁.heap.Ns b m → (hidT s₁.heap H).Ns b m := fun ⟨o, es, ep, e, d, r⟩ => ⟨o, es, ep, hidT_get e (free e (.inl fun xs n z => by rw [d] at z; cases z)), d, r⟩
  have inb : K.In (hidT s₁.heap H) := fun b o e => hidT_get (KX b o e) (free (KX b o e) (.inr e))
  have md : Mod K mg (hidT s₁.heap H) := ⟨inb, ns_ hns, ⟨mb, ns_ hb, hbb⟩, let ⟨mc, h1, h2⟩ := hlim; ⟨mc, ns_ h1, h2⟩⟩
  have e0 : Env0 P w K mg (hidT s₁.heap H) callerA [] s₁ H := ⟨rfl, md, fun b o e => of_hidT e, Nat.le_of_eq (hidT_size _ _), trivial, fun b hb => absurd (show b ∈ ([] : List Addr) from hb) (by simp), ok, .of_eq hg⟩
  refine codeAny_mono ((F _ inb (ns_ hns)).2 callerA [] s₁ H ⟨[.ref a], []⟩ [.ref a] [.ref a] _ _ rfl hr e0 (hbind s₁ (.ref a)) (.cons rfl .nil) (hsp H only seq)) fun r s' h => ?_
  match r, h with
  | .error e, h => exact False.elim h
  | .ok .next, h => exact False.elim h
  | .ok .brk, h => exact False.elim h
  | .ok .cont, h => exact False.elim h
  | .ok (.ret u), h =>
    obtain ⟨v, H', os, bare, un, ok', rel, ev⟩ := h
    subst ev
    obtain rfl : u = Value.bool true := rel
    refine ⟨rfl, OldK.of_keep fun b o e => ?_, os, bare⟩
    cases q : H b with
    | none => exact un.keep b o e q (by simp [frs]) (by simp)
    | some u =>
      obtain ⟨rfl, rfl, _⟩ := sees q
      rw [ha] at e
      cases e
      rw [← eo] at q
      exact (ok' b _ (un.frzs b _ _ q)).1
theorem walk_ofG {l : PySem.W.OpenLaw} {n k : Nat} {q : Program} {loose : List Str} {XP : (Str → Option Value) → Heap → Prop} {YP : World → Heap → Prop} {d : DefRec} {K : Params → PySem.W.Frag} {sp : World → Sp} {x : Str}
    (hn : l.most = some n) (hn2 : n ≤ sizeLine) (hdf : d.params.defaults = []) (hr : Room k callerA) (hY : ∀ (w : World) (h : Heap), YP w h → (K w.params).In h)
    (F : ∀ (w : World) (mg : Str → Option Value) (fa : Addr) (h : Heap), (K w.params).In h → h.Ns mainGlobals mg → mg d.name = some (.ref fa) →
      ∃ fd : FuncData, (∀ (s : Shared) (u : Value), BindsTo s fd ⟨[u], []⟩ [(x, u)]) ∧ ∀ base : Heap, (K w.params).In base → base.Ns mainGlobals mg → FnG l.prog w (K w.params) mg base CX0 k fa fd [x] (sp w))
    (hsp : ∀ (w : World) (H : Hp) (a : Addr) (ns : List Int), ns.length ≤ n → Only H → SqL (K w.params) H a (ns.map V.int) → sp w [.ref a] H (fun v _ => v = .bl true) fun _ _ _ => False) :
    PySem.W.WalkO q loose XP YP l.row.toRowW d [] (fun f vs => PySem.call f vs) := by
  refine Att.attach_call hn hdf fun w s₀ s₁ mg mb fa o pm cd doc a vs ns G Y ho hd hcd hmg hobj hints hlen hg => ?_
  obtain ⟨fd, hb, hF⟩ := F w mg fa _ (hY w _ Y) G.T.g hmg
  exact law_runG (hY w _ Y) G.T.g G.T.b G.T.builtins G.T.nolimit hg hobj hints (Nat.le_trans hlen hn2) hr hF hb fun H hO hS => hsp w H a ns hlen hO hS
end SC

set_option Elab.async false
set_option linter.all false
set_option maxRecDepth 100000
set_option maxHeartbeats 4000000
/-! Comprehensions with a test, sums, None; seeds counted. -/
namespace SC
open PySem PySem.Spec PyProof.Rows L2
section
variable {K : PySem.W.Frag} {σ : L2.St} {H : Hp} {Q : VK} {ta : TA} {tl te : TE} {vs : List Nat} {j : Nat} {g : TG} {tt : TT}
theorem w_lcr2F {l n : Int} (pf : Nat → Bool) (f : Nat → V) (h0 : -1000000 ≤ l) (h1 : l ≤ n) (h2 : n ≤ 1000000) (h3 : n - l ≤ 1000000) (hw : ∀ x, wipe ((wipe σ vs).set j (some x)) vs = wipe σ vs)
    (ht : ∀ (i : Nat) H', l + (i : Int) < n → Sm H H' → ∀ R : Bool → Hp → Prop, (∀ H2, Sm H' H2 → R (pf i) H2) → tt ((wipe σ vs).set j (some (.int (l + (i : Int))))) H' R)
    (he : ∀ (i : Nat) H', l + (i : Int) < n → pf i = true → Sm H H' → ∀ R : VK, (∀ H2, Sm H' H2 → R (f i) H2) → te ((wipe σ vs).set j (some (.int (l + (i : Int))))) H' R)
    (k : ∀ p H', Sm H H' → H p = none → H' p = some (.lst (((List.range (n - l).toNat).filter pf).map f)) → Q (.ref p) H') :
    ∃ i m : Int, [V.int l, V.int n] = [.int i, .int m] ∧ (-(2 ^ 62) ≤ i ∧ i < 2 ^ 62 ∧ -(2 ^ 62) ≤ m ∧ m < 2 ^ 62) ∧ LcB (Itr i (m - i).toNat) (gName j) tt te vs σ H Q := by
  refine ⟨l, n, rfl, ⟨by omega, by omega, by omega, by omega⟩, fun D hD => ?_⟩
  refine lc_range (lo := l) (n := (n - l).toNat) (fun i H' => Sm H H' ∧ H' D = some (.lst (((List.range i).filter pf).map f))) ⟨same_upd hD, upd_same⟩ (fun i H' hi p => ?_) (fun H' p => k D H' p.1 hD p.2)
  show wipe ((wipe σ vs).set j (some (.int (l + (i : Int))))) vs = wipe σ vs ∧ tt ((wipe σ vs).set j (some (.int (l + (i : Int))))) H' _
  refine ⟨hw _, ht i H' (by omega) p.1 _ fun H2 s2 => ?_⟩
  have rs : (List.range (i + 1)).filter pf = (List.range i).filter pf ++ (if pf i = true then [i] else []) := by
    rw [List.range_succ, List.filter_append]
    congr 1
    by_cases c : pf i = true
    · rw [if_pos c, List.filter_cons_of_pos c, List.filter_nil]
    · rw [if_neg c, List.filter_cons_of_neg c, List.filter_nil]
  by_cases c : pf i = true
  · rw [if_pos c]
    refine he i H2 (by omega) c (p.1.trans s2) _ fun H3 s3 => ⟨_, s3 _ _ (s2 _ _ p.2), ?_, sm_upd ((p.1.trans s2).trans s3) hD, ?_⟩
    · rw [List.length_map]
      have := List.length_filter_le pf (List.range i)
      rw [List.length_range] at this
      exact Nat.lt_of_lt_of_le (show _ < 1000000 by omega) (by decide)
    · rw [upd_same, rs, if_pos c, List.map_append]
      rfl
  · rw [if_neg c]
    refine ⟨p.1.trans s2, ?_⟩
    rw [rs, if_neg c, List.append_nil]
    exact s2 _ _ p.2
theorem w_lclF {a : Addr} {xs : List V} (pf : V → Bool) (f : V → V) (hs : SqL K H a xs) (hz : xs.length ≤ 1000000) (hw : ∀ x, wipe ((wipe σ vs).set j (some x)) vs = wipe σ vs)
    (ht : ∀ (i : Nat) x H', xs[i]? = some x → Sm H H' → ∀ R : Bool → Hp → Prop, (∀ H2, Sm H' H2 → R (pf x) H2) → tt ((wipe σ vs).set j (some x)) H' R)
    (he : ∀ (i : Nat) x H', xs[i]? = some x → pf x = true → Sm H H' → ∀ R : VK, (∀ H2, Sm H' H2 → R (f x) H2) → te ((wipe σ vs).set j (some x)) H' R)
    (k : ∀ p H', Sm H H' → H p = none → H' p = some (.lst ((xs.filter pf).map f)) → Q (.ref p) H') :
    ∃ b, V.ref a = .ref b ∧ (∃ xs, SqL K H b xs) ∧ LcB (Itl K b) (gName j) tt te vs σ H Q := by
  refine ⟨a, rfl, ⟨xs, hs⟩, fun D hD => ?_⟩
  refine lc_list (xs := xs) (fun i H' => Sm H H' ∧ H' D = some (.lst (((xs.take i).filter pf).map f))) ⟨same_upd hD, by rw [List.take_zero]; exact upd_same⟩ (fun i H' _ p => p.1.seq hs) (fun i x H' hi p => ?_) (fun H' p => k D H' p.1 hD (by have := p.2; rwa [List.take_length] at this))
  show wipe ((wipe σ vs).set j (some x)) vs = wipe σ vs ∧ tt ((wipe σ vs).set j (some x)) H' _
  have rs : (xs.take (i + 1)).filter pf = (xs.take i).filter pf ++ (if pf x = true then [x] else []) := by
    rw [List.take_add_one, hi, List.filter_append]
    congr 1
    by_cases c : pf x = true
    · rw [if_pos c]
      exact List.filter_cons_of_pos c
    · rw [if_neg c]
      exact List.filter_cons_of_neg c
  refine ⟨hw _, ht i x H' hi p.1 _ fun H2 s2 => ?_⟩
  by_cases c : pf x = true
  · rw [if_pos c]
    refine he i x H2 hi c (p.1.trans s2) _ fun H3 s3 => ⟨_, s3 _ _ (s2 _ _ p.2), ?_, sm_upd ((p.1.trans s2).trans s3) hD, ?_⟩
    · rw [List.length_map]
      have h1 := List.length_filter_le pf (xs.take i)
      have h2 := (List.getElem?_eq_some_iff.mp hi).1
      rw [List.length_take] at h1
      exact Nat.lt_of_lt_of_le (show _ < 1000000 by omega) (by decide)
    · rw [upd_same, rs, if_pos c, List.map_append]
      rfl
  · rw [if_neg c]
    refine ⟨p.1.trans s2, ?_⟩
    rw [rs, if_neg c, List.append_nil]
    exact s2 _ _ p.2
end
def rInt1 : List V → Hp → VK → Prop := fun xs H Q => (∃ i, xs = [.int i] ∧ Q (.int i) H) ∨ ∃ k, xs = [.bl k] ∧ Q (.int (if k then 1 else 0)) H
theorem c_int1 {X : Cx} : CallR X (.type "int") rInt1 := call_int1
section
variable {K : PySem.W.Frag} {H : Hp} {Q : VK} {a p : Addr} {b : Bool} {i : Int} {v : V} {d : PyData}
theorem w_intB (k : Q (.int (if b then 1 else 0)) H) : rInt1 [.bl b] H Q := .inr ⟨b, rfl, k⟩
theorem w_intI (k : Q (.int i) H) : rInt1 [.int i] H Q := .inl ⟨i, rfl, k⟩
theorem w_sum (ns : List Int) (h : SqL K H a (ns.map V.int)) (k : Q (.int ns.sum) H) : rSum K [.ref a] H Q := ⟨a, ns, rfl, h, k⟩
theorem w_min (ns : List Int) (h : SqL K H a (ns.map V.int)) (h0 : 0 < ns.length) (k : ∀ m, m ∈ ns → (∀ y, y ∈ ns → m ≤ y) → Q (.int m) H) : rMin K [.ref a] H Q := ⟨a, ns, rfl, h, h0, k⟩
theorem w_isi_n (k : Q (.bl false) H) : rIsi K [.non, .ty "bool"] H Q := ⟨_, _, _, _, false, rfl, .ty _, .base .non, kit_ty (by decide +kernel), k⟩
theorem w_isiT_n (h : H p = some (.tup [.ty "list", .ty "tuple"])) (k : Q (.bl false) H) : rIsiT K [.non, .ref p] H Q :=
  ⟨_, _, _, _, _, false, rfl, h, .cons (.ty _) (.cons (.ty _) .nil), .base .non, kitAny_cons (kit_ty (b := "list") (r := false) (by decide +kernel)) (fun _ => kitAny_cons (kit_ty (b := "tuple") (r := false) (by decide +kernel)) (fun _ => kitAny_nil) (fun z => nomatch z)) (fun z => nomatch z), k⟩
theorem w_eqN (k : Q (.bl true) H) : rEq .non .non H Q := ⟨rfl, by simpa using k⟩
/-- a list of ints and the empty list -/
theorem w_ne0 (ns : List Int) {q : Addr} (h1 : SqL K H p (ns.map V.int)) (h2 : H q = some (.lst [])) (k : Q (.bl (decide (ns ≠ []))) H) : rNeD K (.ref p) (.ref q) H Q := by
  refine ⟨_, _, .lst h1 (dp_ints ns), .lst (.inl (.inl h2)) .nil, shaped_ints ns, shaped_ints [], ?_⟩
  cases ns with
  | nil =>
    rw [show PyData.eqv (.list (([] : List Int).map PyData.int)) (.list []) = true from eqv_ints []]
    simpa using k
  | cons n r =>
    have e : PyData.eqv (.list ((n :: r).map PyData.int)) (.list []) = false := by rfl
    rw [e]
    simpa using k
end
/-! how many of the seeds 1 to l stand in a block -/
theorem cnt_halves {m b l : Int} (hm : 0 < m) (b1 : 1 ≤ b) (b2 : b ≤ m) : cnt (2 * m) b l + cnt (2 * m) (2 * m + 1 - b) l = cnt m b l := by
  have d1 := Int.emod_add_mul_ediv l (2 * m)
  have n1 := Int.emod_nonneg l (b := 2 * m) (by omega)
  have l1 := Int.emod_lt_of_pos l (b := 2 * m) (by omega)
  generalize hq : l / (2 * m) = q at d1
  generalize ht : l % (2 * m) = t at d1 n1 l1
  unfold cnt turned
  rw [hq, ht]
  by_cases c : t < m
  · have e1 : l / m = 2 * q := by
      rw [← d1, show t + 2 * m * q = t + (2 * q) * m by rw [Int.mul_comm 2 m, Int.mul_assoc, Int.mul_comm m], Int.add_mul_ediv_right _ _ (by omega), Int.ediv_eq_zero_of_lt n1 c]
      omega
    have e2 : l % m = t := by
      rw [← d1, show t + 2 * m * q = t + (2 * q) * m by rw [Int.mul_comm 2 m, Int.mul_assoc, Int.mul_comm m], Int.add_mul_emod_self_right, Int.emod_eq_of_lt n1 c]
    rw [e1, e2]
    repeat' split
    all_goals omega
  · have e1 : l / m = 2 * q + 1 := by
      rw [← d1, show t + 2 * m * q = (t - m) + (2 * q + 1) * m by rw [Int.mul_comm 2 m, Int.mul_assoc, Int.mul_comm m, Int.add_mul]; omega, Int.add_mul_ediv_right _ _ (by omega), Int.ediv_eq_zero_of_lt (by omega) (by omega)]
      omega
    have e2 : l % m = t - m := by
      rw [← d1, show t + 2 * m * q = (t - m) + (2 * q + 1) * m by rw [Int.mul_comm 2 m, Int.mul_assoc, Int.mul_comm m, Int.add_mul]; omega, Int.add_mul_emod_self_right, Int.emod_eq_of_lt (by omega) (by omega)]
    rw [e1, e2]
    repeat' split
    all_goals omega
theorem cnt_one {l : Int} : cnt 1 1 l = l := by
  unfold cnt turned
  have e : l % 1 = 0 := by omega
  rw [e, show l / 1 = l by omega]
  split <;> split at * <;> omega
theorem cnt_nn {m b l : Int} (hm : 0 < m) (hl : 0 ≤ l) : 0 ≤ cnt m b l := by
  unfold cnt
  have := Int.ediv_nonneg (a := l) (b := m) hl (by omega)
  split <;> omega
/-- of the first row: the seed itself -/
theorem cnt_top {m b l : Int} (hm : 0 < m) (b1 : 1 ≤ b) (bl : b ≤ l) (lm : l ≤ m) : cnt m b l = 1 := by
  unfold cnt turned
  by_cases c : l = m
  · subst c
    rw [Int.ediv_self (by omega), Int.emod_self, if_neg (show ¬ (1 : Int) % 2 = 0 by decide), if_neg (by omega)]
  · rw [Int.ediv_eq_zero_of_lt (a := l) (b := m) (by omega) (by omega), Int.emod_eq_of_lt (a := l) (b := m) (by omega) (by omega), if_pos (show (0 : Int) % 2 = 0 by decide), if_pos bl]
    omega
theorem cnt_full {m b n : Int} (hm : 0 < m) (b1 : 1 ≤ b) (b2 : b ≤ m) : cnt m b (n * m) = n := by
  unfold cnt turned
  rw [Int.mul_ediv_cancel _ (by omega), Int.mul_emod_left]
  split <;> split at * <;> omega
/-- one player more -/
theorem cnt_more {m b l : Int} (hm : 0 < m) (b1 : 1 ≤ b) (b2 : b ≤ m) (hl : 0 ≤ l) : cnt m b (l + 1) - cnt m b l = if blk m (l + 1) = b then 1 else 0 := by
  have d1 := Int.emod_add_mul_ediv l m
  have n1 := Int.emod_nonneg l (b := m) (by omega)
  have l1 := Int.emod_lt_of_pos l hm
  generalize hq : l / m = q at d1
  generalize ht : l % m = t at d1 n1 l1
  have ec : l + 1 - 1 = l := by omega
  unfold cnt blk turned
  rw [ec, hq, ht]
  by_cases c : t + 1 < m
  · have e1 : (l + 1) / m = q := by
      rw [← d1, show t + m * q + 1 = (t + 1) + q * m by rw [Int.mul_comm]; omega, Int.add_mul_ediv_right _ _ (by omega), Int.ediv_eq_zero_of_lt (by omega) c]
      omega
    have e2 : (l + 1) % m = t + 1 := by
      rw [← d1, show t + m * q + 1 = (t + 1) + q * m by rw [Int.mul_comm]; omega, Int.add_mul_emod_self_right, Int.emod_eq_of_lt (by omega) c]
    rw [e1, e2]
    repeat' split
    all_goals omega
  · have e1 : (l + 1) / m = q + 1 := by
      rw [← d1, show t + m * q + 1 = 0 + (q + 1) * m by rw [Int.mul_comm, Int.add_mul]; omega, Int.add_mul_ediv_right _ _ (by omega), Int.zero_ediv]
      omega
    have e2 : (l + 1) % m = 0 := by
      rw [← d1, show t + m * q + 1 = 0 + (q + 1) * m by rw [Int.mul_comm, Int.add_mul]; omega, Int.add_mul_emod_self_right, Int.zero_emod]
    rw [e1, e2]
    repeat' split
    all_goals omega
/-- the other half of the block of level t around a seed -/
def oth (k t s : Int) : Int := p2 (k - t + 1) + 1 - blk (p2 (k - t + 1)) s
theorem oth_range {k t s : Int} : 1 ≤ oth k t s ∧ oth k t s ≤ p2 (k - t + 1) := by
  have := blk_range (m := p2 (k - t + 1)) (s := s) (p2_pos _)
  unfold oth
  omega
theorem cnt_level {k t s l : Int} (t0 : 1 ≤ t) (t1 : t ≤ k) (hs : 1 ≤ s) : cnt (p2 (k - t + 1)) (blk (p2 (k - t + 1)) s) l + cnt (p2 (k - t + 1)) (oth k t s) l = cnt (p2 (k - t)) (blk (p2 (k - t)) s) l := by
  have M0 := p2_pos (k - t)
  have e := p2_succ (k := k - t) (by omega)
  have br := blk_range (m := p2 (k - t)) (s := s) M0
  have h := cnt_halves (m := p2 (k - t)) (b := blk (p2 (k - t)) s) (l := l) M0 br.1 br.2
  have f := blk_below (m := p2 (k - t)) (s := s) M0 hs
  unfold oth
  rw [e]
  rcases f with f | f
  · rw [f]
    exact h
  · rw [f, show 2 * p2 (k - t) + 1 - (2 * p2 (k - t) + 1 - blk (p2 (k - t)) s) = blk (p2 (k - t)) s by omega]
    omega
/-- the new player meets the seed in round t -/
theorem oth_meets {k t a b : Int} (hk : 0 ≤ k) (t0 : 1 ≤ t) (t1 : t ≤ k) (ha : 1 ≤ a ∧ a ≤ p2 k) (hb : 1 ≤ b ∧ b ≤ p2 k) : blk (p2 (k - t + 1)) b = oth k t a ↔ t = lev k [a, b] a := by
  have M0 := p2_pos (k - t)
  have e := p2_succ (k := k - t) (by omega)
  have h1 := lev_two hk ha hb (h := t) (by omega) t1
  have h2 := lev_two hk ha hb (h := t - 1) (by omega) (by omega)
  rw [show k - (t - 1) = k - t + 1 by omega] at h2
  have fa := blk_fold (m := p2 (k - t)) (s := a) M0 ha.1
  have fb := blk_fold (m := p2 (k - t)) (s := b) M0 hb.1
  have ra := blk_range (m := p2 (k - t + 1)) (s := a) (p2_pos _)
  have rb := blk_range (m := p2 (k - t + 1)) (s := b) (p2_pos _)
  rw [← e] at fa fb
  unfold fold1 at fa fb
  unfold oth
  by_cases c : blk (p2 (k - t)) a = blk (p2 (k - t)) b
  · have q1 := h1.mpr c
    by_cases c2 : blk (p2 (k - t + 1)) a = blk (p2 (k - t + 1)) b
    · have q2 := h2.mpr c2
      omega
    · have q2 : ¬ lev k [a, b] a ≤ t - 1 := fun z => c2 (h2.mp z)
      split at fa <;> split at fb <;> omega
  · have q1 : ¬ lev k [a, b] a ≤ t := fun z => c (h1.mp z)
    split at fa <;> split at fb <;> omega
end SC
namespace SC
open PySem PySem.Spec PyProof.Rows L2
theorem cnt_pos {m b l : Int} (hm : 0 < m) (b1 : 1 ≤ b) (b2 : b ≤ m) (hl : 0 ≤ l) : 0 < SC.cnt m b l ↔ b ≤ l := by
  have q0 := Int.ediv_nonneg (a := l) (b := m) hl (by omega)
  by_cases c : l < m
  · unfold SC.cnt turned
    rw [Int.ediv_eq_zero_of_lt (a := l) (b := m) (by omega) (by omega), Int.emod_eq_of_lt (a := l) (b := m) (by omega) (by omega), if_pos (show (0 : Int) % 2 = 0 by decide)]
    split <;> omega
  · have q1 : 1 ≤ l / m := by
      have := Int.ediv_le_ediv (a := m) (b := l) hm (by omega)
      rwa [Int.ediv_self (by omega)] at this
    unfold SC.cnt
    split <;> omega
/-- the head of a rising list is its least item -/
theorem head_least {x : Int} {r : List Int} (h : (x :: r).Pairwise (· < ·)) : ∀ y ∈ x :: r, x ≤ y := fun y hy => by
  rcases List.mem_cons.mp hy with rfl | hy
  · omega
  · have := (List.pairwise_cons.mp h).1 y hy
    omega
theorem rising_filter (n : Nat) (pf : Nat → Bool) : (((List.range n).filter pf).map fun i : Nat => 1 + (i : Int)).Pairwise (· < ·) := by
  rw [List.pairwise_map]
  refine (List.Pairwise.filter pf List.pairwise_lt_range).imp ?_
  intro a b h
  omega
end SC

set_option Elab.async false
set_option linter.all false
set_option maxRecDepth 100000
set_option maxHeartbeats 4000000
/-! Parts of the bracket's list: their least seed, how many of them are players. -/
namespace SC
open PySem PySem.Spec PyProof.Rows L2
theorem mem_le {m b i l : Int} (hm : 0 < m) (b1 : 1 ≤ b) (b2 : b ≤ m) (i0 : 0 ≤ i) (l0 : 0 ≤ l) : mem m b i ≤ l ↔ i < SC.cnt m b l := by
  have d1 := Int.emod_add_mul_ediv l m
  have n1 := Int.emod_nonneg l (b := m) (by omega)
  have l1 := Int.emod_lt_of_pos l hm
  have q0 := Int.ediv_nonneg (a := l) (b := m) l0 (by omega)
  unfold SC.cnt
  generalize l / m = r at *
  generalize l % m = t at *
  have tr : ∀ x : Int, 1 ≤ turned m x b ∧ turned m x b ≤ m := fun x => by unfold turned; split <;> omega
  have ti := tr i
  rw [Int.mul_comm] at d1
  unfold mem
  by_cases c : i < r
  · have h2 : (i + 1) * m ≤ r * m := Int.mul_le_mul_of_nonneg_right (by omega) (by omega)
    rw [Int.add_mul] at h2
    split <;> omega
  · by_cases c2 : i = r
    · subst c2
      split <;> omega
    · have h2 : (r + 1) * m ≤ i * m := Int.mul_le_mul_of_nonneg_right (by omega) (by omega)
      rw [Int.add_mul] at h2
      split <;> omega
theorem cnt_le {m b n l : Int} (hm : 0 < m) (b1 : 1 ≤ b) (b2 : b ≤ m) (n0 : 0 ≤ n) (l0 : 0 ≤ l) (h : l ≤ n * m) : SC.cnt m b l ≤ n := by
  by_cases c : n < SC.cnt m b l
  · have := (mem_le hm b1 b2 n0 l0).mpr c
    unfold mem turned at this
    split at this <;> omega
  · omega
theorem filter_lt (c : Nat) : ∀ N : Nat, ((List.range N).filter fun i : Nat => decide ((i : Int) < (c : Int))).length = min N c
  | 0 => by simp
  | N + 1 => by
    have ih := filter_lt c N
    rw [List.range_succ, List.filter_append, List.length_append, ih]
    by_cases h : (N : Int) < c
    · rw [List.filter_cons_of_pos (by simpa using h)]
      simp only [List.filter_nil, List.length_cons, List.length_nil]
      omega
    · rw [List.filter_cons_of_neg (by simpa using h)]
      simp only [List.filter_nil, List.length_nil]
      omega
theorem ext_perm {m s : Int} (hm : 0 ≤ m) (h1 : 1 ≤ s) (h2 : s ≤ p2 m) (h : Nat) : (mems (p2 m) s (2 ^ h)).Perm (ext m s h) := by
  have pm : ((ext m s h).mergeSort (fun a b => decide (a ≤ b))).Perm (ext m s h) := List.mergeSort_perm _ _
  have so : ((ext m s h).mergeSort (fun a b => decide (a ≤ b))).Pairwise (· ≤ ·) := by
    have := List.pairwise_mergeSort (le := fun a b : Int => decide (a ≤ b)) (fun a b c x y => by simp only [decide_eq_true_eq] at *; omega) (fun a b => by simp only [Bool.or_eq_true, decide_eq_true_eq]; omega) (ext m s h)
    exact this.imp fun x => of_decide_eq_true x
  rw [← part_sorted hm h1 h2 pm so]
  exact pm
theorem ext_count {m s l : Int} (hm : 0 ≤ m) (h1 : 1 ≤ s) (h2 : s ≤ p2 m) (h : Nat) (l0 : 0 ≤ l) (hl : l ≤ p2 h * p2 m) : (((ext m s h).filter fun x => decide (x ≤ l)).length : Int) = SC.cnt (p2 m) s l := by
  have mp := p2_pos m
  have e := ((ext_perm hm h1 h2 h).filter fun x => decide (x ≤ l)).length_eq
  rw [← e]
  unfold mems
  rw [List.filter_map, List.length_map]
  have c0 := cnt_nn (b := s) mp l0
  have cl := cnt_le mp h1 h2 (n := p2 h) (Int.le_of_lt (p2_pos _)) l0 hl
  obtain ⟨c, hc⟩ := Int.eq_ofNat_of_zero_le c0
  have fe : (List.range (2 ^ h)).filter ((fun x => decide (x ≤ l)) ∘ fun i : Nat => mem (p2 m) s (i : Int)) = (List.range (2 ^ h)).filter fun i : Nat => decide ((i : Int) < (c : Int)) := by
    refine List.filter_congr fun i _ => ?_
    show decide (mem (p2 m) s (i : Int) ≤ l) = decide ((i : Int) < (c : Int))
    rw [← hc]
    exact decide_eq_decide.mpr (mem_le mp h1 h2 (by omega) l0)
  rw [fe, filter_lt, hc]
  rw [hc, p2_nat] at cl
  omega
theorem ext_has (m s : Int) : ∀ h : Nat, s ∈ ext m s h
  | 0 => by simp [ext]
  | h + 1 => by
    simp only [ext, List.mem_flatMap, List.mem_cons, List.not_mem_nil, or_false]
    exact ⟨s, ext_has m s h, .inl rfl⟩
theorem ext_least {m s : Int} (hm : 0 ≤ m) (h1 : 1 ≤ s) (h2 : s ≤ p2 m) {h : Nat} : ∀ x ∈ ext m s h, s ≤ x := fun x hx => by
  obtain ⟨r, b⟩ := ext_in hm h1 h2 h x hx
  have mp := p2_pos m
  have q0 := Int.ediv_nonneg (a := x - 1) (b := p2 m) (by omega) (by omega)
  have e := mem_back (m := p2 m) (s := x) mp
  rw [b] at e
  rw [← e]
  unfold mem turned
  by_cases c : (x - 1) / p2 m = 0
  · rw [c]
    simp
  · have h2 : 1 * p2 m ≤ (x - 1) / p2 m * p2 m := Int.mul_le_mul_of_nonneg_right (by omega) (by omega)
    split <;> omega
theorem brk_cut {n h j : Nat} {s : Int} (hn : h ≤ n) (hs : (brk (n - h))[j]? = some s) : ((brk n).drop (j * 2 ^ h)).take (2 ^ h) = ext ((n - h : Nat) : Int) s h := by
  have e : brk n = (brk (n - h)).flatMap fun x => ext (0 + ((n - h : Nat) : Int)) x h := by
    have := ext_two 0 1 (n - h) h
    rw [show n - h + h = n by omega] at this
    exact this
  rw [e, Int.zero_add]
  exact cut_parts (f := fun x => ext ((n - h : Nat) : Int) x h) _ j _ (fun y => ext_len _ _ _) hs
theorem flat2 (c : Int) : ∀ (l : List Int) (q : Nat) (x : Int), l[q]? = some x → (l.flatMap fun x => [x, c - x])[2 * q]? = some x ∧ (l.flatMap fun x => [x, c - x])[2 * q + 1]? = some (c - x)
  | [], q, x, h => by simp at h
  | a :: r, 0, x, h => by
    have e : a = x := Option.some.inj h
    subst e
    exact ⟨rfl, rfl⟩
  | a :: r, q + 1, x, h => by
    have ih := flat2 c r q x h
    rw [show 2 * (q + 1) = 2 * q + 1 + 1 by omega, show 2 * q + 1 + 1 + 1 = (2 * q + 1) + 1 + 1 by omega]
    simp only [List.flatMap_cons, List.cons_append, List.nil_append, List.getElem?_cons_succ]
    exact ih
theorem brk_two {k q : Nat} {x : Int} (h : (brk k)[q]? = some x) : (brk (k + 1))[2 * q]? = some x ∧ (brk (k + 1))[2 * q + 1]? = some (2 * p2 k + 1 - x) := by
  have e : brk (k + 1) = (brk k).flatMap fun x => [x, 2 * p2 k + 1 - x] := by
    show (ext 0 1 k).flatMap (fun x => [x, 2 * p2 (0 + (k : Int)) + 1 - x]) = _
    rw [Int.zero_add]
    rfl
  rw [e]
  exact flat2 (2 * p2 k + 1) _ q x h
/-- the neighbour in the list -/
theorem brk_sib {k i : Nat} {x : Int} (h : (brk (k + 1))[i]? = some x) : (brk (k + 1))[if i % 2 = 0 then i + 1 else i - 1]? = some (p2 ((k + 1 : Nat) : Int) + 1 - x) := by
  have hi : i < 2 ^ (k + 1) := by
    have := (List.getElem?_eq_some_iff.mp h).1
    rwa [brk_len] at this
  have hq : i / 2 < 2 ^ k := by rw [Nat.pow_succ] at hi; omega
  obtain ⟨y, hy⟩ : ∃ y, (brk k)[i / 2]? = some y := ⟨_, List.getElem?_eq_getElem (by rw [brk_len]; exact hq)⟩
  have t := brk_two hy
  have ep : p2 ((k + 1 : Nat) : Int) = 2 * p2 k := by
    have := p2_succ (k := (k : Int)) (by omega)
    rw [← this]; congr 1
  rw [ep]
  by_cases c : i % 2 = 0
  · rw [if_pos c]
    rw [show 2 * (i / 2) = i by omega] at t
    have e : x = y := Option.some.inj (h.symm.trans t.1)
    rw [e]
    exact t.2
  · rw [if_neg c]
    rw [show 2 * (i / 2) + 1 = i by omega] at t
    have e : x = 2 * p2 k + 1 - y := Option.some.inj (h.symm.trans t.2)
    rw [e, show 2 * p2 k + 1 - (2 * p2 k + 1 - y) = y by omega, show i - 1 = 2 * (i / 2) by omega]
    exact t.1
theorem filter_not (p : Int → Bool) : ∀ l : List Int, (l.filter p).length + (l.filter fun x => !p x).length = l.length
  | [] => rfl
  | a :: r => by
    have ih := filter_not p r
    by_cases c : p a = true
    · rw [List.filter_cons_of_pos c, List.filter_cons_of_neg (by simp [c])]
      simp only [List.length_cons]
      omega
    · rw [List.filter_cons_of_neg c, List.filter_cons_of_pos (by simpa using c)]
      simp only [List.length_cons]
      omega
/-- how many matches of a round have two players -/
theorem brk_both (k : Nat) {p : Int} (hp : 0 ≤ p) : (((brk k).filter fun x => decide (2 * p2 k + 1 - x ≤ p)).length : Int) = max 0 (min (p2 k) (p - p2 k)) := by
  have P0 := p2_pos (k : Int)
  have e1 : ((brk k).filter fun x => decide (2 * p2 k + 1 - x ≤ p)) = (brk k).filter fun x => !decide (x ≤ min (p2 k) (max 0 (2 * p2 k - p))) := by
    refine List.filter_congr fun x hx => ?_
    have r := brk_in k x hx
    by_cases c : 2 * p2 k + 1 - x ≤ p
    · rw [decide_eq_true c, decide_eq_false (by omega)]
      rfl
    · rw [decide_eq_false c, decide_eq_true (by omega)]
      rfl
  have c1 := ext_count (m := 0) (s := 1) (l := min (p2 k) (max 0 (2 * p2 k - p))) (by decide) (by decide) (by rw [p2_zero]; decide) k (by omega) (by rw [p2_zero]; omega)
  rw [p2_zero, cnt_one] at c1
  have f := filter_not (fun x => decide (x ≤ min (p2 k) (max 0 (2 * p2 k - p)))) (brk k)
  rw [brk_len] at f
  have pn := p2_nat k
  rw [e1]
  unfold brk at f ⊢
  omega
/-- all matches of the rounds 1 to d -/
theorem both_sum {k p : Int} (hp : 1 ≤ p) (hk : p ≤ p2 k) : ∀ d : Nat, (d : Int) ≤ k → ((List.range d).map fun i : Nat => max 0 (min p (p2 (k - (1 + (i : Int)) + 1)) - p2 (k - (1 + (i : Int)) + 1) / 2)).sum = p - min p (p2 (k - d))
  | 0, _ => by
    rw [show k - ((0 : Nat) : Int) = k by omega]
    simp
    omega
  | d + 1, hd => by
    have ih := both_sum hp hk d (by omega)
    have e := p2_half (k := k - d) (by omega)
    have ph := p2_pos (k - d - 1)
    rw [List.range_succ, List.map_append, List.sum_append, ih]
    simp only [List.map_cons, List.map_nil, List.sum_cons, List.sum_nil]
    rw [show k - (1 + (d : Int)) + 1 = k - d by omega, show k - ((d + 1 : Nat) : Int) = k - d - 1 by omega]
    omega
end SC
namespace SC
open PySem PySem.Spec PyProof.Rows L2
def BmL (K : PySem.W.Frag) (T : String) (r : V → List V → Hp → VK → Prop) (t : TA) (σ : L2.St) (x : V) (H : Hp) (Q : VK) : Prop := tyV K T x H ∧ t σ H fun xs H2 => r x xs H2 Q
section
variable {K : PySem.W.Frag} {σ : L2.St} {H : Hp} {Q : VK} {to : TE} {t : TA} {T : String} {r : V → List V → Hp → VK → Prop} {p : Addr} {xs : List V}
theorem w_bm (k : to σ H fun x H1 => BmL K T r t σ x H1 Q) : tBM K T r to t σ H Q := k
theorem w_bml (h : SqL K H p xs) (k : t σ H fun ys H2 => r (.ref p) ys H2 Q) : BmL K "list" r t σ (.ref p) H Q := ⟨.inl ⟨rfl, _, h⟩, k⟩
theorem w_index (ns : List Int) {x : Int} {j : Nat} (h : SqL K H p (ns.map V.int)) (hj : ns[j]? = some x) (hn : ns.Nodup) (k : Q (.int (j : Nat)) H) : rIndex K (.ref p) [.int x] H Q := by
  refine ⟨p, _, .int x, j, .int x, rfl, rfl, h, rfl, flat_ints ns, by rw [List.getElem?_map, hj]; rfl, by simp [eqV], fun m z' hm hz => ?_, k⟩
  obtain ⟨z, ez, rfl⟩ := at_int hz
  have hne : z ≠ x := fun e => by
    subst e
    have h1 := (List.getElem?_eq_some_iff.mp ez).1
    have := (List.getElem?_inj h1 hn).mp (ez.trans hj.symm)
    omega
  simp [eqV, hne]
end
theorem rgc_pow13 {m c : Nat} (hm : 0 < m) (hc : 0 < c) (hm2 : m ≤ 2 ^ 13) (hc2 : c ≤ 2 ^ 13) : RgC 0 ((m * c : Nat) : Int) (c : Int) m := by
  have e : ((m * c : Nat) : Int) = (m : Int) * (c : Int) := by push_cast; rfl
  have e2 : ((m : Int) * (c : Int) - 0 - 1) / (c : Int) + 1 = m := by
    rw [show (m : Int) * (c : Int) - 0 - 1 = ((c : Int) - 1) + ((m : Int) - 1) * (c : Int) by rw [Int.sub_mul]; omega, Int.add_mul_ediv_right _ _ (by omega), Int.ediv_eq_zero_of_lt (by omega) (by omega)]
    omega
  have e3 : (0 : Int) < (m : Int) * (c : Int) := Int.mul_pos (by omega) (by omega)
  have e4 : m * c ≤ 2 ^ 13 * 2 ^ 13 := Nat.mul_le_mul hm2 hc2
  have sz : PySem.Builtin.Range.rangeSize 0 ((m * c : Nat) : Int) (c : Int) = m := by
    unfold PySem.Builtin.Range.rangeSize
    rw [if_pos (by omega), e, if_pos e3, e2]
  refine ⟨by omega, by omega, ?_, sz⟩
  unfold PySem.Builtin.Range.small
  rw [sz]
  simp only [PySem.Builtin.Range.rangeFitsLong, Bool.and_eq_true, Bool.or_eq_true, decide_eq_true_eq, beq_iff_eq, if_pos (show (c : Int) > 0 by omega)]
  omega
end SC

set_option Elab.async false
set_option linter.all false
set_option maxRecDepth 100000
set_option maxHeartbeats 4000000
/-! Seeds dealt one by one: lists of lists, enumerate, the sums of a group. -/
namespace SC
open PySem PySem.Spec PyProof.Rows L2
section
variable {K : PySem.W.Frag} {σ : L2.St} {H : Hp} {Q : VK} {D : Ends} {ta : TA} {tb : TS} {g : TG} {a : Addr} {xs : List V}
theorem w_forE (k : ta σ H fun vs H1 => ∃ a xs, vs = [V.ref a] ∧ SqL K H1 a xs ∧ Loop (Ite K a) g tb D σ H1) : tFor (iEnum K ta) g tb D σ H := k
theorem w_enum (hx : SqL K H a xs) (Pv : Nat → L2.St → Hp → Prop) (h0 : Pv 0 σ H) (hl : ∀ i σ' H', i ≤ xs.length → Pv i σ' H' → SqL K H' a xs)
    (hs : ∀ (i : Nat) x σ' H', xs[i]? = some x → Pv i σ' H' → ∀ T, H' T = none → g (.ref T) σ' (upd H' T (.tup [.int (i : Int), x])) fun σ2 H2 => tb { D with nx := Pv (i + 1), ct := Pv (i + 1), bk := D.nx } σ2 H2) (hd : ∀ σ' H', Pv xs.length σ' H' → D.nx σ' H') :
    ∃ b ys, [V.ref a] = [V.ref b] ∧ SqL K H b ys ∧ Loop (Ite K b) g tb D σ H := by
  refine ⟨a, xs, rfl, hx, fun i m σ' H' => m = xs.length - i ∧ i ≤ xs.length ∧ Pv i σ' H', ⟨xs.length, by simp, Nat.zero_le _, h0⟩, ?_⟩
  rintro i m σ' H' ⟨rfl, hi, p⟩
  have q := hl i σ' H' hi p
  by_cases c : i < xs.length
  · refine .inr ⟨⟨xs, xs[i], q, List.getElem?_eq_getElem c⟩, Pv (i + 1), fun σ2 H2 p2 => ⟨xs.length - (i + 1), by omega, rfl, c, p2⟩, fun v H2 y => ?_⟩
    obtain ⟨T, x, rfl, hT, rfl, hat⟩ := y
    exact hs i x σ' H' (hat xs q) p T hT
  · have e : i = xs.length := by omega
    subst e
    exact .inl ⟨⟨xs, q, Nat.le_refl _⟩, hd _ _ p⟩
theorem w_append {p : Addr} {y : V} (h : H p = some (.lst xs)) (hz : xs.length < 1000000) (k : Q .non (upd H p (.lst (xs ++ [y])))) : rAppend (.ref p) [y] H Q := ⟨p, xs, y, rfl, rfl, h, Nat.lt_of_lt_of_le hz (by decide), k⟩
end
theorem cut_take {xs : List V} {n : Nat} (h : n ≤ xs.length) : cutV xs none (some (n : Int)) = xs.take n := by
  unfold cutV
  rw [HT.sIx_nat]
  have e0 : HT.sIx xs.length 0 none = 0 := rfl
  rw [e0]
  simp [Nat.min_eq_left h]
/-! the deal -/
def dhr (m d : Int) : Int := blk m (d + 1) - 1
def dsp (m d : Int) : Int := if d / m % 2 = 0 then 1 else -1
theorem deal_next {m d : Int} (hm : 0 < m) (hd : 0 ≤ d) : (dhr m d + dsp m d = -1 ∨ dhr m d + dsp m d = m → dhr m (d + 1) = dhr m d ∧ dsp m (d + 1) = 0 - dsp m d) ∧ (¬ (dhr m d + dsp m d = -1 ∨ dhr m d + dsp m d = m) → dhr m (d + 1) = dhr m d + dsp m d ∧ dsp m (d + 1) = dsp m d) := by
  have d1 := Int.emod_add_mul_ediv d m
  have n1 := Int.emod_nonneg d (b := m) (by omega)
  have l1 := Int.emod_lt_of_pos d hm
  unfold dhr dsp blk turned
  rw [show d + 1 - 1 = d by omega, show d + 1 + 1 - 1 = d + 1 by omega]
  generalize d / m = r at *
  generalize hc : d % m = c at *
  by_cases z : c + 1 < m
  · have e1 : (d + 1) / m = r := by
      rw [← d1, show c + m * r + 1 = (c + 1) + r * m by rw [Int.mul_comm]; omega, Int.add_mul_ediv_right _ _ (by omega), Int.ediv_eq_zero_of_lt (by omega) z]
      omega
    have e2 : (d + 1) % m = c + 1 := by
      rw [← d1, show c + m * r + 1 = (c + 1) + r * m by rw [Int.mul_comm]; omega, Int.add_mul_emod_self_right, Int.emod_eq_of_lt (by omega) z]
    rw [e1, e2]
    by_cases p : r % 2 = 0
    · simp only [if_pos p]
      refine ⟨fun h => ⟨?_, ?_⟩, fun h => ⟨?_, ?_⟩⟩ <;> first | exact True.intro | omega
    · simp only [if_neg p]
      refine ⟨fun h => ⟨?_, ?_⟩, fun h => ⟨?_, ?_⟩⟩ <;> first | exact True.intro | omega
  · have e1 : (d + 1) / m = r + 1 := by
      rw [← d1, show c + m * r + 1 = 0 + (r + 1) * m by rw [Int.mul_comm, Int.add_mul]; omega, Int.add_mul_ediv_right _ _ (by omega), Int.zero_ediv]
      omega
    have e2 : (d + 1) % m = 0 := by
      rw [← d1, show c + m * r + 1 = 0 + (r + 1) * m by rw [Int.mul_comm, Int.add_mul]; omega, Int.add_mul_emod_self_right, Int.zero_emod]
    rw [e1, e2]
    by_cases p : r % 2 = 0
    · simp only [if_pos p, if_neg (show ¬ (r + 1) % 2 = 0 by omega)]
      refine ⟨fun h => ⟨?_, ?_⟩, fun h => ⟨?_, ?_⟩⟩ <;> first | exact True.intro | omega
    · simp only [if_neg p, if_pos (show (r + 1) % 2 = 0 by omega)]
      refine ⟨fun h => ⟨?_, ?_⟩, fun h => ⟨?_, ?_⟩⟩ <;> first | exact True.intro | omega
theorem dhr_range {m d : Int} (hm : 0 < m) : 0 ≤ dhr m d ∧ dhr m d < m := by
  have := blk_range (m := m) (s := d + 1) hm
  unfold dhr
  omega
theorem cnt_at {m l : Int} (hm : 0 < m) (hl : 0 ≤ l) : mem m (blk m (l + 1)) (SC.cnt m (blk m (l + 1)) l) = l + 1 := by
  have mb := mem_back (m := m) (s := l + 1) hm
  rw [show l + 1 - 1 = l by omega] at mb
  have e : SC.cnt m (blk m (l + 1)) l = l / m := by
    have n1 := Int.emod_nonneg l (b := m) (by omega)
    unfold SC.cnt blk turned
    rw [show l + 1 - 1 = l by omega]
    generalize l / m = r
    generalize l % m = c at *
    by_cases p : r % 2 = 0
    · simp only [if_pos p]
      rw [if_neg (by omega)]
    · simp only [if_neg p]
      rw [if_neg (by omega)]
  rw [e]
  exact mb
/-- F is a list of m lists, the groups of the first k seeds -/
structure Parts (H : Hp) (F : Addr) (as : List Addr) (m : Nat) (k : Int) : Prop where
  len : as.length = m
  nd : as.Nodup
  fn : F ∉ as
  top : H F = some (.lst (as.map V.ref))
  item : ∀ (i : Nat) a, as[i]? = some a → H a = some (.lst ((mems m ((i : Int) + 1) (SC.cnt m ((i : Int) + 1) k).toNat).map V.int))
theorem Parts.same {H H' : Hp} {F : Addr} {as : List Addr} {m : Nat} {k : Int} (h : Parts H F as m k) (e : Sm H H') : Parts H' F as m k :=
  ⟨h.len, h.nd, h.fn, e _ _ h.top, fun i a ha => e _ _ (h.item i a ha)⟩
theorem Parts.get {H : Hp} {F : Addr} {as : List Addr} {m : Nat} {k : Int} (h : Parts H F as m k) {j : Int} (h0 : 0 ≤ j) (h1 : j < m) : ∃ a, a ∈ as ∧ atI (as.map V.ref) j = some (.ref a) ∧ H a = some (.lst ((mems m (j + 1) (SC.cnt m (j + 1) k).toNat).map V.int)) ∧ as[j.toNat]? = some a := by
  obtain ⟨n, rfl⟩ := Int.eq_ofNat_of_zero_le h0
  have hn : n < as.length := by rw [h.len]; omega
  refine ⟨as[n], List.getElem_mem hn, atI_nat (by rw [List.getElem?_map, List.getElem?_eq_getElem hn]; rfl), h.item n _ (List.getElem?_eq_getElem hn), ?_⟩
  rw [Int.toNat_natCast]
  exact List.getElem?_eq_getElem hn
theorem Parts.put {H : Hp} {F a : Addr} {as : List Addr} {m : Nat} {k : Int} (h : Parts H F as m k) (k0 : 0 ≤ k) (m0 : 0 < m) (ha : as[(dhr m k).toNat]? = some a) :
    Parts (upd H a (.lst ((mems m (dhr m k + 1) (SC.cnt m (dhr m k + 1) k).toNat).map V.int ++ [.int (k + 1)]))) F as m (k + 1) := by
  have am := List.mem_of_getElem? ha
  have r := dhr_range (m := (m : Int)) (d := k) (by omega)
  refine ⟨h.len, h.nd, h.fn, ?_, fun i b hb => ?_⟩
  · rw [upd_ne (fun z => h.fn (by rw [z]; exact am))]
    exact h.top
  · have hi : i < m := by
      have := (List.getElem?_eq_some_iff.mp hb).1
      rwa [h.len] at this
    have cm := cnt_more (m := (m : Int)) (b := (i : Int) + 1) (l := k) (by omega) (by omega) (by omega) k0
    have c0 := cnt_nn (m := (m : Int)) (b := (i : Int) + 1) (l := k) (by omega) k0
    by_cases z : i = (dhr m k).toNat
    · have ei : (i : Int) = dhr m k := by omega
      have : a = b := Option.some.inj (ha.symm.trans (z ▸ hb))
      subst this
      rw [upd_same]
      have bk : blk m (k + 1) = (i : Int) + 1 := by
        rw [ei]
        unfold dhr
        omega
      rw [if_pos bk] at cm
      have ca := cnt_at (m := (m : Int)) (l := k) (by omega) k0
      rw [bk] at ca
      rw [← ei, show (SC.cnt m ((i : Int) + 1) (k + 1)).toNat = (SC.cnt m ((i : Int) + 1) k).toNat + 1 by omega]
      unfold mems
      rw [List.range_succ, List.map_append, List.map_append]
      simp only [List.map_cons, List.map_nil]
      rw [show (((SC.cnt m ((i : Int) + 1) k).toNat : Nat) : Int) = SC.cnt m ((i : Int) + 1) k by omega, ca]
    · have hne : b ≠ a := fun e => by
        subst e
        have hi2 := (List.getElem?_eq_some_iff.mp hb).1
        exact z ((List.getElem?_inj hi2 h.nd).mp (hb.trans ha.symm))
      rw [upd_ne hne, h.item i b hb]
      have bk : ¬ blk m (k + 1) = (i : Int) + 1 := fun e => z (by
        unfold dhr
        omega)
      rw [if_neg bk] at cm
      rw [show SC.cnt m ((i : Int) + 1) (k + 1) = SC.cnt m ((i : Int) + 1) k by omega]
theorem mems_sum (m b : Int) : ∀ n : Nat, (mems m b n).sum = gsum m b n
  | 0 => by
    have := gsum_even (m := m) (b := b) (h := 0)
    simp only [mems, List.range_zero, List.map_nil, List.sum_nil]
    simpa using this.symm
  | n + 1 => by
    have ih := mems_sum m b n
    have gs := gsum_step (m := m) (b := b) (c := (n : Int))
    unfold mems at ih ⊢
    rw [List.range_succ, List.map_append, List.sum_append, ih]
    simp only [List.map_cons, List.map_nil, List.sum_cons, List.sum_nil]
    rw [show ((n + 1 : Nat) : Int) = (n : Int) + 1 by omega]
    omega
theorem mems_take (m b : Int) (n k : Nat) (h : k ≤ n) : (mems m b n).take k = mems m b k := by
  unfold mems
  rw [← List.map_take, List.take_range, Nat.min_eq_left h]
theorem le_mulR {l m : Int} (hl : 0 ≤ l) (hm : 1 ≤ m) : l ≤ l * m := by
  have := Int.mul_le_mul_of_nonneg_left hm hl
  omega
theorem mems_nd {m b : Int} (hm : 0 < m) (b1 : 1 ≤ b) (b2 : b ≤ m) (n : Nat) : (mems m b n).Nodup := by
  unfold mems List.Nodup
  rw [List.pairwise_map]
  refine List.pairwise_lt_range.imp ?_
  intro x y h e
  have h1 := (mem_parts (i := (x : Int)) hm b1 b2).1
  have h2 := (mem_parts (i := (y : Int)) hm b1 b2).1
  rw [e] at h1
  omega
theorem mems_get (m b : Int) {n i : Nat} (h : i < n) : (mems m b n)[i]? = some (mem m b i) := by
  unfold mems
  rw [List.getElem?_map, List.getElem?_range h]
  rfl
/-- seeds of one group share one of the other draw exactly if its number divides -/
theorem refine_rule {m o : Int} (hm : 0 < m) (ho : 0 < o) : (m % o = 0 → ∀ a b : Int, blk m a = blk m b → blk o a = blk o b) ∧ (blk o (2 * m) = blk o 1 → m % o = 0) := by
  constructor
  · intro h a b e
    have d : 2 * o ∣ 2 * m := Int.mul_dvd_mul_left 2 (Int.dvd_of_emod_eq_zero h)
    rw [blk_eq hm] at e
    rw [blk_eq ho]
    rcases e with e | e
    · exact .inl (Int.dvd_trans d e)
    · exact .inr (Int.dvd_trans d e)
  · intro e
    rw [blk_eq ho] at e
    rcases e with ⟨k, hk⟩ | ⟨k, hk⟩
    · exfalso
      rw [Int.mul_assoc] at hk
      omega
    · rw [Int.mul_assoc] at hk
      exact Int.emod_eq_zero_of_dvd ⟨k, by omega⟩
theorem w_neS {H : Hp} {Q : VK} {x y : Str} (k : Q (.bl (decide (x ≠ y))) H) : rNe (.str x) (.str y) H Q := ⟨rfl, by
  have e : (!decide (V.str x = V.str y)) = decide (x ≠ y) := by simp
  rw [e]; exact k⟩
theorem dget_of {H : Hp} {a : Addr} {kvs : List (Key × V)} {x : Int} {v : V} (e : H a = some (.dK kvs)) (hv : valV kvs (.inl x) = some v) : DGet H a (.int x) (some v) := by
  rw [← hv]
  exact DGet.k (k := .inl x) e
end SC

set_option Elab.async false
set_option linter.all false
set_option maxRecDepth 100000
set_option maxHeartbeats 4000000
/-! A generator expression inside any(..), all(..): its element is read by the hand layer, in the generator's own frame. -/
namespace SC
open PySem PySem.Spec PyProof.Rows L2 GenW GxR

/-- where the element runs: the generator's frame over the def's -/
abbrev gxc (X : Cx) (B : Around) (s : Shared) (H : Hp) (ce : Env) (fp : List Addr) (pn : List (Addr × Obj)) : Cx :=
  { X with A := B, s_0 := s, H_0 := H, env := ce, outer := X.stack, stack := ce :: X.stack, ex := fp, fn := fun _ => false, calm := true, pn := pn, xe := fun _ _ => False }
abbrev gxe (X : Cx) (scope : Scope) (C : Addr) (cd : Value) : Env := genEnv scope (L2.cloFrom X.env.cells scope.names []) C cd builtinsNs X.env

theorem over_gx {B : Around} {elt : Expr} {gs : List Comprehension} {scope : Scope} {pos : Pos} {it acc : Value} {ce : Env} : B.over (.compLoop (.GeneratorExp elt gs scope pos) 0 it acc ce) [] = B.deeper ce := by
  first
    | rfl
    | (obtain ⟨hd, d, fr, gs, u⟩ := B
       simp [Around.over, Around.deeper, marksOver, frameCount, unitsOf, envsOf, guardsOf, pushEnvs, pushGuards, Code.envs, Code.env?, Code.isFrame, Code.guards, Code.isGuard, Code.weight, Code.frames, Code.isCreation, Code.isCaller, Code.cUnits]
       cases fr <;> rfl)

theorem inv_gens {X : Cx} {pins : List (Addr × Obj)} {σ : L2.St} {H : Hp} {s s' : Shared} (I : Inv X pins σ H s) (ho : s'.os = s.os) (hk : ∀ b o, s.heap.get? b = some o → s'.heap.get? b = some o) (hg : AllBare s'.gens) : Inv X pins σ H s' :=
  I.call' (ch := []) ho (Un.kept hk) (I.hok.kept hk) hg fun b hb => by simp at hb

section
variable {X : Cx} {pins : List (Addr × Obj)} {σ : L2.St} {H : Hp} {s : Shared}
/-- the generator has been made -/
theorem gx_start {scope : Scope} {own : List (Str × Nat)} {fp : List Addr} {B : Around} {cd it : Value} {a : Addr} {go : Obj} {h5 : Heap} {G : Array GenState} {tk : Nat}
    (I : Inv X pins σ H s) (ok : BlkOk X.N X.env.scope scope own) (hcell : ∀ y ∈ scope.names, y.2 ≠ .cell) (hN : X.N.Nodup) (hfp : ∀ b ∈ fp, FpOk X pins H b ∧ b < s.heap.objs.size)
    (hB : B.handled = none) (hBf : B.frames = some (gxe X scope s.heap.objs.size cd :: X.stack))
    (kp : ∀ b o, s.heap.get? b = some o → h5.get? b = some o) (hns : h5.Ns s.heap.objs.size (fun y => if y = (".0" : Str) then some it else none))
    (ha : h5.get? a = some go) (hal : s.heap.objs.size < a) (hgo : ∀ v, go.data ≠ .cell v) (hG : AllBare G) :
    Inv (gxc X B s H (gxe X scope s.heap.objs.size cd) fp [(a, go)]) [] (wipe σ (own.map (·.2))) H { s with heap := h5, gens := G, toks := tk } := by
  have hfree : ∀ y ∈ scope.names, y.2 = .free → ∃ c, X.env.cells.lookup y.1 = some c := fun y hy e => (ok.free y hy e).elim (fun q => I.ok.has _ (.inl q)) fun q => I.ok.has _ (.inr q)
  have cL : (gxe X scope s.heap.objs.size cd).locals = s.heap.objs.size := rfl
  have cF : (gxe X scope s.heap.objs.size cd).frame = some (gxe X scope s.heap.objs.size cd).locals := rfl
  have cm : ∀ {y c}, (gxe X scope s.heap.objs.size cd).cells.lookup y = some c → X.env.cells.lookup y = some c ∧ c < s.heap.objs.size := fun {y c} e => by
    have e1 : (L2.cloFrom X.env.cells scope.names []).lookup y = some c := e
    rcases cloFrom_mem (PySem.mem_of_lookup e1) with z | ⟨h1, h2⟩
    · cases z
    · obtain ⟨d, hd⟩ := hfree _ h1 rfl
      rw [hd] at h2
      have h3 : c = d := h2
      subst h3
      obtain ⟨v, q⟩ := I.cell _ _ hd
      exact ⟨hd, q.lt⟩
  have look : ∀ {y}, scope.names.lookup y = some .free → ∃ c, (gxe X scope s.heap.objs.size cd).cells.lookup y = some c ∧ X.env.cells.lookup y = some c := fun {y} hl => by
    obtain ⟨c, hc⟩ := mem_lookup (cloFrom_has (cells := X.env.cells) (acc := []) (PySem.mem_of_lookup hl))
    exact ⟨c, hc, (cm hc).1⟩
  have kO : ∀ y, (gxe X scope s.heap.objs.size cd).kindOf y = scope.names.lookup y := fun _ => rfl
  have nst : ∀ b, s.heap.objs.size ≤ b → b ∉ frs X.stack := fun b hb hm => by
    rcases List.mem_cons.mp (I.stkSub b hm) with z | z
    · have := I.lt
      rw [← z] at this
      exact absurd (Nat.lt_of_lt_of_le this hb) (Nat.lt_irrefl _)
    · exact I.nofs hb z
  have okG : (gxc X B s H (gxe X scope s.heap.objs.size cd) fp [(a, go)]).Ok := by
    refine ⟨I.ok.mod, ok.kind, I.ok.glob, rfl, Nat.le_refl _, fun y z c e1 e2 => I.ok.inj y z c (cm e1).1 (cm e2).1, fun y hy => ?_, fun y c z e => ?_, fun _ => hB, hBf, .inr ⟨rfl, cF⟩,
      fun b hb => ⟨?_, fun y c e => (hfp b hb).1.2.2.2.2.1 y c (cm e).1⟩, I.bs, Nat.le_trans I.ok.bsz I.sz, fun b o e hb => ?_, fun b hb z => ?_, I.stack, I.stkFree⟩
    · rcases hy with hy | hy
      · exact absurd rfl (hcell _ (PySem.mem_of_lookup ((kO y).symm.trans hy)))
      · obtain ⟨c, h1, _⟩ := look ((kO y).symm.trans hy)
        exact ⟨c, h1⟩
    · exact absurd (show false = true from z) Bool.false_ne_true
    · exact Nat.ne_of_lt (hfp b hb).2
    · rcases (hfp b hb).1.2.2.2.1 with z | z
      · exact I.ok.noex b o e z
      · exact absurd (Nat.lt_of_lt_of_le (Heap.lt_size e) (Nat.le_trans I.ok.bsz z)) (Nat.lt_irrefl _)
    · rcases List.mem_cons.mp (I.stkSub b z) with z | z
      · exact (hfp b hb).1.2.1 z
      · exact (hfp b hb).1.2.2.1 z
  refine ⟨okG, rfl, hG, Un.kept kp, ⟨_, hns, fun i y av e1 e2 e3 => ?_⟩, fun y c e => ?_, I.hok.fresh (Nat.le_refl _), fun y c e => I.freeC y c (cm e).1, fun p hp => ?_, I.hok.kept kp, by rw [wipe_length]; exact I.len⟩
  · obtain ⟨e2, hne⟩ := wipe_some e2
    have no : ∀ k, scope.names.lookup y = some k → ¬ (k = .local ∨ k = .cell) := fun k hk hh => by
      rcases ok.own _ (PySem.mem_of_lookup hk) hh with z | z
      · obtain ⟨p, hp, hpy⟩ := List.mem_map.mp z
        have e4 := ok.ix p hp
        have e5 : p.1 = y := hpy
        rw [e5] at e4
        exact hne (List.mem_map.mpr ⟨p, hp, nodup_ix hN e4 e1⟩)
      · exact z (List.mem_of_getElem? e1)
    have hfr : scope.names.lookup y = some .free := by
      have e3 : Vis scope y := e3
      rcases e3 with q | q | q
      · exact absurd (.inl rfl) (no _ q)
      · exact absurd (.inr rfl) (no _ q)
      · exact q
    obtain ⟨m, hn, hl⟩ := I.loc
    have hvis : Vis X.env.scope y := (ok.free _ (PySem.mem_of_lookup hfr) rfl).elim (fun q => .inr (.inl q)) fun q => .inr (.inr q)
    obtain ⟨u, r, q⟩ := hl i y av e1 e2 hvis
    obtain ⟨c, h1, h2⟩ := look hfr
    refine ⟨u, r, .inr ⟨.inr ((kO y).trans hfr), c, h1, ?_⟩⟩
    rcases q with ⟨q, _⟩ | ⟨_, c', e', z⟩
    · have q : X.env.scope.names.lookup y = some .local := q
      rcases ok.free _ (PySem.mem_of_lookup hfr) rfl with q' | q' <;> rw [show X.env.scope.names.lookup y = _ from q'] at q <;> cases q
    · rw [h2] at e'; cases e'
      exact z.keeps kp
  · obtain ⟨v, z⟩ := I.cell y c (cm e).1
    exact ⟨v, z.keeps kp⟩
  · have e : p = (a, go) := by
      have hp : p ∈ [(a, go)] ++ [] := hp
      simpa using hp
    subst e
    exact ⟨ha, I.hok.fresh (Nat.le_of_lt hal), Nat.ne_of_gt hal, nst a (Nat.le_of_lt hal), hgo⟩
end

/-- it sleeps with an item out -/
def GxY (Z : Cx) (σw : L2.St) (fp : List Addr) (tn : Nat → Heap → Prop) (W : Nat → Nat → Hp → Prop) (Out : Nat → Nat → V → Hp → Prop) : Protocol := fun _ _ v s kap =>
  ∃ (i m : Nat) (y : V) (H : Hp), RelV y v ∧ Inv Z [] σw H s ∧ tn (i + 1) s.heap ∧ (∀ b ∈ fp, H b = none) ∧ Out i m y H ∧
    ∀ s' H' m', Inv Z [] σw H' s' → tn (i + 1) s'.heap → (∀ b ∈ fp, H' b = none) → m' < m → W (i + 1) m' H' → kap (.send .none) s'
def GxE (Z : Cx) (σw : L2.St) (Fin : Nat → Nat → Hp → Prop) : GenEnd := fun _ _ r s => ((r = .ok (.ret .none) ∨ r = .ok .next) ∧ ∃ i m H, Inv Z [] σw H s ∧ Fin i m H) ∨ ∃ e, r = .error e ∧ False

section
variable {Z : Cx} {B : Around} {elt iter tg : Expr} {scope : Scope} {pos : Pos} {it : Addr} {fp : List Addr} {tn : Nat → Heap → Prop} {J : It} {g : TG} {te : TE} {σ : L2.St} {vs : List Nat} {W : Nat → Nat → Hp → Prop} {Out : Nat → Nat → V → Hp → Prop} {Fin : Nat → Nat → Hp → Prop}
theorem gx_seg (hA : B.deeper Z.env = Z.A) (hc : Z.calm = true) (hex : Z.ex = fp) (hpn : ∀ p ∈ Z.pn, p.1 ∉ fp) (hxe : Z.xe = fun _ _ => False) (hco : Z.env.scope.isCoroutine = false)
    (T : Turn Z.prog Z.w Z.K tg J fp it tn) (pg : PG Z tg g) (pe : PE Z elt te)
    (turn : ∀ i m H, W i m H → (J.stop i H ∧ Fin i m H) ∨ (J.go i H ∧ ∀ x H', J.yld i H x H' → g x (wipe σ vs) H' fun σ2 H2 => wipe σ2 vs = wipe σ vs ∧ te σ2 H2 fun y H4 => Out i m y H4)) :
    ∀ (n m i : Nat) (s₀ s : Shared) (H : Hp), m < n → Inv Z [] (wipe σ vs) H s → tn i s.heap → (∀ b ∈ fp, H b = none) → W i m H →
      Seg (model Z.prog Z.w) B (GxE Z (wipe σ vs) Fin) (GxY Z (wipe σ vs) fp tn W Out) n s₀ (.compLoop (.GeneratorExp elt [⟨tg, iter, [], 0⟩] scope pos) 0 (.ref it) .none Z.env)
        ((model Z.prog Z.w).den (.compLoop (.GeneratorExp elt [⟨tg, iter, [], 0⟩] scope pos) 0 (.ref it) .none Z.env)) [] s := by
  have stat : ∀ {σ' : L2.St} {H' : Hp} {s' : Shared}, Inv Z [] σ' H' s' → (∀ b ∈ fp, H' b = none) → ∀ b ∈ fp, FpOk Z [] H' b := fun {σ' H' s'} I' hn b hb => by
    have hb' : b ∈ Z.ex := by rw [hex]; exact hb
    refine ⟨hn b hb, (I'.ok.exf b hb').1, I'.ok.exfs b hb', .inl hb', fun x c e => (I'.ok.exf b hb').2 x c e, fun p hp z => ?_⟩
    rw [List.append_nil] at hp
    exact hpn p hp (z ▸ hb)
  intro n
  induction n with
  | zero => intro m i s₀ s H hm; exact absurd hm (Nat.not_lt_zero _)
  | succ n ih =>
    intro m i s₀ s H hm I st fr w
    show Seg _ B _ _ _ s₀ _ ((compTurn (.GeneratorExp elt [⟨tg, iter, [], 0⟩] scope pos) 0 (.ref it) .none Z.env).onRaise (leaving Z.env)) [] s
    rw [compTurn_gen, Sem.onRaise_eq_wrap]
    refine seg_bind_wrap (wpAny_standAt ?_)
    refine seg_bind_wrap ?_
    rw [over_gx, hA]
    rcases turn i m H w with ⟨stop, qq⟩ | ⟨go, step⟩
    · refine wpAny_mono (T.done Z rfl rfl rfl hc i [] s _ H (fun _ _ => False) I (stat I fr) st stop) (fun r s1 h1 => ?_) fun _ _ z => z.elim
      obtain ⟨hr, I1⟩ := h1
      subst hr
      exact seg_end (.ok .next) (.inl ⟨.inr rfl, i, m, H, I1, qq⟩)
    · refine wpAny_mono (T.item Z rfl rfl rfl hc i [] s _ H (fun _ _ => False) I (stat I fr) st go) (fun r s1 h1 => ?_) fun _ _ z => z.elim
      obtain ⟨u, hr, h2⟩ := h1
      subst hr
      refine seg_bind_wrap ?_
      rw [over_gx, hA]
      refine wpAny_mono h2 (fun _ s2 h3 => ?_) fun _ _ z => z.elim
      obtain ⟨x, H2, I2, r2, y2, st2, n2⟩ := h3
      have I2' := I2.pinned (stat I2 n2) (T.obj _ _ st2)
      refine seg_bind_wrap ?_
      rw [over_gx, hA]
      have pgr := pg.run _ s2 _ H2 x u _ I2' r2 (step x H2 y2)
      rw [hxe] at pgr
      refine wpAny_mono pgr (fun _ s3 h4 => ?_) fun _ _ z => z.elim
      obtain ⟨σ3, H3, I3, hw3, q3⟩ := h4
      refine seg_bind_wrap (wpAny_tests_nil ?_)
      simp only [if_true]
      have hy : ∀ v, yieldOut Z.env v = yieldValue v := fun v => by simp only [yieldOut, hco, Bool.false_eq_true, if_false]
      simp only [hy]
      rw [Sem.bind_eq_wrap', Sem.bind_eq_wrap', Sem.wrap_wrap, Sem.wrap_wrap]
      refine seg_wrap ?_
      rw [over_gx, hA]
      have per := pe.run _ s3 σ3 H3 _ I3 q3
      rw [hxe] at per
      refine wpAny_mono per (fun v s4 h5 => ?_) fun _ _ z => z.elim
      obtain ⟨y, H4, I4, r4, out⟩ := h5
      have pin' : ∀ b ∈ fp, ∀ o, s2.heap.get? b = some o → s4.heap.get? b = some o ∧ H4 b = none := fun b hb o e =>
        let z := I4.pin (b, o) (List.mem_append_right _ (List.mem_append_right _ (mem_pinsAt hb e)))
        ⟨z.1, z.2.1⟩
      have hl : (wipe σ vs).length = σ3.length := by rw [← hw3, wipe_length]
      refine seg_at (seg_yield rfl rfl rfl ⟨i, m, y, H4, r4, (I4.unpinned (pins := [])).weak hl (fun j v e => ?_), T.keep _ _ _ st2 fun b hb o e => (pin' b hb o e).1, fun b hb => ?_, out, fun s'' H'' m'' I'' st'' fr'' hm'' w'' => ?_⟩)
      · rw [← hw3] at e
        exact (wipe_some e).1
      · obtain ⟨o, e, _⟩ := T.obj _ _ st2 b hb
        exact (pin' b hb o e).2
      · exact seg_again rfl (ih m'' (i + 1) s'' s'' H'' (by omega) I'' st'' fr'' w'')
theorem gx_seg0 {n : Nat} {s₀ s : Shared} (st : tn 0 s.heap) (T : Turn Z.prog Z.w Z.K tg J fp it tn)
    (loop : Seg (model Z.prog Z.w) B (GxE Z (wipe σ vs) Fin) (GxY Z (wipe σ vs) fp tn W Out) n s₀ (.compLoop (.GeneratorExp elt [⟨tg, iter, [], 0⟩] scope pos) 0 (.ref it) .none Z.env)
        ((model Z.prog Z.w).den (.compLoop (.GeneratorExp elt [⟨tg, iter, [], 0⟩] scope pos) 0 (.ref it) .none Z.env)) [] s) :
    Seg (model Z.prog Z.w) B (GxE Z (wipe σ vs) Fin) (GxY Z (wipe σ vs) fp tn W Out) n s₀ (.compStart (.GeneratorExp elt [⟨tg, iter, [], 0⟩] scope pos) 0 (.ref it) .none Z.env)
        ((model Z.prog Z.w).den (.compStart (.GeneratorExp elt [⟨tg, iter, [], 0⟩] scope pos) 0 (.ref it) .none Z.env)) [] s := by
  show Seg _ B _ _ _ s₀ _ ((compStart (.GeneratorExp elt [⟨tg, iter, [], 0⟩] scope pos) 0 (.ref it) .none Z.env).onRaise (leaving Z.env)) [] s
  unfold compStart
  rw [Sem.onRaise_eq_wrap]
  show Seg _ B _ _ _ s₀ _ ((ask >>= _).wrap _ _ _ _) [] s
  refine seg_bind_wrap (wpAny_askSetting ?_)
  split
  · exact seg_again rfl loop
  · first
      | exact seg_bind_wrap (wpAny_rule (seg_bind_wrap (wpAny_standAt (seg_bind_wrap (T.self _ 0 s _ _ st (seg_again rfl loop))))))
      | (refine seg_bind_wrap (wpAny_rule ?_); show Seg _ B _ _ _ s₀ _ ((standAt iter.pos >>= _).wrap _ _ _ _) [] s; exact seg_bind_wrap (wpAny_standAt (seg_bind_wrap (T.self _ 0 s _ _ st (seg_again rfl loop)))))
end

section
variable {Z : Cx} {σw : L2.St} {fp : List Addr} {tn : Nat → Heap → Prop} {W : Nat → Nat → Hp → Prop} {Out : Nat → Nat → V → Hp → Prop} {Fin : Nat → Nat → Hp → Prop} {A : Around} {R : Result → Shared → Prop} {a : Addr} {g : Nat} {go : Obj}
theorem genSz {s : Shared} {g : Nat} {gs : GenState} (h : s.gens[g]? = some gs) : g < s.gens.size := (Array.getElem?_eq_some_iff.mp h).1
/-- all(g): the items are bools -/
theorem all_turns (hh : A.handled = none) (hd : A.depth < recursionLimit) (hpn : (a, go) ∈ Z.pn) (hgo : ∀ h : Heap, h.get? a = some go → h.IsGen a g) (Qf : Hp → Prop)
    (hout : ∀ i m y H, Out i m y H → ∃ b, y = .bl b ∧ (b = true → ∃ m', m' < m ∧ W (i + 1) m' H) ∧ (b = false → Qf H))
    (hRt : ∀ i m H s, Fin i m H → Inv Z [] σw H s → R (.ok (.ret (.bool true))) s) (hRf : ∀ H s, Qf H → Inv Z [] σw H s → R (.ok (.ret (.bool false))) s) :
    ∀ (n : Nat) (s : Shared), s.heap.IsGen a g → s.heap.NoLimit → (∃ gs, s.gens[g]? = some gs ∧ gs.Goes (model Z.prog Z.w) A.in1.in1 (GxE Z σw Fin) (GxY Z σw fp tn W Out) n (.send .none) (s.setGen g .running)) →
      codeAny (model Z.prog Z.w) A (.builtin "all.loop" ⟨[.ref a], []⟩) R s := by
  intro n
  induction n with
  | zero =>
    intro s hg hl ⟨gs, hgs, hgo'⟩
    have hgl := genSz hgs
    refine codeAny_builtin F.entry_all_loop ?_
    rw [Around.under_plainId F.plain_all_loop _]
    show wpAny _ A.in1 (pyNext (.ref a) >>= _) _ _ s
    refine wpAny_bind (next_genG (A := A.in1) hh hl hd hg hgs hgo' (fun v s1 gs' hb hv => ?_) (fun s1 hp h' hk => ?_) fun e s1 he => he.elim)
    · obtain ⟨i, m, y, H, rv, I, st, fr, out, hk⟩ := hv
      obtain ⟨b, rfl, hbt, hbf⟩ := hout i m y H out
      obtain rfl : v = Value.bool b := rv
      refine wpAny_bind (wpAny_holding (wpAny_truthy_bool (wpAny_bind (wpAny_letGo ?_))))
      cases b with
      | true =>
        obtain ⟨m', hm, w'⟩ := hbt rfl
        exact (hk _ H m' I st fr hm w').elim
      | false =>
        simp only [Bool.false_eq_true, if_false]
        exact wpAny_bind (wpAny_rule (wpAny_pure (hRf H _ (hbf rfl) (inv_gens I rfl (fun _ _ e => e) (allBare_setGen I.bare hb)))))
    · obtain ⟨i, m, H, I, q⟩ := hp
      exact wpAny_bind (wpAny_rule (wpAny_pure (hRt i m H _ q (inv_gens I rfl hk (allBare_setGen I.bare rfl)))))
  | succ n ih =>
    intro s hg hl ⟨gs, hgs, hgo'⟩
    have hgl := genSz hgs
    refine codeAny_builtin F.entry_all_loop ?_
    rw [Around.under_plainId F.plain_all_loop _]
    show wpAny _ A.in1 (pyNext (.ref a) >>= _) _ _ s
    refine wpAny_bind (wpAny_gsz (n := g + 1) hgl (next_genG (A := A.in1) hh hl hd hg hgs hgo' (fun v s1 gs' hb hv => ?_) (fun s1 hp h' hk => ?_) fun e s1 he => he.elim))
    · intro hsz
      obtain ⟨i, m, y, H, rv, I, st, fr, out, hk⟩ := hv
      obtain ⟨b, rfl, hbt, hbf⟩ := hout i m y H out
      obtain rfl : v = Value.bool b := rv
      refine wpAny_bind (wpAny_holding (wpAny_truthy_bool (wpAny_bind (wpAny_letGo ?_))))
      have I2 : Inv Z [] σw H (s1.setGen g gs') := inv_gens I rfl (fun _ _ e => e) (allBare_setGen I.bare hb)
      cases b with
      | true =>
        obtain ⟨m', hm, w'⟩ := hbt rfl
        have hsz1 : g < s1.gens.size := by
          rw [setGen_size] at hsz; omega
        have I3 : Inv Z [] σw H ((s1.setGen g gs').setGen g .running) := inv_gens I2 rfl (fun _ _ e => e) (allBare_setGen I2.bare rfl)
        simp only [if_true]
        refine wpAny_pure ⟨plainId_quiet F.plain_all_loop _, ih (s1.setGen g gs') (hgo _ (I2.pin (a, go) (List.mem_append_left _ hpn)).1) I2.nolimit ⟨gs', setGen_at hsz1, ?_⟩⟩
        exact hk _ H m' I3 st fr hm w'
      | false =>
        simp only [Bool.false_eq_true, if_false]
        exact wpAny_bind (wpAny_rule (wpAny_pure (hRf H _ (hbf rfl) I2)))
    · intro _
      obtain ⟨i, m, H, I, q⟩ := hp
      exact wpAny_bind (wpAny_rule (wpAny_pure (hRt i m H _ q (inv_gens I rfl hk (allBare_setGen I.bare rfl)))))
/-- any(g): the items are bools -/
theorem any_turns (hh : A.handled = none) (hd : A.depth < recursionLimit) (hpn : (a, go) ∈ Z.pn) (hgo : ∀ h : Heap, h.get? a = some go → h.IsGen a g) (Qt : Hp → Prop)
    (hout : ∀ i m y H, Out i m y H → ∃ b, y = .bl b ∧ (b = false → ∃ m', m' < m ∧ W (i + 1) m' H) ∧ (b = true → Qt H))
    (hRf : ∀ i m H s, Fin i m H → Inv Z [] σw H s → R (.ok (.ret (.bool false))) s) (hRt : ∀ H s, Qt H → Inv Z [] σw H s → R (.ok (.ret (.bool true))) s) :
    ∀ (n : Nat) (s : Shared), s.heap.IsGen a g → s.heap.NoLimit → (∃ gs, s.gens[g]? = some gs ∧ gs.Goes (model Z.prog Z.w) A.in1.in1 (GxE Z σw Fin) (GxY Z σw fp tn W Out) n (.send .none) (s.setGen g .running)) →
      codeAny (model Z.prog Z.w) A (.builtin "any.loop" ⟨[.ref a], []⟩) R s := by
  intro n
  induction n with
  | zero =>
    intro s hg hl ⟨gs, hgs, hgo'⟩
    have hgl := genSz hgs
    refine codeAny_builtin F.entry_any_loop ?_
    rw [Around.under_plainId F.plain_any_loop _]
    show wpAny _ A.in1 (pyNext (.ref a) >>= _) _ _ s
    refine wpAny_bind (next_genG (A := A.in1) hh hl hd hg hgs hgo' (fun v s1 gs' hb hv => ?_) (fun s1 hp h' hk => ?_) fun e s1 he => he.elim)
    · obtain ⟨i, m, y, H, rv, I, st, fr, out, hk⟩ := hv
      obtain ⟨b, rfl, hbt, hbf⟩ := hout i m y H out
      obtain rfl : v = Value.bool b := rv
      refine wpAny_bind (wpAny_holding (wpAny_truthy_bool (wpAny_bind (wpAny_letGo ?_))))
      cases b with
      | false =>
        obtain ⟨m', hm, w'⟩ := hbt rfl
        exact (hk _ H m' I st fr hm w').elim
      | true =>
        simp only [if_true]
        exact wpAny_bind (wpAny_rule (wpAny_pure (hRt H _ (hbf rfl) (inv_gens I rfl (fun _ _ e => e) (allBare_setGen I.bare hb)))))
    · obtain ⟨i, m, H, I, q⟩ := hp
      exact wpAny_bind (wpAny_rule (wpAny_pure (hRf i m H _ q (inv_gens I rfl hk (allBare_setGen I.bare rfl)))))
  | succ n ih =>
    intro s hg hl ⟨gs, hgs, hgo'⟩
    have hgl := genSz hgs
    refine codeAny_builtin F.entry_any_loop ?_
    rw [Around.under_plainId F.plain_any_loop _]
    show wpAny _ A.in1 (pyNext (.ref a) >>= _) _ _ s
    refine wpAny_bind (wpAny_gsz (n := g + 1) hgl (next_genG (A := A.in1) hh hl hd hg hgs hgo' (fun v s1 gs' hb hv => ?_) (fun s1 hp h' hk => ?_) fun e s1 he => he.elim))
    · intro hsz
      obtain ⟨i, m, y, H, rv, I, st, fr, out, hk⟩ := hv
      obtain ⟨b, rfl, hbt, hbf⟩ := hout i m y H out
      obtain rfl : v = Value.bool b := rv
      refine wpAny_bind (wpAny_holding (wpAny_truthy_bool (wpAny_bind (wpAny_letGo ?_))))
      have I2 : Inv Z [] σw H (s1.setGen g gs') := inv_gens I rfl (fun _ _ e => e) (allBare_setGen I.bare hb)
      cases b with
      | false =>
        obtain ⟨m', hm, w'⟩ := hbt rfl
        have hsz1 : g < s1.gens.size := by
          rw [setGen_size] at hsz; omega
        have I3 : Inv Z [] σw H ((s1.setGen g gs').setGen g .running) := inv_gens I2 rfl (fun _ _ e => e) (allBare_setGen I2.bare rfl)
        simp only [Bool.false_eq_true, if_false]
        refine wpAny_pure ⟨plainId_quiet F.plain_any_loop _, ih (s1.setGen g gs') (hgo _ (I2.pin (a, go) (List.mem_append_left _ hpn)).1) I2.nolimit ⟨gs', setGen_at hsz1, ?_⟩⟩
        exact hk _ H m' I3 st fr hm w'
      | true =>
        simp only [if_true]
        exact wpAny_bind (wpAny_rule (wpAny_pure (hRt H _ (hbf rfl) I2)))
    · intro _
      obtain ⟨i, m, H, I, q⟩ := hp
      exact wpAny_bind (wpAny_rule (wpAny_pure (hRf i m H _ q (inv_gens I rfl hk (allBare_setGen I.bare rfl)))))
end

/-- what a generator expression's scope is to be -/
structure GxS (scope : Scope) : Prop where
  co : scope.isCoroutine = false
  cell : ∀ y ∈ scope.names, y.2 ≠ .cell
  dot : scope.names.lookup (".0" : Str) = some NameKind.local

section
variable {X : Cx} {pins : List (Addr × Obj)} {σ : L2.St} {H : Hp} {s : Shared}
/-- the generator stands at a, not begun -/
structure GxM (X : Cx) (pins : List (Addr × Obj)) (σ : L2.St) (tg elt iter : Expr) (scope : Scope) (own : List (Str × Nat)) (pos : Pos) (B : Around) (P : Addr) (R : It → Hp → Prop) (a : Addr) (s5 : Shared) : Prop where
  ex : ∃ (it : Addr) (fp : List Addr) (tn : Nat → Heap → Prop) (J : It) (H1 H2 : Hp) (s4 : Shared) (cd : Value) (g : Nat) (go : Obj),
    R J H1 ∧ Tabbed P H1 H2 ∧ Inv X pins σ H2 s4 ∧ (∀ b ∈ fp, FpOk X pins H2 b) ∧ Turn X.prog X.w X.K tg J fp it tn ∧ tn 0 s5.heap ∧ a ∉ fp ∧
    Inv (gxc X (B.deeper (gxe X scope s4.heap.objs.size cd)) s4 H2 (gxe X scope s4.heap.objs.size cd) fp [(a, go)]) [] (wipe σ (own.map (·.2))) H2 s5 ∧
    s5.gens[g]? = some (.fresh (.compStart (.GeneratorExp elt [⟨tg, iter, [], 0⟩] scope pos) 0 (.ref it) .none (gxe X scope s4.heap.objs.size cd))) ∧ ∀ h : Heap, h.get? a = some go → h.IsGen a g
theorem gx_make {B : Around} {c P : Addr} {elt tg iter : Expr} {scope : Scope} {own : List (Str × Nat)} {pos : Pos} {wi : TI} {k : Nat} {Q' : Value → Shared → Prop} {R : It → Hp → Prop}
    (hr : Room k X.A) (hB : B.handled = none) (hBf : B.frames = X.A.frames) (TB : TabB X.base X.mg c P) (hcode : X.env.code = .ref c) (hi : PI X tg iter wi) (hN : X.N.Nodup) (ok : BlkOk X.N X.env.scope scope own) (S : GxS scope)
    (hs : ∀ v, genFold iter X.env v = pure v) (I : Inv X pins σ H s) (h : wi σ H fun J H1 => TabG H1 P ∧ R J H1)
    (hQ : ∀ a s5, GxM X pins σ tg elt iter scope own pos B P R a s5 → Q' (.ref a) s5) :
    wpAny (model X.prog X.w) X.A (eval (.GeneratorExp elt [⟨tg, iter, [], 0⟩] scope pos) X.env) Q' X.xe s := by
  have hfree : ∀ y ∈ scope.names, y.2 = .free → ∃ c, X.env.cells.lookup y.1 = some c := fun y hy e => (ok.free y hy e).elim (fun q => I.ok.has _ (.inl q)) fun q => I.ok.has _ (.inr q)
  refine wpAny_GeneratorExp_make S.co (L2.closure_ok hfree) S.cell S.dot ok.kind hr.depth ?_ hs
  refine thn (hi.run pins s σ H _ I h) fun xv s1 h1 => thn h1 fun itv s2 h2 => ?_
  obtain ⟨it, fp, tn, J, H1, rfl, I2, T, st2, f2, ⟨ps, hP, ht⟩, q1⟩ := h2
  have hPs : s2.heap.get? P = some { cls := .none, data := .fields ps } := I2.hok P _ hP
  have cd : PySem.W.CodeHd s2.heap c P := TB.code.keeps fun b u e => I2.bk b u e
  have nfp : ∀ b ∈ fp, b ≠ P := fun b hb z => by
    have := (f2 b hb).1
    rw [z, hP] at this; cases this
  have fsz : ∀ b ∈ fp, b < s2.heap.objs.size := fun b hb => by
    obtain ⟨o, e, _⟩ := T.obj _ _ st2 b hb
    exact Heap.lt_size e
  have cont : ∀ (code : Value) (h3 : Heap) (tk : Nat) (more : Array Value), Heap.ExtBut P s2.heap h3 → s2.heap.objs.size ≤ h3.objs.size → h3.get? P = some { cls := .none, data := .fields (ps ++ more) } → TriplesOk (ps ++ more).toList →
      wpAny (model X.prog X.w) X.A (builtinsFor X.env.globals X.env.builtins) (fun bi s4 =>
        ∀ h', h'.Ns s4.heap.objs.size (fun y => if y = (".0" : Str) then some (.ref it) else none) → Heap.SameBut s4.heap.objs.size (s4.heap.push { cls := .type "frame", data := .dict #[] }) h' →
          Q' (.ref h'.objs.size) { s4 with
            gens := s4.gens.push (.fresh (.compStart (.GeneratorExp elt [⟨tg, iter, [], 0⟩] scope pos) 0 (.ref it) .none (genEnv scope (L2.cloFrom X.env.cells scope.names []) s4.heap.objs.size code bi X.env))),
            toks := s4.toks + 1 + 1 + 1,
            heap := h'.push { cls := .type "generator", data := .fields #[.int s4.gens.size 0, .str "<genexpr>" (s4.toks + 1), .str (X.env.qual ++ "<genexpr>") (s4.toks + 1 + 1)] } }) X.xe { s2 with heap := h3, toks := tk } := by
    intro code h3 tk more hx hsz hP3 ht3
    obtain ⟨bm, ob, e1, e2, e3, e4, e5, e6, e7, e8⟩ := TB.bm
    have keep3 : ∀ b u, b ≠ P → s2.heap.get? b = some u → h3.get? b = some u := fun b u hb e => hx b u hb e
    refine wpAny_builtinsFor (m := X.mg) (by rw [I2.ok.glob]; exact (I2.mod.glob.keeps I2.bk).extBut hx TB.gP) e1 e2 (keep3 _ _ e4 (I2.bk _ _ e5)) e6 e7 e8 ?_
    intro h' hn' hs'
    have J4 := inv_tab (more := more) (h' := h3) (g' := s2.gens) (d' := s2.drawn) (t' := tk) I2 hP keep3 hP3 I2.bare
    have hT2 : Tabbed P H1 (upd H1 P (.tbl (ps ++ more))) := ⟨⟨ps ++ more, upd_same, ht3⟩, fun b hb => upd_ne hb⟩
    have f4 : ∀ b ∈ fp, FpOk X pins (upd H1 P (.tbl (ps ++ more))) b := fun b hb => ⟨by rw [upd_ne (nfp b hb)]; exact (f2 b hb).1, (f2 b hb).2⟩
    have f5 : ∀ b ∈ fp, b < h3.objs.size := fun b hb => Nat.lt_of_lt_of_le (fsz b hb) hsz
    have hsz' : h'.objs.size = h3.objs.size + 1 := by
      have z := hs'.1
      rw [Heap.size_push] at z
      exact z
    have kp' : ∀ b o, h3.get? b = some o → h'.get? b = some o := fun b o e => hs'.extBut b o (Nat.ne_of_lt (Heap.lt_size e)) (Heap.get?_push_of_some _ e)
    refine hQ _ _ ⟨it, fp, tn, J, H1, _, { s2 with heap := h3, toks := tk }, code, s2.gens.size, { cls := .type "generator", data := .fields #[.int s2.gens.size 0, .str "<genexpr>" (tk + 1), .str (X.env.qual ++ "<genexpr>") (tk + 1 + 1)] }, q1, hT2, J4, f4, T, T.keep _ _ _ st2 fun b hb o e => Heap.get?_push_of_some _ (kp' b o (keep3 b o (nfp b hb) e)), fun hm => ?_, ?_, Array.getElem?_push_size .., fun h e => ⟨_, _, _, e, rfl, rfl, rfl⟩⟩
    · have z1 : h'.objs.size < h3.objs.size := f5 _ hm
      omega
    · refine gx_start (it := .ref it) J4 ok S.cell hN (fun b hb => ⟨f4 b hb, f5 b hb⟩) hB ?_ (fun b o e => Heap.get?_push_of_some _ (kp' b o e)) (hn'.push _) (Heap.get?_push_size _ rfl) (by show h3.objs.size < h'.objs.size; omega) (fun v z => by cases z) (AllBare.push I2.bare rfl)
      show (B.frames.map (_ :: ·)) = _
      rw [hBf, I2.ok.frames]; rfl
  refine ⟨I2.nolimit, ?_⟩
  cases hf : codeAmong pos ps.toList with
  | none =>
    refine wpAny_genexprCodeX hcode (cd.code hPs ht) (cd.tab hPs) hf fun c' h' tk hx hge hlt hco' _ htab' _ => ?_
    obtain ⟨o1, vs, f1, tf, fl, tg', inF, tx, tt, op, _, _, _, _, _, _, _, _, _, htr, _⟩ := hco'
    exact cont _ h' tk _ hx (Nat.le_trans hge (Nat.le_of_lt hlt)) htab'.2 htr
  | some cv =>
    refine wpAny_genexprCode_hit hcode (cd.code hPs ht) hf ?_
    exact cont cv s2.heap s2.toks #[] (Heap.ExtBut.refl _ _) (Nat.le_refl _) (by simpa using hPs) (by simpa using ht)
end

section
variable {X : Cx}
/-- all(elt for tg in iter), any(..), the thing walked is there: W by the turn and a measure -/
def GxB (b0 : Bool) (P : Addr) (J : It) (g : TG) (te : TE) (vs : List Nat) (σ : L2.St) (H1 : Hp) (Q : VK) : Prop := TabG H1 P ∧ ∀ H2, Tabbed P H1 H2 → ∃ W : Nat → Nat → Hp → Prop, (∃ m, W 0 m H2) ∧ ∀ i m H, W i m H →
  (J.stop i H ∧ Q (.bl b0) H) ∨ (J.go i H ∧ ∀ x H', J.yld i H x H' → g x (wipe σ vs) H' fun σ2 H2 => wipe σ2 vs = wipe σ vs ∧ te σ2 H2 fun y H4 => ∃ b, y = .bl b ∧ (b = b0 → ∃ m', m' < m ∧ W (i + 1) m' H4) ∧ (b = !b0 → Q (.bl (!b0)) H4))
def tGx (b0 : Bool) (P : Addr) (wi : TI) (g : TG) (te : TE) (vs : List Nat) : TE := fun σ H Q => wi σ H fun J H1 => GxB b0 P J g te vs σ H1 Q
theorem pe_allX {c P : Addr} {elt tg iter : Expr} {scope : Scope} {own : List (Str × Nat)} {p pos gpos : Pos} {wi : TI} {g : TG} {te : TE} {k : Nat}
    (hr : Room (k + 1) X.A) (hc : X.calm = true) (hN : X.N.Nodup) (hgl : Gl X "all") (hm : X.mg "all" = none) (TB : TabB X.base X.mg c P) (hcode : X.env.code = .ref c) (hi : PI X tg iter wi) (ok : BlkOk X.N X.env.scope scope own) (S : GxS scope)
    (hg : ∀ (A' : Around) (s : Shared) (H : Hp) (C : Addr) (cd : Value) (fp : List Addr) (pn : List (Addr × Obj)), PG (gxc X A' s H (gxe X scope C cd) fp pn) tg g)
    (he : ∀ (A' : Around) (hr' : Room k A') (s : Shared) (H : Hp) (C : Addr) (cd : Value) (fp : List Addr) (pn : List (Addr × Obj)), PE (gxc X A' s H (gxe X scope C cd) fp pn) elt te)
    (hs : ∀ v, genFold iter X.env v = pure v := by intro _; rfl) (hb : bootBuiltins "all" = some (.builtin "all") := by rfl)
    (hst : starEach [.GeneratorExp elt [⟨tg, iter, [], 0⟩] scope gpos] X.env = (false, eval (.GeneratorExp elt [⟨tg, iter, [], 0⟩] scope gpos) X.env) :: starEach [] X.env := by rfl) :
    PE X (.Call (.Name "all" p) [.GeneratorExp elt [⟨tg, iter, [], 0⟩] scope gpos] [] pos) (tGx true P wi g te (own.map (·.2))) := by
  refine ⟨fun pins s σ H Q I h => ?_⟩
  refine wpAny_Call_Name_kw (ld_blt I hgl hm hb ?_)
  have hB : X.A.in1.in1.handled = none := hr.hd
  have hB1 : X.A.in1.handled = none := hr.hd
  have hd1 : X.A.depth < recursionLimit := hr.depth
  have hre : ∀ e, Room k (X.A.in1.in1.deeper e) := fun e => ⟨hr.hd, by have := hr.dp; show X.A.depth + 1 + 3 * k + 5 < _; omega, by have := hr.un; show X.A.units + 1 + 1 + 3 + 16 * k + 200 < _; omega⟩
  refine PyProof.Rows.callWith_builtin1 ?_ hst (by rfl)
  rw [hst]
  show wpAny _ _ (spliced ((false, eval (.GeneratorExp elt [⟨tg, iter, [], 0⟩] scope gpos) X.env) :: backTo pos (starEach [] X.env))) _ _ s
  refine Calls.spliced_cons (gx_make (own := own) (B := X.A.in1.in1) hr hB rfl TB hcode hi hN ok S hs I h fun a s5 G => ?_)
  refine Calls.spliced_nil ?_
  obtain ⟨it, fp, tn, J, H1, H2, s4, cd, g', go, q1, hT, I4, f4, T, st5, haf, I5, hgs, hgo⟩ := G.ex
  obtain ⟨W, ⟨m0, w0⟩, turn⟩ := q1 H2 hT
  have back : ∀ {H' : Hp} {s' : Shared} {σ' : L2.St}, Inv (gxc X (X.A.in1.in1.deeper (gxe X scope s4.heap.objs.size cd)) s4 H2 (gxe X scope s4.heap.objs.size cd) fp [(a, go)]) [] σ' H' s' → Inv X pins σ H' s' := fun {H' s' σ'} I' =>
    I4.call' (ch := fp) I'.os I'.base I'.hok I'.bare fun b hb => ⟨(f4 b hb).2.2.2.1, (f4 b hb).2.1, (f4 b hb).2.2.2.2.1, (f4 b hb).2.2.2.2.2⟩
  have hgen : s5.heap.IsGen a g' := hgo _ (I5.pin (a, go) (List.mem_append_left _ (List.mem_singleton.mpr rfl))).1
  refine call_function_tree F.kind_all F.plain_all F.entry_all (F.args_all1 _) ?_
  unfold Builtin.«all»
  refine wpAny_bind (m := oneArg "all" _) (wpAny_pure ?_)
  refine wpAny_bind (wpAny_pyIter_gen hgen ?_)
  have I6 := inv_gens (s' := s5.setGen g' .running) I5 rfl (fun _ _ e => e) (allBare_setGen I5.bare rfl)
  refine wpAny_pure ⟨plainId_quiet F.plain_all_loop _, all_turns (A := X.A) (g := g') (go := go) (Z := gxc X (X.A.in1.in1.deeper (gxe X scope s4.heap.objs.size cd)) s4 H2 (gxe X scope s4.heap.objs.size cd) fp [(a, go)]) (σw := wipe σ (own.map (·.2))) (fp := fp) (tn := tn) (W := W)
    (Out := fun i m y H4 => ∃ b, y = .bl b ∧ (b = true → ∃ m', m' < m ∧ W (i + 1) m' H4) ∧ (b = false → Q (.bl false) H4)) (Fin := fun i m H' => Q (.bl true) H') hr.hd hd1 (List.mem_singleton.mpr rfl) hgo (fun H' => Q (.bl false) H')
    (fun i m y H4 o => o) (fun i m H' s' q I' => ⟨.bl true, H', back I', rfl, q⟩) (fun H' s' q I' => ⟨.bl false, H', back I', rfl, q⟩) (m0 + 1) s5 hgen I5.nolimit ⟨_, hgs, rfl, ?_⟩⟩
  refine gx_seg0 (Z := gxc X (X.A.in1.in1.deeper (gxe X scope s4.heap.objs.size cd)) s4 H2 (gxe X scope s4.heap.objs.size cd) fp [(a, go)]) (J := J) st5 T ?_
  refine gx_seg (Z := gxc X (X.A.in1.in1.deeper (gxe X scope s4.heap.objs.size cd)) s4 H2 (gxe X scope s4.heap.objs.size cd) fp [(a, go)]) rfl rfl rfl (fun p hp => ?_) rfl S.co T (hg _ _ _ _ _ _ _) (he _ (hre _) _ _ _ _ _ _) turn (m0 + 1) m0 0 _ _ H2 (Nat.lt_succ_self _) I6 st5 (fun b hb => (f4 b hb).1) w0
  rw [List.mem_singleton.mp hp]
  exact haf
theorem pe_anyX {c P : Addr} {elt tg iter : Expr} {scope : Scope} {own : List (Str × Nat)} {p pos gpos : Pos} {wi : TI} {g : TG} {te : TE} {k : Nat}
    (hr : Room (k + 1) X.A) (hc : X.calm = true) (hN : X.N.Nodup) (hgl : Gl X "any") (hm : X.mg "any" = none) (TB : TabB X.base X.mg c P) (hcode : X.env.code = .ref c) (hi : PI X tg iter wi) (ok : BlkOk X.N X.env.scope scope own) (S : GxS scope)
    (hg : ∀ (A' : Around) (s : Shared) (H : Hp) (C : Addr) (cd : Value) (fp : List Addr) (pn : List (Addr × Obj)), PG (gxc X A' s H (gxe X scope C cd) fp pn) tg g)
    (he : ∀ (A' : Around) (hr' : Room k A') (s : Shared) (H : Hp) (C : Addr) (cd : Value) (fp : List Addr) (pn : List (Addr × Obj)), PE (gxc X A' s H (gxe X scope C cd) fp pn) elt te)
    (hs : ∀ v, genFold iter X.env v = pure v := by intro _; rfl) (hb : bootBuiltins "any" = some (.builtin "any") := by rfl)
    (hst : starEach [.GeneratorExp elt [⟨tg, iter, [], 0⟩] scope gpos] X.env = (false, eval (.GeneratorExp elt [⟨tg, iter, [], 0⟩] scope gpos) X.env) :: starEach [] X.env := by rfl) :
    PE X (.Call (.Name "any" p) [.GeneratorExp elt [⟨tg, iter, [], 0⟩] scope gpos] [] pos) (tGx false P wi g te (own.map (·.2))) := by
  refine ⟨fun pins s σ H Q I h => ?_⟩
  refine wpAny_Call_Name_kw (ld_blt I hgl hm hb ?_)
  have hB : X.A.in1.in1.handled = none := hr.hd
  have hB1 : X.A.in1.handled = none := hr.hd
  have hd1 : X.A.depth < recursionLimit := hr.depth
  have hre : ∀ e, Room k (X.A.in1.in1.deeper e) := fun e => ⟨hr.hd, by have := hr.dp; show X.A.depth + 1 + 3 * k + 5 < _; omega, by have := hr.un; show X.A.units + 1 + 1 + 3 + 16 * k + 200 < _; omega⟩
  refine PyProof.Rows.callWith_builtin1 ?_ hst (by rfl)
  rw [hst]
  show wpAny _ _ (spliced ((false, eval (.GeneratorExp elt [⟨tg, iter, [], 0⟩] scope gpos) X.env) :: backTo pos (starEach [] X.env))) _ _ s
  refine Calls.spliced_cons (gx_make (own := own) (B := X.A.in1.in1) hr hB rfl TB hcode hi hN ok S hs I h fun a s5 G => ?_)
  refine Calls.spliced_nil ?_
  obtain ⟨it, fp, tn, J, H1, H2, s4, cd, g', go, q1, hT, I4, f4, T, st5, haf, I5, hgs, hgo⟩ := G.ex
  obtain ⟨W, ⟨m0, w0⟩, turn⟩ := q1 H2 hT
  have back : ∀ {H' : Hp} {s' : Shared} {σ' : L2.St}, Inv (gxc X (X.A.in1.in1.deeper (gxe X scope s4.heap.objs.size cd)) s4 H2 (gxe X scope s4.heap.objs.size cd) fp [(a, go)]) [] σ' H' s' → Inv X pins σ H' s' := fun {H' s' σ'} I' =>
    I4.call' (ch := fp) I'.os I'.base I'.hok I'.bare fun b hb => ⟨(f4 b hb).2.2.2.1, (f4 b hb).2.1, (f4 b hb).2.2.2.2.1, (f4 b hb).2.2.2.2.2⟩
  have hgen : s5.heap.IsGen a g' := hgo _ (I5.pin (a, go) (List.mem_append_left _ (List.mem_singleton.mpr rfl))).1
  refine call_function_tree F.kind_any F.plain_any F.entry_any (F.args_any1 _) ?_
  unfold Builtin.«any»
  refine wpAny_bind (m := oneArg "any" _) (wpAny_pure ?_)
  refine wpAny_bind (wpAny_pyIter_gen hgen ?_)
  have I6 := inv_gens (s' := s5.setGen g' .running) I5 rfl (fun _ _ e => e) (allBare_setGen I5.bare rfl)
  refine wpAny_pure ⟨plainId_quiet F.plain_any_loop _, any_turns (A := X.A) (g := g') (go := go) (Z := gxc X (X.A.in1.in1.deeper (gxe X scope s4.heap.objs.size cd)) s4 H2 (gxe X scope s4.heap.objs.size cd) fp [(a, go)]) (σw := wipe σ (own.map (·.2))) (fp := fp) (tn := tn) (W := W)
    (Out := fun i m y H4 => ∃ b, y = .bl b ∧ (b = false → ∃ m', m' < m ∧ W (i + 1) m' H4) ∧ (b = true → Q (.bl true) H4)) (Fin := fun i m H' => Q (.bl false) H') hr.hd hd1 (List.mem_singleton.mpr rfl) hgo (fun H' => Q (.bl true) H')
    (fun i m y H4 o => o) (fun i m H' s' q I' => ⟨.bl false, H', back I', rfl, q⟩) (fun H' s' q I' => ⟨.bl true, H', back I', rfl, q⟩) (m0 + 1) s5 hgen I5.nolimit ⟨_, hgs, rfl, ?_⟩⟩
  refine gx_seg0 (Z := gxc X (X.A.in1.in1.deeper (gxe X scope s4.heap.objs.size cd)) s4 H2 (gxe X scope s4.heap.objs.size cd) fp [(a, go)]) (J := J) st5 T ?_
  refine gx_seg (Z := gxc X (X.A.in1.in1.deeper (gxe X scope s4.heap.objs.size cd)) s4 H2 (gxe X scope s4.heap.objs.size cd) fp [(a, go)]) rfl rfl rfl (fun p hp => ?_) rfl S.co T (hg _ _ _ _ _ _ _) (he _ (hre _) _ _ _ _ _ _) turn (m0 + 1) m0 0 _ _ H2 (Nat.lt_succ_self _) I6 st5 (fun b hb => (f4 b hb).1) w0
  rw [List.mem_singleton.mp hp]
  exact haf
end

/-! ### a def that holds a generator expression -/
section
variable {P : Program} {w : World} {K : PySem.W.Frag} {mg : Str → Option Value} {base : Heap}
theorem okT {x qual : Str} {st : Stmt} {f c : Addr} {fd : FuncData} {N ps : List Str} {k : Nat} {sp : Sp} (F : Fun K x qual st f fd) (S : FnScope N ps (defScope st)) (hc : fd.code = .ref c) (len : ∀ vs H Q E, sp vs H Q E → vs.length = ps.length)
    (hbody : ∀ (A : Around) (outer : List Env) (s : Shared) (H : Hp) (vs : List V) (Q : VK) (E : XK), Room k (A.deeper (envOfC qual (defScope st) s.heap.objs.size f (.ref c))) → sp vs H Q E →
      ∃ t, PSs (cxOf CX0 P w K mg base N qual (defScope st) f (.ref c) A outer s H E).nox (defBody st) t ∧ t { nx := fun _ H' => Q .non H', rt := Q } (start N vs) H) : FnOk P w K mg base CX0 (k + 1) f fd ps sp := by
  obtain ⟨oc, od, kV, doc, pm, an, cdv, ct, osl, rfl, lk, hcd⟩ := F.ex
  have e : cdv = .ref c := hc
  subst e
  refine fn_of lk hcd S len fun A outer s H vs Q E hr hsp => ?_
  obtain ⟨t, h, q⟩ := hbody A outer s H vs Q E hr hsp
  exact ⟨t, h.nox, q⟩
theorem okXT {x qual : Str} {st : Stmt} {f c : Addr} {fd : FuncData} {N ps : List Str} {k : Nat} {sp : Sp} (F : Fun K x qual st f fd) (S : FnScope N ps (defScope st)) (hc : fd.code = .ref c) (len : ∀ vs H Q E, sp vs H Q E → vs.length = ps.length)
    (hbody : ∀ (A : Around) (outer : List Env) (s : Shared) (H : Hp) (vs : List V) (Q : VK) (E : XK), Room k (A.deeper (envOfC qual (defScope st) s.heap.objs.size f (.ref c))) → sp vs H Q E →
      ∃ t, PSs (cxOf (L2.CX P w) P w K mg base N qual (defScope st) f (.ref c) A outer s H E) (defBody st) t ∧ t { nx := fun _ H' => Q .non H', rt := Q } (start N vs) H) : FnOk P w K mg base (L2.CX P w) (k + 1) f fd ps sp := by
  obtain ⟨oc, od, kV, doc, pm, an, cdv, ct, osl, rfl, lk, hcd⟩ := F.ex
  have e : cdv = .ref c := hc
  subst e
  exact fn_of lk hcd S len fun A outer s H vs Q E hr hsp => hbody A outer s H vs Q E hr hsp
end
theorem tab_cd {K : PySem.W.Frag} {x : Str} {f c P : Addr} {oc : Value} {od : Option Addr} {fd : FuncData} {sl : Array (Option Value)} (a : PySem.W.nsIn K mainGlobals x = some (some (.ref f))) (l : K.lookup f = some ⟨oc, od, .func fd, sl⟩) (t : PySem.W.tabIn K x = some (c, P)) : fd.code = .ref c := by
  unfold PySem.W.tabIn at t
  rw [a] at t
  dsimp only at t
  rw [l] at t
  dsimp only at t
  split at t
  · rename_i c2 hc
    split at t
    · split at t
      · cases t; exact hc
      · cases t
    · cases t
  · cases t
/-- the tables that a law reaches are there -/
def TbA (L : List Addr) (H : Hp) : Prop := ∀ P ∈ L, TabG H P
theorem TbA.go {L : List Addr} {H H' : Hp} (h : TbA L H) (s : Sm H H') : TbA L H' := fun P hp => s.tb P (h P hp)
theorem TbA.kp {L : List Addr} {a : Addr} {N : Int} {H H' : Hp} (h : TbA L H) (g : Kp a H H') (s : Src a N H) : TbA L H' := fun P hp => by
  obtain ⟨c0, c1, c2, e, _⟩ := s
  exact g.tb P (tabG_nt e (h P hp)) (h P hp)
theorem TbA.upd {L : List Addr} {H : Hp} {p : Addr} {o : HO} (h : TbA L H) (hp : H p = none) : TbA L (L2.upd H p o) := fun P hP => tabG_upd (tabG_ne hp (h P hP)) (h P hP)
theorem TbA.updN {L : List Addr} {H : Hp} {p : Addr} {o o' : HO} [NT o'] (h : TbA L H) (hp : H p = some o') : TbA L (L2.upd H p o) := fun P hP => tabG_upd (tabG_nt hp (h P hP)) (h P hP)
def spLawT (L : List Addr) (K : PySem.W.Frag) : Sp := fun vs H Q _ => ∃ (a : Addr) (ns : List Int), vs = [.ref a] ∧ SqL K H a (ns.map V.int) ∧ ns.length ≤ 63 ∧ TbA L H ∧ ∀ H', Q (.bl true) H'
theorem tb0 {L : List (Addr × Addr)} {H : Hp} (h : ∀ p ∈ L, H p.2 = some (.tbl #[])) : TbA (L.map (·.2)) H := fun P hp => by
  obtain ⟨p, hp2, rfl⟩ := List.mem_map.mp hp
  exact ⟨#[], h p hp2, trivial⟩
theorem walk_tabs {l : PySem.W.OpenLaw} {n k : Nat} {q : Program} {loose : List Str} {XP : (Str → Option Value) → Heap → Prop} {YP : World → Heap → Prop} {d : DefRec} {K : Params → PySem.W.Frag} {CX : World → CXT} {x : Str} (names : List Str)
    (hn : l.most = some n) (hn2 : n ≤ sizeLine) (hdf : d.params.defaults = []) (hr : Room k callerA) (hrec : ∀ y ∈ names, ((recsOf q).any fun e => e.name == y) = true) (hY : ∀ (w : World) (h : Heap), YP w h → (K w.params).In h)
    (F : ∀ (w : World) (mg : Str → Option Value) (fa : Addr) (h : Heap), (K w.params).In h → h.Ns mainGlobals mg → mg d.name = some (.ref fa) → (∀ y ∈ names, ∀ c P, PySem.W.tabIn (K w.params) y = some (c, P) → PySem.W.CodeHd h c P ∧ h.get? P = some { cls := .none, data := .fields #[] }) → LamX.LawAtS l w (K w.params) (CX w) k n x mg fa h)
    (hCX : ∀ (w : World) (H : Hp) (s : Shared) (e : Value) (s' : Shared), CX w [] H s (fun _ _ _ => False) e s' → False) :
    PySem.W.WalkO q loose XP YP l.row.toRowW d [] (fun f vs => PySem.call f vs) := by
  refine Att.attach_callB hn hdf fun w s₀ s₁ mg mb fa o pm cd doc a vs ns G Y ho hd hcd hmg hobj hints hlen hbits hg => ?_
  have KX := hY w _ Y
  obtain ⟨fd, cs, sp, hT, nT, C, hb, hsp, hF⟩ := F w mg fa _ KX G.T.g hmg fun y hy c P ht => by
    obtain ⟨dL, hm, hn1⟩ := List.any_eq_true.mp (hrec y hy)
    have z : ((recsOf q).find? fun e => e.name == y).isSome = true := List.find?_isSome.mpr ⟨dL, hm, hn1⟩
    obtain ⟨d', hd'⟩ := Option.isSome_iff_exists.mp z
    exact PySem.W.tab_of G.T KX hd' ht
  exact LamX.law_callTs KX G.T.g G.T.b G.T.builtins G.T.nolimit hg hT nT C G.T.bmain hobj hints (Nat.le_trans hlen hn2) hr hF hb (fun H hH hS => hsp H a ns hlen hbits hH hS) fun H e s' => hCX w H s₁ e s'

/-! ### the steps -/
section
variable {K : PySem.W.Frag} {σ : L2.St} {vs : List Nat} {H : Hp} {Q : VK} {g : TG} {te : TE} {P : Addr}
/-- over a list -/
theorem w_gxL {b0 : Bool} {a : Addr} {xs : List V} (tr : V → Bool) (hs : SqL K H a xs) (ht : TabG H P)
    (he : ∀ (i : Nat) x H', xs[i]? = some x → Sm H H' → ∀ R : VK, (∀ H2, Sm H' H2 → R (.bl (tr x)) H2) → g x (wipe σ vs) H' fun σ2 H2 => wipe σ2 vs = wipe σ vs ∧ te σ2 H2 R)
    (k : ∀ H', Sm H H' → Q (.bl (if b0 then xs.all tr else xs.any tr)) H') : ∃ b, V.ref a = .ref b ∧ (∃ xs, SqL K H b xs) ∧ GxB b0 P (Itl K b) g te vs σ H Q := by
  refine ⟨a, rfl, ⟨xs, hs⟩, ht, fun H2 hT => ?_⟩
  have s0 := Sm.tabbed ht hT
  refine ⟨fun i m H' => m = xs.length - i ∧ i ≤ xs.length ∧ Sm H H' ∧ ∀ x ∈ xs.take i, tr x = b0, ⟨_, rfl, Nat.zero_le _, s0, fun x hx => by simp at hx⟩, ?_⟩
  rintro i m H' ⟨rfl, hi, s1, ha⟩
  by_cases hlt : i < xs.length
  · refine .inr ⟨⟨xs, xs[i], s1.seq hs, by simp [hlt]⟩, fun x H3 y => ?_⟩
    obtain ⟨rfl, y⟩ := y
    have hx := y xs (s1.seq hs)
    refine he i x _ hx s1 _ fun H4 s2 => ⟨tr x, rfl, fun hb => ⟨_, ?_, rfl, hlt, s1.trans s2, fun z hz => ?_⟩, fun hb => ?_⟩
    · omega
    · rw [List.take_add_one, hx] at hz
      rcases List.mem_append.mp hz with hz | hz
      · exact ha z hz
      · rw [show z = x by simpa using hz]; exact hb
    · have hm := List.mem_of_getElem? hx
      have e : (if b0 then xs.all tr else xs.any tr) = !b0 := by
        cases b0 with
        | true =>
          rw [if_pos rfl, Bool.not_true, List.all_eq_false]
          exact ⟨x, hm, by rw [hb]; simp⟩
        | false =>
          rw [if_neg Bool.false_ne_true, Bool.not_false, List.any_eq_true]
          exact ⟨x, hm, hb⟩
      have := k H4 (s1.trans s2)
      rw [e] at this
      exact this
  · have e : i = xs.length := by omega
    subst e
    refine .inl ⟨⟨xs, s1.seq hs, Nat.le_refl _⟩, ?_⟩
    rw [List.take_length] at ha
    have e : (if b0 then xs.all tr else xs.any tr) = b0 := by
      cases b0 with
      | true =>
        rw [if_pos rfl, List.all_eq_true]
        exact ha
      | false =>
        rw [if_neg Bool.false_ne_true, List.any_eq_false]
        intro x hx
        rw [ha x hx]; simp
    have := k H' s1
    rw [e] at this
    exact this
end
end SC

set_option Elab.async false
set_option linter.all false
set_option maxRecDepth 100000
set_option maxHeartbeats 4000000
/-! list(zip(xs, ys)) of two lists: the pairs stay with the new list. -/
namespace SC
open PySem PySem.Spec PyProof.Rows L2
/-- a zip whose last pair T is kept elsewhere -/
abbrev ZipKept (h : Heap) (z TI TO T : Addr) (b : Bool) : Prop :=
  h.get? z = some { cls := .type "zip", dict := none, data := .fields #[rawInt T, .bool b, .bool false, .ref TI, .ref TO], slots := #[] }
section
variable {prog : Program} {w : World} {A : Around} {E : Value → Shared → Prop} {s : Shared} {z TI TO i1 i2 l1 l2 T : Addr} {k1 k2 : Nat} {xs ys : Array Value} {x y : Value} {b : Bool}
theorem alive_at {a : Addr} {o : Obj} {Q : Option Obj → Shared → Prop} (h : s.heap.get? a = some o) (q : Q (some o) s) : wpAny (model prog w) A (loadIfAlive a) Q E s := by
  intro Γ p hΓ
  unfold loadIfAlive
  rw [Sem.wp_loadIfAlive, h]
  exact (wpAny_pure (M := model prog w) (A := A) (E := E) q) Γ p hΓ
theorem zip_kept_free {oT : Obj} (hz : ZipKept s.heap z TI TO T b) (hT : s.heap.get? T = some oT) {Q : Bool → Shared → Prop}
    (h : ∀ h', ZipKept h' z TI TO T true → Heap.SameBut z s.heap h' → Q false { s with heap := h' }) : wpAny (model prog w) A (Builtin.SmallTypes.ownedTupleIsFree (.ref z)) Q E s := by
  unfold Builtin.SmallTypes.ownedTupleIsFree
  refine wpAny_bind (wpAny_field hz rfl (x := rawInt T) rfl ?_)
  have e : (Int.toNat (T : Int)) = T := Int.toNat_natCast T
  show wpAny _ _ (loadIfAlive (Int.toNat (T : Int)) >>= _) _ _ _
  rw [e]
  refine wpAny_bind (alive_at hT ?_)
  simp only [Option.isNone_some, Bool.false_eq_true, if_false]
  refine wpAny_bind (wpAny_field hz rfl (x := .bool b) rfl ?_)
  cases b with
  | true =>
    exact wpAny_pure (h s.heap hz ⟨rfl, fun _ _ => rfl⟩)
  | false =>
    show wpAny _ _ (setField (.ref z) 1 (.bool true) >>= _) _ _ _
    refine wpAny_bind (wpAny_setField_rec hz (by simp) fun h1 hz1 hs1 => ?_)
    exact wpAny_pure (h h1 hz1 hs1)
theorem zip_kept_item {oT : Obj} {Q : Value → Shared → Prop} (D : ZipApart z TI TO i1 i2 l1 l2)
    (hz : ZipKept s.heap z TI TO T b) (hT : s.heap.get? T = some oT) (hTI : IsPair s.heap TI (.ref i1) (.ref i2))
    (h1 : s.heap.IsListIter i1 l1 k1) (h2 : s.heap.IsListIter i2 l2 k2) (hl1 : s.heap.IsList l1 xs) (hl2 : s.heap.IsList l2 ys) (hx : xs[k1]? = some x) (hy : ys[k2]? = some y)
    (hQ : ∀ h', ZipKept h' z TI TO T true → h'.IsListIter i1 l1 (k1 + 1) → h'.IsListIter i2 l2 (k2 + 1) → IsPair h' s.heap.objs.size x y → h'.objs.size = s.heap.objs.size + 1 →
      (∀ c o, c ≠ z → c ≠ i1 → c ≠ i2 → s.heap.get? c = some o → h'.get? c = some o) → Q (.ref s.heap.objs.size) { s with heap := h' }) :
    wpAny (model prog w) A (Builtin.«zip.__next__» ⟨[.ref z], []⟩) (fun fin s' => ∃ v, fin = .done (.ret v) ∧ Q v s') E s := by
  show wpAny _ _ (field (.ref z) 2 >>= _) _ _ _
  refine wpAny_bind (wpAny_field hz rfl (x := .bool false) rfl ?_)
  show wpAny _ _ (field (.ref z) 3 >>= _) _ _ _
  refine wpAny_bind (wpAny_field hz rfl (x := .ref TI) rfl ?_)
  refine wpAny_bind (wpAny_seqItems hTI rfl ?_)
  show wpAny _ _ (Builtin.SmallTypes.ownedTupleIsFree (.ref z) >>= _) _ _ _
  refine wpAny_bind (zip_kept_free hz hT fun ha hza hsa => ?_)
  simp only [Bool.false_eq_true, if_false]
  rw [← Array.forIn_toList]
  simp only [List.forIn_cons, List.forIn_nil]
  have l1a := hl1.extBut hsa.extBut D.l1z
  have l2a := hl2.extBut hsa.extBut D.l2z
  refine wpAny_bind (wpAny_bind (wpAny_bind (wpAny_holding ?_)))
  show wpAny _ _ (Builtin.SmallTypes.nextOf (.ref i1) >>= _) _ _ _
  refine wpAny_bind (wpAny_nextOf_list_item (h1.extBut hsa.extBut D.i1z) l1a hx fun hb h1b hsb => wpAny_pure (wpAny_pure ?_))
  have l2b := l2a.extBut hsb.extBut D.l2i1
  refine wpAny_bind (wpAny_bind (wpAny_holding ?_))
  show wpAny _ _ (Builtin.SmallTypes.nextOf (.ref i2) >>= _) _ _ _
  refine wpAny_bind (wpAny_nextOf_list_item ((h2.extBut hsa.extBut D.i2z).extBut hsb.extBut D.i12.symm) l2b hy fun hc h2c hsc => wpAny_pure (wpAny_pure (wpAny_pure ?_)))
  refine wpAny_bind (wpAny_newTuple ?_ (by show 2 ≤ sizeLine; decide))
  have hsz : hc.objs.size = s.heap.objs.size := by rw [hsc.1, hsb.1, hsa.1]
  have zc : ZipKept hc z TI TO T true := hsc.extBut _ _ D.i2z.symm (hsb.extBut _ _ D.i1z.symm hza)
  have kc : ∀ c o, c ≠ z → c ≠ i1 → c ≠ i2 → s.heap.get? c = some o → hc.get? c = some o := fun c o c1 c3 c4 e => hsc.extBut _ _ c4 (hsb.extBut _ _ c3 (hsa.extBut _ _ c1 e))
  have i1c : hc.IsListIter i1 l1 (k1 + 1) := h1b.extBut hsc.extBut D.i12
  refine wpAny_pure ⟨_, rfl, ?_⟩
  show Q (.ref hc.objs.size) _
  rw [hsz]
  have up : ∀ c o, hc.get? c = some o → (hc.push { cls := .type "tuple", data := .seq #[x, y] }).get? c = some o := fun c o e => Heap.get?_push_of_some _ e
  refine hQ _ (up _ _ zc) (i1c.at fun o e => up _ o e) (h2c.at fun o e => up _ o e) ?_ (by rw [Heap.size_push, hsz]) fun c o c1 c3 c4 e => up c o (kc c o c1 c3 c4 e)
  rw [← hsz]
  exact Heap.get?_push_size _ rfl
theorem zip_kept_end {oT : Obj} {Q : Fin → Shared → Prop} (hh : A.handled = none) (D : ZipApart z TI TO i1 i2 l1 l2)
    (hz : ZipKept s.heap z TI TO T b) (hT : s.heap.get? T = some oT) (hTI : IsPair s.heap TI (.ref i1) (.ref i2))
    (h1 : s.heap.IsListIter i1 l1 k1) (h2 : s.heap.IsListIter i2 l2 k2) (hl1 : s.heap.IsList l1 xs) (hl2 : s.heap.IsList l2 ys) (hx : xs[k1]? = none)
    (hE : ∀ h' e, (∀ c o, c ≠ z → c ≠ i1 → c ≠ i2 → s.heap.get? c = some o → h'.get? c = some o) → (∃ o, h'.get? e = some o ∧ o.cls = .type "StopIteration") → E (.ref e) { s with heap := h' }) :
    wpAny (model prog w) A (Builtin.«zip.__next__» ⟨[.ref z], []⟩) Q E s := by
  show wpAny _ _ (field (.ref z) 2 >>= _) _ _ _
  refine wpAny_bind (wpAny_field hz rfl (x := .bool false) rfl ?_)
  show wpAny _ _ (field (.ref z) 3 >>= _) _ _ _
  refine wpAny_bind (wpAny_field hz rfl (x := .ref TI) rfl ?_)
  refine wpAny_bind (wpAny_seqItems hTI rfl ?_)
  show wpAny _ _ (Builtin.SmallTypes.ownedTupleIsFree (.ref z) >>= _) _ _ _
  refine wpAny_bind (zip_kept_free hz hT fun ha hza hsa => ?_)
  simp only [Bool.false_eq_true, if_false]
  rw [← Array.forIn_toList]
  simp only [List.forIn_cons, List.forIn_nil]
  refine wpAny_bind (wpAny_bind (wpAny_bind (wpAny_holding ?_)))
  show wpAny _ _ (Builtin.SmallTypes.nextOf (.ref i1) >>= _) _ _ _
  refine wpAny_bind (wpAny_nextOf_list_end hh (h1.extBut hsa.extBut D.i1z) (hl1.extBut hsa.extBut D.l1z) hx fun hb e hsb he => ?_)
  exact hE hb e (fun c o c1 c3 _ q => hsb _ _ c3 (hsa.extBut _ _ c1 q)) he
theorem next_kept_item {oT : Obj} {Q : Option Value → Shared → Prop} (D : ZipApart z TI TO i1 i2 l1 l2)
    (hz : ZipKept s.heap z TI TO T b) (hT : s.heap.get? T = some oT) (hTI : IsPair s.heap TI (.ref i1) (.ref i2))
    (h1 : s.heap.IsListIter i1 l1 k1) (h2 : s.heap.IsListIter i2 l2 k2) (hl1 : s.heap.IsList l1 xs) (hl2 : s.heap.IsList l2 ys) (hx : xs[k1]? = some x) (hy : ys[k2]? = some y)
    (hQ : ∀ h', ZipKept h' z TI TO T true → h'.IsListIter i1 l1 (k1 + 1) → h'.IsListIter i2 l2 (k2 + 1) → IsPair h' s.heap.objs.size x y → h'.objs.size = s.heap.objs.size + 1 →
      (∀ c o, c ≠ z → c ≠ i1 → c ≠ i2 → s.heap.get? c = some o → h'.get? c = some o) → Q (some (.ref s.heap.objs.size)) { s with heap := h' }) :
    wpAny (model prog w) A (pyNext (.ref z)) Q E s := by
  have ty : s.TypeIs (.ref z) "zip" := ⟨_, hz, rfl⟩
  unfold pyNext
  refine wpAny_bind (wpAny_attempt (wpAny_callSpecial?_slot (name := Str.ofString "__next__") ty F.slot_zip_next (wpAny_call_entry F.slot_zip_next ty F.entry_zip_next ?_ (F.args_zip_next_1 _))))
  exact zip_kept_item D hz hT hTI h1 h2 hl1 hl2 hx hy fun h' a1 a3 a4 a5 a6 a7 => wpAny_pure (hQ h' a1 a3 a4 a5 a6 a7)
theorem next_kept_end {oT : Obj} {Q : Option Value → Shared → Prop} (hh : A.handled = none) (D : ZipApart z TI TO i1 i2 l1 l2)
    (hz : ZipKept s.heap z TI TO T b) (hT : s.heap.get? T = some oT) (hTI : IsPair s.heap TI (.ref i1) (.ref i2))
    (h1 : s.heap.IsListIter i1 l1 k1) (h2 : s.heap.IsListIter i2 l2 k2) (hl1 : s.heap.IsList l1 xs) (hl2 : s.heap.IsList l2 ys) (hx : xs[k1]? = none)
    (hQ : ∀ h', (∀ c o, c ≠ z → c ≠ i1 → c ≠ i2 → s.heap.get? c = some o → h'.get? c = some o) → Q none { s with heap := h' }) :
    wpAny (model prog w) A (pyNext (.ref z)) Q E s := by
  have ty : s.TypeIs (.ref z) "zip" := ⟨_, hz, rfl⟩
  unfold pyNext
  refine wpAny_bind (wpAny_attempt (wpAny_callSpecial?_slot (name := Str.ofString "__next__") ty F.slot_zip_next (wpAny_call_entry F.slot_zip_next ty F.entry_zip_next ?_ (F.args_zip_next_1 _))))
  refine zip_kept_end hh D hz hT hTI h1 h2 hl1 hl2 hx fun h' e hk he => ?_
  obtain ⟨o, ho, hc⟩ := he
  refine wpAny_bind (wpAny_isInstance (T := "StopIteration") (b := true) ⟨o, ho, hc⟩ isSubtype_stop ?_)
  exact wpAny_pure (hQ _ hk)
end

/-- the things at these addresses are these tuples -/
def RefsTo (H : Hp) (ads : List Addr) (vs : List (List V)) : Prop := ads.length = vs.length ∧ ∀ (j : Nat) (a : Addr) (v : List V), ads[j]? = some a → vs[j]? = some v → H a = some (.tup v)
theorem RefsTo.go {H H' : Hp} {ads : List Addr} {vs : List (List V)} (r : RefsTo H ads vs) (s : Sm H H') : RefsTo H' ads vs := ⟨r.1, fun j a v h1 h2 => s _ _ (r.2 j a v h1 h2)⟩
theorem RefsTo.nil {H : Hp} : RefsTo H [] [] := ⟨rfl, fun j a v h => by simp at h⟩
theorem RefsTo.snoc {H : Hp} {ads : List Addr} {vs : List (List V)} {a : Addr} {v : List V} (r : RefsTo H ads vs) (h : H a = some (.tup v)) : RefsTo H (ads ++ [a]) (vs ++ [v]) := by
  refine ⟨by rw [List.length_append, List.length_append, r.1]; rfl, fun j b u h1 h2 => ?_⟩
  by_cases hj : j < ads.length
  · rw [List.getElem?_append_left hj] at h1
    rw [List.getElem?_append_left (by rw [← r.1]; exact hj)] at h2
    exact r.2 j b u h1 h2
  · rw [List.getElem?_append_right (by omega)] at h1
    rw [List.getElem?_append_right (by rw [← r.1]; omega)] at h2
    have e : j = ads.length := by
      have := (List.getElem?_eq_some_iff.mp h1).1
      simp at this
      omega
    subst e
    rw [Nat.sub_self] at h1
    rw [← r.1, Nat.sub_self] at h2
    cases h1
    cases h2
    exact h

section
variable {X : Cx} {pins : List (Addr × Obj)} {σ : L2.St} {A : Around} {R : Result → Shared → Prop} {z TI TO i1 i2 a b S : Addr} {xs ys : List V} {H0 : Hp} {res : Value}
/-- pairs so far -/
def zw (xs ys : List V) : List (List V) := List.zipWith (fun x y => [x, y]) xs ys
theorem zw_take {xs ys : List V} {i : Nat} {x y : V} (hx : xs[i]? = some x) (hy : ys[i]? = some y) : (zw xs ys).take (i + 1) = (zw xs ys).take i ++ [[x, y]] := by
  rw [List.take_add_one]
  congr 1
  unfold zw
  rw [List.getElem?_zipWith, hx, hy]
  rfl
theorem RefsTo.updL {H : Hp} {ads : List Addr} {vs : List (List V)} {p : Addr} {o : HO} (r : RefsTo H ads vs) (hp : ∀ v, H p ≠ some (.tup v)) : RefsTo (L2.upd H p o) ads vs :=
  ⟨r.1, fun j a v h1 h2 => by
    have q := r.2 j a v h1 h2
    rw [upd_ne fun z => hp v (by rw [← z]; exact q)]
    exact q⟩
theorem zip_turns (hh : A.handled = none) (D : ZipApart z TI TO i1 i2 a b) (hl : xs.length = ys.length) (hx0 : SqL X.K H0 a xs) (hy0 : SqL X.K H0 b ys) (h0 : H0 S = none)
    (hS : ∀ b ∈ [z, TI, TO, i1, i2], b ≠ S)
    (hend : ∀ H' s ads, Inv X pins σ H' s → Sm H0 H' → H' S = some (.lst (ads.map V.ref)) → RefsTo H' ads (zw xs ys) → R (.ok (.ret res)) s) :
    ∀ (m i : Nat) (s : Shared) (H' : Hp) (ads : List Addr), i + m = xs.length → Inv X pins σ H' s → (∀ b ∈ [z, TI, TO, i1, i2], FpOk X pins H' b) → Sm H0 H' → H' S = some (.lst (ads.map V.ref)) → RefsTo H' ads ((zw xs ys).take i) →
      ((IsZip s.heap z TI TO .none ∧ (∃ x y, IsPair s.heap TO x y)) ∨ ∃ T c v, ZipKept s.heap z TI TO T c ∧ H' T = some (.tup v)) → TO < s.heap.objs.size → IsPair s.heap TI (.ref i1) (.ref i2) → s.heap.IsListIter i1 a i → s.heap.IsListIter i2 b i →
      codeAny (model X.prog X.w) A (.builtin "list.extend.loop" ⟨[.ref S, .ref z, res], []⟩) R s := by
  have lenZ : (zw xs ys).length = xs.length := by
    unfold zw
    rw [List.length_zipWith]
    omega
  have alive : ∀ {H' : Hp} {s : Shared} {T : Addr} {v : List V}, Inv X pins σ H' s → H' T = some (.tup v) → ∃ oT, s.heap.get? T = some oT := fun {H' s T v} I q => by
    obtain ⟨_, _, _, o, e, _⟩ := I.hok T _ q
    exact ⟨o, e⟩
  intro m
  induction m with
  | zero =>
    intro i s H' ads hi I hf hs hSo hr hz ltO hTI h1 h2
    have hi' : i = xs.length := by omega
    subst hi'
    rw [List.take_of_length_le (by omega)] at hr
    obtain ⟨its, rv, p, _⟩ := I.list (hs.seq hx0)
    obtain ⟨its2, rv2, p2, _⟩ := I.list (hs.seq hy0)
    have e1 : its.toArray[xs.length]? = none := by have := rv.length; simp; omega
    refine codeAny_builtin F.entry_extend_loop ?_
    rw [Around.under_plainId F.plain_extend_loop _]
    show wpAny _ A.in1 (pyNext (.ref z) >>= _) _ _ s
    refine wpAny_bind ?_
    rcases hz with ⟨hz, u, v, hTO⟩ | ⟨T, c, v, hz, hT⟩
    · refine wpAny_pyNext_zip_end (A := A.in1) hh D hz hTI hTO h1 h2 p.isList p2.isList (.inl e1) fun h' hk => ?_
      exact wpAny_pure (hend H' _ ads (I.turnedL (t' := s.toks) (ch := [z, TI, TO, i1, i2]) (fun c o hb q => hk c o (fun q' => hb (by simp [q'])) (fun q' => hb (by simp [q'])) (fun q' => hb (by simp [q'])) (fun q' => hb (by simp [q'])) q) hf) hs hSo hr)
    · obtain ⟨oT, eT⟩ := alive I hT
      refine next_kept_end (A := A.in1) hh D hz eT hTI h1 h2 p.isList p2.isList e1 fun h' hk => ?_
      exact wpAny_pure (hend H' _ ads (I.turnedL (t' := s.toks) (ch := [z, TI, TO, i1, i2]) (fun c o hb q => hk c o (fun q' => hb (by simp [q'])) (fun q' => hb (by simp [q'])) (fun q' => hb (by simp [q'])) q) hf) hs hSo hr)
  | succ m ih =>
    intro i s H' ads hi I hf hs hSo hr hz ltO hTI h1 h2
    obtain ⟨its, rv, p, hsl⟩ := I.list (hs.seq hx0)
    obtain ⟨its2, rv2, p2, _⟩ := I.list (hs.seq hy0)
    obtain ⟨x, ex⟩ : ∃ x, xs[i]? = some x := ⟨xs[i]'(by omega), List.getElem?_eq_getElem _⟩
    obtain ⟨y, ey⟩ : ∃ y, ys[i]? = some y := ⟨ys[i]'(by omega), List.getElem?_eq_getElem _⟩
    obtain ⟨u, hu, ru⟩ := rv.get ex
    obtain ⟨u2, hu2, ru2⟩ := rv2.get ey
    refine codeAny_builtin F.entry_extend_loop ?_
    rw [Around.under_plainId F.plain_extend_loop _]
    show wpAny _ A.in1 (pyNext (.ref z) >>= _) _ _ s
    refine wpAny_bind ?_
    have hSl : S < s.heap.objs.size := I.hok.lt hSo
    have hla : ads.length = i := by
      rw [hr.1, List.length_take]; omega
    -- behind the pair: the list grows
    have goOn : ∀ (h' : Heap) (c : Bool) (T : Addr), (ZipKept h' z TI TO T c) → (T = s.heap.objs.size ∨ ∃ v, H' T = some (.tup v)) → IsPair h' TI (.ref i1) (.ref i2) → h'.IsListIter i1 a (i + 1) → h'.IsListIter i2 b (i + 1) → IsPair h' s.heap.objs.size u u2 →
        (∀ c o, c ∉ [z, TI, TO, i1, i2] → s.heap.get? c = some o → h'.get? c = some o) → (∀ c ∈ [z, TI, TO, i1, i2], c < s.heap.objs.size) → s.heap.objs.size ≤ h'.objs.size →
        wpAny (model X.prog X.w) A.in1 (updateSeq S (·.push (.ref s.heap.objs.size)) >>= fun _ => pure (Fin.again (.builtin "list.extend.loop" ⟨[.ref S, .ref z, res], []⟩))) (fun fin s' => match fin with | .done f => R (.ok f) s' | .again c' => c'.quiet = true ∧ codeAny (model X.prog X.w) A c' R s') (fun e s' => R (.error e) s') { s with heap := h' } := by
      intro h' c T hz' hT' hTI' h1' h2' hP hk hlt hge0
      have fr : H' s.heap.objs.size = none := I.hok.fresh (Nat.le_refl _)
      have new : ObjOk X.prog X.w (L2.upd H' s.heap.objs.size (.tup [x, y])) h' s.heap.objs.size (.tup [x, y]) := ⟨by show 2 ≤ sizeLine; decide, [u, u2], .cons ru (.cons ru2 .nil), ⟨_, hP, rfl, _, rfl⟩⟩
      have I1 := I.turnedNew (t' := s.toks) (ch := [z, TI, TO, i1, i2]) hk hf (Nat.le_refl _) new
      have hSo1 : L2.upd H' s.heap.objs.size (.tup [x, y]) S = some (.lst (ads.map V.ref)) := by rw [upd_ne (Nat.ne_of_lt hSl)]; exact hSo
      obtain ⟨z4, its4, k4, r4, hl4, e4⟩ := I1.lstM hSo1
      have hl5 : its4.length = i := by rw [← hl4, List.length_map, hla]
      refine wpAny_bind ?_
      refine wpAny_updateSeq e4 rfl (wpAny_pure ⟨plainId_quiet F.plain_extend_loop _, ?_⟩) (by simp; omega) (by simp; omega)
      have I2 := I1.lset (f := (·.push (.ref s.heap.objs.size))) (its' := its4 ++ [.ref s.heap.objs.size]) (ys := (ads ++ [s.heap.objs.size]).map V.ref) (t' := s.toks) hSo1 e4 (by simp) (by rw [List.map_append]; exact r4.append (.cons rfl .nil)) (by simp; omega)
      have hge : s.heap.objs.size ≤ (h'.update S (Obj.mapSeq (·.push (.ref s.heap.objs.size)))).objs.size := by rw [Heap.size_update]; exact hge0
      have oth : ∀ c o, c ≠ S → h'.get? c = some o → (h'.update S (Obj.mapSeq (·.push (.ref s.heap.objs.size)))).get? c = some o := fun c o hc q => (Heap.get?_update_other _ _ (Ne.symm hc)).trans q
      refine ih (i + 1) _ _ (ads ++ [s.heap.objs.size]) (by omega) I2 (fun c hc => ?_) (sm_upd (sm_upd hs (hs.fr _ fr)) h0) upd_same ?_ (.inr ⟨T, c, ?_⟩) (Nat.lt_of_lt_of_le ltO hge) (oth _ _ (hS _ (by simp)) hTI') (h1'.at fun o q => oth _ o (hS _ (by simp)) q) (h2'.at fun o q => oth _ o (hS _ (by simp)) q)
      · refine ⟨?_, (hf c hc).2⟩
        rw [upd_ne (hS c hc), upd_ne (Nat.ne_of_lt (hlt c hc))]
        exact (hf c hc).1
      · rw [zw_take ex ey]
        refine RefsTo.snoc (RefsTo.updL (RefsTo.updL hr fun v q => ?_) fun v q => ?_) ?_
        · rw [fr] at q; cases q
        · rw [hSo1] at q; cases q
        · rw [upd_ne (Nat.ne_of_gt hSl)]; exact upd_same
      · have tT : ∃ v, L2.upd (L2.upd H' s.heap.objs.size (.tup [x, y])) S (.lst ((ads ++ [s.heap.objs.size]).map V.ref)) T = some (.tup v) := by
          rcases hT' with rfl | ⟨v, q⟩
          · exact ⟨[x, y], by rw [upd_ne (Nat.ne_of_gt hSl)]; exact upd_same⟩
          · refine ⟨v, ?_⟩
            rw [upd_ne fun y => ?_, upd_ne (Nat.ne_of_lt (I.hok.lt q))]
            · exact q
            · rw [y, hSo] at q; cases q
        obtain ⟨v, q⟩ := tT
        exact ⟨v, oth _ _ (hS _ (by simp)) hz', q⟩
    have lt1 : i1 < s.heap.objs.size := by obtain ⟨o, e, _⟩ := h1; exact Heap.lt_size e
    have lt2 : i2 < s.heap.objs.size := by obtain ⟨o, e, _⟩ := h2; exact Heap.lt_size e
    have ltI : TI < s.heap.objs.size := Heap.lt_size hTI
    rcases hz with ⟨hz, u', v', hTO⟩ | ⟨T, c, v, hz, hT⟩
    · have ltz : z < s.heap.objs.size := Heap.lt_size hz
      have lts : ∀ c ∈ [z, TI, TO, i1, i2], c < s.heap.objs.size := fun c hc => by
        have e' : c = z ∨ c = TI ∨ c = TO ∨ c = i1 ∨ c = i2 := by simpa using hc
        rcases e' with rfl | rfl | rfl | rfl | rfl <;> assumption
      refine wpAny_pyNext_zip_item (A := A.in1) D hz hTI hTO h1 h2 p.isList p2.isList (x := u) (y := u2) (by simpa using hu) (by simpa using hu2) fun h' z' TO' h1' h2' hP hsz hk => ?_
      exact goOn h' false s.heap.objs.size z' (.inl rfl) (hk _ _ D.TIz D.TITO D.TIi1 D.TIi2 hTI) h1' h2' hP (fun c o hb q => hk c o (fun q' => hb (by simp [q'])) (fun q' => hb (by simp [q'])) (fun q' => hb (by simp [q'])) (fun q' => hb (by simp [q'])) q) lts (by omega)
    · obtain ⟨oT, eT⟩ := alive I hT
      have ltz : z < s.heap.objs.size := Heap.lt_size hz
      refine next_kept_item (A := A.in1) D hz eT hTI h1 h2 p.isList p2.isList (x := u) (y := u2) (by simpa using hu) (by simpa using hu2) fun h' z' h1' h2' hP hsz hk => ?_
      refine goOn h' true T z' (.inr ⟨v, hT⟩) (hk _ _ D.TIz D.TIi1 D.TIi2 hTI) h1' h2' hP (fun c o hb q => hk c o (fun q' => hb (by simp [q'])) (fun q' => hb (by simp [q'])) (fun q' => hb (by simp [q'])) q) (fun c hc => ?_) (by omega)
      have e' : c = z ∨ c = TI ∨ c = TO ∨ c = i1 ∨ c = i2 := by simpa using hc
      rcases e' with rfl | rfl | rfl | rfl | rfl <;> first | assumption | exact ltO
end

theorem zip_no_len : typeLookup (.type "zip") "__len__" = pure none := by rw [typeLookup_type, builtinLookup_eq_fast]; kernel_rfl
theorem zip_no_hint : typeLookup (.type "zip") "__length_hint__" = pure none := by rw [typeLookup_type, builtinLookup_eq_fast]; kernel_rfl
section
variable {X : Cx}
/-- list(zip(xs, ys)): two lists of one length -/
def LzB (K : PySem.W.Frag) (vs : List V) (H1 : Hp) (Q : VK) : Prop := ∃ a b xs ys, vs = [.ref a, .ref b] ∧ SqL K H1 a xs ∧ SqL K H1 b ys ∧ xs.length = ys.length ∧
  ∀ p H2 ads, H1 p = none → Sm H1 H2 → H2 p = some (.lst (ads.map V.ref)) → RefsTo H2 ads (zw xs ys) → Q (.ref p) H2
def tLz (K : PySem.W.Frag) (ta : TA) : TE := fun σ H Q => ta σ H fun vs H1 => LzB K vs H1 Q
theorem pe_listZip {e e2 : Expr} {ta : TA} {p q pos zpos : Pos} (hh : X.A.handled = none) (hg : Gl X "list") (hm : X.mg "list" = none) (hgz : Gl X "zip") (hmz : X.mg "zip" = none) (ha : PA X [e, e2] ta)
    (hv : bootBuiltins "list" = some (.type "list") := by decide +kernel)
    (hs : starEach [e, e2] X.env = (false, eval e X.env) :: starEach [e2] X.env := by rfl) (hpl : (backTo zpos (starEach [e2] X.env)).any (·.1) = false := by rfl)
    (he : starEach [.Call (.Name "zip" q) [e, e2] [] zpos] X.env = (false, eval (.Call (.Name "zip" q) [e, e2] [] zpos) X.env) :: starEach [] X.env := by rfl) :
    PE X (.Call (.Name "list" p) [.Call (.Name "zip" q) [e, e2] [] zpos] [] pos) (tLz X.K ta) := by
  refine ⟨fun pins s σ H Q I h => ?_⟩
  refine wpAny_Call_Name_kw (ld_blt I hg hm hv ?_)
  refine PyProof.Rows.callWith_type1 ?_ he rfl
  rw [he]
  show wpAny _ _ (spliced ((false, eval (.Call (.Name "zip" q) [e, e2] [] zpos) X.env) :: backTo pos (starEach [] X.env))) _ _ s
  refine Calls.spliced_cons (Call_ (ld_blt I hgz hmz PyProof.Rows.boot_zip (PyProof.Rows.callWith_type1 (thn (ha.run zpos pins s σ H _ I h) fun us s1 ⟨vs, H1, I1, r1, q1⟩ => ?_) hs hpl)))
  obtain ⟨a, b, xs, ys, ex, hqx, hqy, hl, q⟩ := q1
  subst ex
  cases r1 with
  | cons r rr =>
    cases rr with
    | cons r' rr =>
      cases rr
      cases r
      cases r'
      obtain ⟨its, rv, p1, hxl⟩ := I1.list hqx
      obtain ⟨its2, rv2, p2, _⟩ := I1.list hqy
      have la : a < s1.heap.objs.size := p1.lt
      have lb : b < s1.heap.objs.size := p2.lt
      refine call_zip_2 p1.isList p2.isList fun h' hz hTI hTO h1 h2 hsz hk => ?_
      refine Calls.spliced_nil ?_
      have D := PySem.W.ktu_apart s1.heap.objs.size a b la lb
      have I2 : Inv X pins σ H1 { s1 with heap := h' } := I1.kept (t' := s1.toks) hk
      have f2 : ∀ c ∈ [s1.heap.objs.size + 4, s1.heap.objs.size + 2, s1.heap.objs.size + 3, s1.heap.objs.size, s1.heap.objs.size + 1], FpOk X pins H1 c ∧ c < h'.objs.size := fun c hcm => by
        have e' : c = s1.heap.objs.size + 4 ∨ c = s1.heap.objs.size + 2 ∨ c = s1.heap.objs.size + 3 ∨ c = s1.heap.objs.size ∨ c = s1.heap.objs.size + 1 := by simpa using hcm
        have hle : s1.heap.objs.size ≤ c ∧ c < h'.objs.size := by rcases e' with z | z | z | z | z <;> rw [z] <;> omega
        exact ⟨I1.fpOk hle.1 (I1.hok.fresh hle.1), hle.2⟩
      generalize s1.heap.objs.size + 4 = z at hz D f2 ⊢
      generalize s1.heap.objs.size + 2 = TI at hz hTI D f2 ⊢
      generalize s1.heap.objs.size + 3 = TO at hz hTO D f2 ⊢
      generalize s1.heap.objs.size + 1 = i2 at hTI h2 D f2 ⊢
      generalize s1.heap.objs.size = i1 at hTI h1 D f2 ⊢
      generalize hs2 : ({ s1 with heap := h' } : Shared) = s2 at I2 ⊢
      have e2 : s2.heap = h' := by rw [← hs2]
      rw [← e2] at hz hTI hTO h1 h2 f2
      refine callType_codes (Q₁ := fun obj s₁ => obj = .ref s2.heap.objs.size ∧ s₁ = { s2 with heap := s2.heap.push { cls := .type "list", data := .seq #[] } }) F.called_list (F.typeCall_list_1 _) F.entry_list_init (code_list_new _ ⟨rfl, rfl⟩) fun obj s3 h3 => ?_
      obtain ⟨rfl, rfl⟩ := h3
      have hS : (s2.heap.push { cls := .type "list", data := .seq #[] }).get? s2.heap.objs.size = some { cls := .type "list", data := .seq #[] } := Heap.get?_push_size _ rfl
      refine ⟨⟨_, hS, rfl⟩, F.args_list_init_2 _ _, ?_⟩
      have fr : H1 s2.heap.objs.size = none := I2.hok.fresh (Nat.le_refl _)
      have J1 : Inv X pins σ (L2.upd H1 s2.heap.objs.size (.lst [])) { s2 with heap := s2.heap.push { cls := .type "list", data := .seq #[] } } := I2.lnew (its := []) (t' := s2.toks) .nil (Nat.zero_le _)
      have nS : ∀ c ∈ [z, TI, TO, i1, i2], c ≠ s2.heap.objs.size := fun c hc => Nat.ne_of_lt (f2 c hc).2
      have k0 : ∀ c o, s2.heap.get? c = some o → (s2.heap.push { cls := .type "list", data := .seq #[] }).get? c = some o := fun c o e => Heap.get?_push_of_some _ e
      show wpAny _ _ (do let old ← Builtin.List.listItems (.ref s2.heap.objs.size); Builtin.List.listUpdate (.ref s2.heap.objs.size) (fun _ => #[]); letGo old.toList.reverse; Builtin.List.listExtendWith (.ref s2.heap.objs.size) (.ref z) .none) _ _ _
      refine wpAny_bind ?_
      unfold Builtin.List.listItems
      refine wpAny_bind (wpAny_seqItems hS rfl (wpAny_pure ?_))
      show wpAny _ _ (updateSeq s2.heap.objs.size (fun _ => #[]) >>= fun _ => letGo (#[] : Array Value).toList.reverse >>= fun _ => Builtin.List.listExtendWith (.ref s2.heap.objs.size) (.ref z) .none) _ _ _
      refine wpAny_bind (wpAny_updateSeq hS rfl ?_)
      have J2 := J1.lset (f := fun _ => #[]) (its := []) (its' := []) (ys := []) (t' := s2.toks) upd_same hS rfl .nil (Nat.zero_le _)
      rw [upd_upd] at J2
      refine wpAny_bind (wpAny_letGo ?_)
      have up : ∀ (g : Heap) (f : Array Value → Array Value) (c : Addr) (o : Obj), c ≠ s2.heap.objs.size → g.get? c = some o → (g.update s2.heap.objs.size (Obj.mapSeq f)).get? c = some o := fun g f c o hc e => (Heap.get?_update_other _ _ (Ne.symm hc)).trans e
      have hS2 := Heap.get?_update_self (Obj.mapSeq (fun _ => (#[] : Array Value))) hS rfl
      have hz2 := up _ (fun _ => #[]) _ _ (nS z (by simp)) (k0 _ _ hz)
      have ty : ({ s2 with heap := (s2.heap.push { cls := .type "list", data := .seq #[] }).update s2.heap.objs.size (Obj.mapSeq (fun _ => #[])) } : Shared).TypeIs (.ref z) "zip" := ⟨_, hz2, rfl⟩
      unfold Builtin.List.listExtendWith
      refine wpAny_bind (wpAny_typeOf ty ?_)
      have b1 : Builtin.List.listSameRef (.ref s2.heap.objs.size) (.ref z) = false := by simp [Builtin.List.listSameRef, Ne.symm (nS z (by simp))]
      have b2 : (Value.type "zip" == Value.type "list") = false := by decide
      have b3 : (Value.type "zip" == Value.type "tuple") = false := by decide
      simp only [b1, b2, b3, Bool.or_false, Bool.false_eq_true, if_false]
      refine wpAny_bind (wpAny_pyIter_zip (s := { s2 with heap := _ }) hz2 ?_)
      refine wpAny_bind (wpAny_holding ?_)
      unfold Builtin.List.listLengthHint
      refine wpAny_bind (wpAny_specialOf ty zip_no_len ?_)
      show wpAny _ _ (specialOf (Value.ref z) (Str.ofString "__length_hint__") >>= _) _ _ _
      refine wpAny_bind (wpAny_specialOf ty zip_no_hint ?_)
      refine wpAny_pure ?_
      show wpAny _ _ (rule "list.extend.makes-room" >>= fun _ => Builtin.List.listTouch (.ref s2.heap.objs.size) >>= fun _ => again (.builtin "list.extend.loop" ⟨[.ref s2.heap.objs.size, .ref z, .none], []⟩)) _ _ _
      refine wpAny_bind (wpAny_rule ?_)
      refine wpAny_bind ?_
      show wpAny _ _ (updateSeq s2.heap.objs.size (·.push .none) >>= fun _ => updateSeq s2.heap.objs.size (·.pop)) _ _ _
      refine wpAny_bind (wpAny_updateSeq hS2 rfl ?_)
      have J3 := J2.lset (f := (·.push Value.none)) (its' := [Value.none]) (ys := [.non]) (t' := s2.toks) upd_same hS2 (by rfl) (.cons rfl .nil) (by rw [List.length_singleton, sizeLine_eq]; decide)
      have hS3 := Heap.get?_update_self (Obj.mapSeq (·.push Value.none)) hS2 rfl
      refine wpAny_updateSeq (hz := by seq_fits) hS3 rfl ?_
      have J4 := J3.lset (f := (·.pop)) (its := [Value.none]) (its' := []) (ys := []) (t' := s2.toks) upd_same hS3 (by rfl) .nil (Nat.zero_le _)
      rw [upd_upd, upd_upd] at J4
      have k4 : ∀ c o, c ≠ s2.heap.objs.size → s2.heap.get? c = some o → ((((s2.heap.push { cls := .type "list", data := .seq #[] }).update s2.heap.objs.size (Obj.mapSeq (fun _ => #[]))).update s2.heap.objs.size (Obj.mapSeq (·.push Value.none))).update s2.heap.objs.size (Obj.mapSeq (·.pop))).get? c = some o := fun c o hc e =>
        up _ _ c o hc (up _ _ c o hc (up _ _ c o hc (k0 c o e)))
      refine wpAny_pure ⟨plainId_quiet F.plain_extend_loop _, ?_⟩
      have s0 : Sm H1 (L2.upd H1 s2.heap.objs.size (.lst [])) := same_upd fr
      refine zip_turns (A := X.A.in1) (H0 := H1) (xs := xs) (ys := ys) (S := s2.heap.objs.size) hh D hl hqx hqy fr nS (fun H' s' ads I' hs' hS' hr' => ?_) xs.length 0 _ (L2.upd H1 s2.heap.objs.size (.lst [])) [] (by omega) J4 (fun c hc => ⟨by rw [upd_ne (nS c hc)]; exact (f2 c hc).1.1, (f2 c hc).1.2⟩) s0 upd_same (by rw [List.take_zero]; exact .nil)
        (.inl ⟨k4 _ _ (nS _ (by simp)) hz, ⟨_, _, k4 _ _ (nS _ (by simp)) hTO⟩⟩) ?_ (k4 _ _ (nS _ (by simp)) hTI) (h1.at fun o e => k4 _ o (nS _ (by simp)) e) (h2.at fun o e => k4 _ o (nS _ (by simp)) e)
      · exact ⟨rfl, .ref s2.heap.objs.size, H', I', rfl, q _ _ _ fr hs' hS' hr'⟩
      · exact Heap.lt_size (k4 _ _ (nS TO (by simp)) hTO)
end
end SC

set_option Elab.async false
set_option linter.all false
set_option maxHeartbeats 1000000
/-! A cup played round by round: the winners by the bits of the upsets. -/
namespace SC
open PySem PySem.Spec PyProof.Rows L2
def prAt (ps : List Int) (i : Nat) : Int × Int := (ps.getD i 0, ps.getD (ps.length - 1 - i) 0)
def prs (ps : List Int) : List (Int × Int) := (List.range (ps.length / 2)).map (prAt ps)
def win (b : Int) (p : Int × Int) : Int := if b = 1 then max p.1 p.2 else min p.1 p.2
def rnd (ps bs : List Int) : List Int := (List.range (ps.length / 2)).map fun i => win (bs.getD i 0) (prAt ps i)
def seeds (s : Nat) : List Int := (List.range (2 ^ s)).map fun i : Nat => 1 + (i : Int)
def plP (s : Nat) (B : List Int) : Nat → List Int × List Int
  | 0 => (seeds s, [])
  | d + 1 => (rnd (plP s B d).1 (B.drop (plP s B d).2.length), (plP s B d).2 ++ rnd (plP s B d).1 (B.drop (plP s B d).2.length))
def PL (s : Nat) (B : List Int) (d : Nat) : List Int := (plP s B d).1
def FD (s : Nat) (B : List Int) (d : Nat) : List Int := (plP s B d).2
theorem PL_succ (s : Nat) (B : List Int) (d : Nat) : PL s B (d + 1) = rnd (PL s B d) (B.drop (FD s B d).length) := rfl
theorem FD_succ (s : Nat) (B : List Int) (d : Nat) : FD s B (d + 1) = FD s B d ++ PL s B (d + 1) := rfl
theorem rnd_len (ps bs : List Int) : (rnd ps bs).length = ps.length / 2 := by simp [rnd]
theorem prs_len (ps : List Int) : (prs ps).length = ps.length / 2 := by simp [prs]
theorem pow_half {s d : Nat} (h : d < s) : 2 ^ (s - d) = 2 * 2 ^ (s - (d + 1)) := by
  rw [show s - d = (s - (d + 1)) + 1 by omega, Nat.pow_succ]
  omega
theorem PL_len {s : Nat} {B : List Int} : ∀ {d : Nat}, d ≤ s → (PL s B d).length = 2 ^ (s - d)
  | 0, _ => by simp [PL, plP, seeds]
  | d + 1, h => by
    rw [PL_succ, rnd_len, PL_len (by omega), pow_half (by omega)]
    omega
theorem FD_len {s : Nat} {B : List Int} : ∀ {d : Nat}, d ≤ s → (FD s B d).length + 2 ^ (s - d) = 2 ^ s
  | 0, _ => by simp [FD, plP]
  | d + 1, h => by
    have h1 := FD_len (s := s) (B := B) (d := d) (by omega)
    rw [FD_succ, List.length_append, PL_len h]
    have := pow_half (s := s) (d := d) (by omega)
    omega
theorem win_mem (b : Int) (p : Int × Int) : win b p = p.1 ∨ win b p = p.2 := by
  unfold win
  split <;> omega
theorem win_max {b : Int} {p : Int × Int} (hp : p.1 ≠ p.2) (hb : b = 0 ∨ b = 1) : (if win b p = max p.1 p.2 then (1 : Int) else 0) = b := by
  unfold win
  rcases hb with rfl | rfl
  · have z : ¬ ((0 : Int) = 1) := by decide
    rw [if_neg z, if_neg (by omega)]
  · rw [if_pos rfl, if_pos rfl]
theorem getD_inj {ps : List Int} (h : ps.Nodup) {a b : Nat} (ha : a < ps.length) (hb : b < ps.length) (e : ps.getD a 0 = ps.getD b 0) : a = b := by
  rw [List.getD_eq_getElem?_getD, List.getD_eq_getElem?_getD, List.getElem?_eq_getElem ha, List.getElem?_eq_getElem hb] at e
  have e : ps[a] = ps[b] := e
  have pw := List.pairwise_iff_getElem.mp h
  rcases Nat.lt_trichotomy a b with z | z | z
  · exact absurd e (pw a b ha hb z)
  · exact z
  · exact absurd e.symm (pw b a hb ha z)
theorem rnd_nd {ps bs : List Int} (h : ps.Nodup) : (rnd ps bs).Nodup := by
  unfold rnd
  rw [List.Nodup, List.pairwise_map]
  refine List.Pairwise.imp_of_mem (fun {i j} hi hj hlt => ?_) List.pairwise_lt_range
  have hi := List.mem_range.mp hi
  have hj := List.mem_range.mp hj
  intro e
  have key : ∀ i j : Nat, i < ps.length / 2 → j < ps.length / 2 → i < j → ∀ u v : Nat, (u = i ∨ u = ps.length - 1 - i) → (v = j ∨ v = ps.length - 1 - j) → ps.getD u 0 ≠ ps.getD v 0 := fun i j hi hj hl u v hu hv q => by
    have := getD_inj h (a := u) (b := v) (by omega) (by omega) q
    omega
  rcases win_mem (bs.getD i 0) (prAt ps i) with z1 | z1 <;> rcases win_mem (bs.getD j 0) (prAt ps j) with z2 | z2 <;> rw [z1, z2] at e
  · exact key i j hi hj hlt i j (.inl rfl) (.inl rfl) e
  · exact key i j hi hj hlt i _ (.inl rfl) (.inr rfl) e
  · exact key i j hi hj hlt _ j (.inr rfl) (.inl rfl) e
  · exact key i j hi hj hlt _ _ (.inr rfl) (.inr rfl) e
theorem seeds_nd (s : Nat) : (seeds s).Nodup := by
  unfold seeds
  rw [List.Nodup, List.pairwise_map]
  exact List.Pairwise.imp (fun {a b} h e => by omega) List.pairwise_lt_range
theorem PL_nd (s : Nat) (B : List Int) : ∀ d : Nat, (PL s B d).Nodup
  | 0 => seeds_nd s
  | d + 1 => rnd_nd (PL_nd s B d)
theorem FD_pre {s : Nat} {B : List Int} {d : Nat} : ∀ k : Nat, ∃ r, FD s B (d + k) = FD s B d ++ r
  | 0 => ⟨[], by simp⟩
  | k + 1 => by
    obtain ⟨r, e⟩ := FD_pre (s := s) (B := B) (d := d) k
    exact ⟨r ++ PL s B (d + k + 1), by rw [← Nat.add_assoc, FD_succ, e, List.append_assoc]⟩
theorem FD_cut {s : Nat} {B : List Int} {d : Nat} (h : d < s) : ((FD s B s).drop (FD s B d).length).take (PL s B (d + 1)).length = PL s B (d + 1) := by
  obtain ⟨r, e⟩ := FD_pre (s := s) (B := B) (d := d + 1) (s - (d + 1))
  rw [show d + 1 + (s - (d + 1)) = s by omega] at e
  rw [e, FD_succ, List.append_assoc, List.drop_left, List.take_left]
/-- a number by its bits, the highest first -/
def num (B : List Int) : Int := B.foldl (fun a b => 2 * a + b) 0
def Bits (B : List Int) : Prop := ∀ b ∈ B, b = 0 ∨ b = 1
theorem num_snoc (B : List Int) (b : Int) : num (B ++ [b]) = 2 * num B + b := by simp [num]
theorem snoc_ind {P : List Int → Prop} (h0 : P []) (h1 : ∀ B b, P B → P (B ++ [b])) : ∀ B, P B := by
  intro B
  generalize hn : B.length = n
  induction n generalizing B with
  | zero => rw [List.length_eq_zero_iff.mp hn]; exact h0
  | succ n ih =>
    have z : B ≠ [] := fun e => by rw [e] at hn; cases hn
    rw [← List.dropLast_concat_getLast z]
    exact h1 _ _ (ih _ (by rw [List.length_dropLast, hn]; rfl))
theorem num_range {B : List Int} : Bits B → 0 ≤ num B ∧ num B < 2 ^ B.length := by
  induction B using snoc_ind with
  | h0 => intro _; simp [num]
  | h1 B b ih =>
    intro h
    have h1 := ih fun x hx => h x (by simp [hx])
    have h2 := h b (by simp)
    rw [num_snoc, List.length_append, List.length_singleton, Int.pow_succ]
    rcases h2 with rfl | rfl <;> omega
theorem num_take {B : List Int} {j : Nat} {b : Int} (h : B[j]? = some b) : num (B.take (j + 1)) = 2 * num (B.take j) + b := by
  rw [List.take_add_one, h]
  exact num_snoc _ _
theorem num_bit {B : List Int} : Bits B → ∀ {j : Nat} {b : Int}, B[j]? = some b → (num B / 2 ^ (B.length - 1 - j)) % 2 = b := by
  induction B using snoc_ind with
  | h0 => intro _ j b h; simp at h
  | h1 B c ih =>
    intro h j b hj
    have hB : Bits B := fun x hx => h x (by simp [hx])
    have hc := h c (by simp)
    rw [num_snoc, List.length_append, List.length_singleton]
    by_cases z : j < B.length
    · rw [List.getElem?_append_left z] at hj
      have q := ih hB hj
      have e : B.length + 1 - 1 - j = (B.length - 1 - j) + 1 := by omega
      have e2 : (2 * num B + c) / 2 ^ (B.length - 1 - j + 1) = num B / 2 ^ (B.length - 1 - j) := by
        rw [Int.pow_succ, Int.mul_comm (2 ^ (B.length - 1 - j)) 2, ← Int.ediv_ediv_of_nonneg (show (0 : Int) ≤ 2 by decide), show (2 * num B + c) / 2 = num B by omega]
      rw [e, e2]
      exact q
    · have hj2 := (List.getElem?_eq_some_iff.mp hj).1
      rw [List.length_append, List.length_singleton] at hj2
      have e : j = B.length := by omega
      subst e
      rw [List.getElem?_append_right (Nat.le_refl _), Nat.sub_self] at hj
      have : c = b := by simpa using hj
      subst this
      rw [show B.length + 1 - 1 - B.length = 0 by omega]
      simp
      omega

/-- the pairs of all rounds up to d -/
def MP (s : Nat) (B : List Int) : Nat → List (Int × Int)
  | 0 => []
  | d + 1 => MP s B d ++ prs (PL s B d)
theorem MP_len (s : Nat) (B : List Int) : ∀ d : Nat, (MP s B d).length = (FD s B d).length
  | 0 => rfl
  | d + 1 => by
    show (MP s B d ++ prs (PL s B d)).length = _
    rw [FD_succ, List.length_append, List.length_append, MP_len s B d, prs_len, PL_succ, rnd_len]
theorem MP_win (s : Nat) (B : List Int) : ∀ (d : Nat), d ≤ s → ∀ (j : Nat) (p : Int × Int) (w : Int), (MP s B d)[j]? = some p → (FD s B d)[j]? = some w → w = win (B.getD j 0) p ∧ p.1 ≠ p.2
  | 0, _, j, p, w, h, _ => by simp [MP] at h
  | d + 1, hd, j, p, w, h1, h2 => by
    have h1 : (MP s B d ++ prs (PL s B d))[j]? = some p := h1
    rw [FD_succ] at h2
    by_cases z : j < (FD s B d).length
    · rw [List.getElem?_append_left (by rw [MP_len]; exact z)] at h1
      rw [List.getElem?_append_left z] at h2
      exact MP_win s B d (by omega) j p w h1 h2
    · rw [List.getElem?_append_right (by rw [MP_len]; omega), MP_len] at h1
      rw [List.getElem?_append_right (by omega)] at h2
      obtain ⟨i, hi⟩ : ∃ i, j - (FD s B d).length = i := ⟨_, rfl⟩
      have hj : j = (FD s B d).length + i := by omega
      subst hj
      rw [show (FD s B d).length + i - (FD s B d).length = i by omega] at h1 h2
      have il := (List.getElem?_eq_some_iff.mp h1).1
      rw [prs_len] at il
      unfold prs at h1
      rw [List.getElem?_map, List.getElem?_range il] at h1
      rw [PL_succ] at h2
      unfold rnd at h2
      rw [List.getElem?_map, List.getElem?_range il] at h2
      have e1 : prAt (PL s B d) i = p := Option.some.inj h1
      have e2 : win ((B.drop (FD s B d).length).getD i 0) (prAt (PL s B d) i) = w := Option.some.inj h2
      have e3 : (B.drop (FD s B d).length).getD i 0 = B.getD ((FD s B d).length + i) 0 := by
        rw [List.getD_eq_getElem?_getD, List.getD_eq_getElem?_getD, List.getElem?_drop]
      rw [← e1, ← e2, e3]
      refine ⟨rfl, fun q => ?_⟩
      have pl := PL_len (s := s) (B := B) (d := d) (by omega)
      have hp := pow_half (s := s) (d := d) (by omega)
      have := getD_inj (PL_nd s B d) (a := i) (b := (PL s B d).length - 1 - i) (by omega) (by omega) q
      omega
theorem sorted_two {a b : Int} {ms : List Int} (h : ms.Perm [a, b]) (s : ms.Pairwise (· ≤ ·)) : ms = [min a b, max a b] := by
  match ms, h.length_eq with
  | [x, y], _ =>
    have hxy : x ≤ y := by simpa using s
    have hx := h.mem_iff (a := x)
    have hy := h.mem_iff (a := y)
    have ha := h.mem_iff (a := a)
    have hb := h.mem_iff (a := b)
    simp at hx hy ha hb
    have e1 : x = min a b := by omega
    have e2 : y = max a b := by omega
    rw [e1, e2]
theorem zw_app {a b c d : List V} (h : a.length = c.length) : zw (a ++ b) (c ++ d) = zw a c ++ zw b d := by
  unfold zw
  exact List.zipWith_append h
theorem RefsTo.app {H : Hp} {as bs : List Addr} {us vs : List (List V)} (r : RefsTo H as us) (q : RefsTo H bs vs) : RefsTo H (as ++ bs) (us ++ vs) := by
  refine ⟨by rw [List.length_append, List.length_append, r.1, q.1], fun j a v h1 h2 => ?_⟩
  by_cases hj : j < as.length
  · rw [List.getElem?_append_left hj] at h1
    rw [List.getElem?_append_left (by rw [← r.1]; exact hj)] at h2
    exact r.2 j a v h1 h2
  · rw [List.getElem?_append_right (by omega)] at h1
    rw [List.getElem?_append_right (by rw [← r.1]; omega), ← r.1] at h2
    exact q.2 _ a v h1 h2
theorem FD_full {s : Nat} {B : List Int} : (FD s B s).length + 1 = 2 ^ s := by
  have := FD_len (s := s) (B := B) (d := s) (Nat.le_refl _)
  rw [Nat.sub_self] at this
  omega
end SC

set_option Elab.async false
set_option linter.all false
set_option maxHeartbeats 4000000
/-! max, min of a pair; steps for tuples in lists. -/
namespace SC
open PySem PySem.Spec PyProof.Rows L2
section
variable {X : Cx}
def rMaxT (K : PySem.W.Frag) : List V → Hp → VK → Prop := fun vs H Q => ∃ (a : Addr) (i j : Int), vs = [V.ref a] ∧ SqT K H a [.int i, .int j] ∧ Q (.int (max i j)) H
def rMinT (K : PySem.W.Frag) : List V → Hp → VK → Prop := fun vs H Q => ∃ (a : Addr) (i j : Int), vs = [V.ref a] ∧ SqT K H a [.int i, .int j] ∧ Q (.int (min i j)) H
def two (i j : Int) (k : Nat) : Int := if k = 0 then i else j
theorem two_at {i j : Int} {t u : Tok} {k : Nat} {v : Value} (h : ([.int i t, .int j u] : List Value).toArray[k]? = some v) : ∃ t', v = .int (two i j k) t' := by
  match k, h with
  | 0, h => exact ⟨t, by simpa [two] using h.symm⟩
  | 1, h => exact ⟨u, by simpa [two] using h.symm⟩
  | k + 2, h => simp at h
theorem pair_vals {i j : Int} {its : List Value} (rv : Vals [.int i, .int j] its) : ∃ t u, its = [.int i t, .int j u] := by
  cases rv with
  | cons r1 rr =>
    cases rr with
    | cons r2 rr =>
      cases rr
      obtain ⟨t, rfl⟩ := r1
      obtain ⟨u, rfl⟩ := r2
      exact ⟨t, u, rfl⟩
theorem cr_maxT (hc : X.calm = true) : CallR X (.builtin "max") (rMaxT X.K) := by
  intro pins s σ H vs us Q I r h
  obtain ⟨a, i, j, rfl, ht, q⟩ := h
  obtain ⟨its, rv, p, _⟩ := I.tuple ht
  rw [Vals.ref1 r]
  obtain ⟨t, u, rfl⟩ := pair_vals rv
  have hla : a ≠ s.heap.objs.size := Nat.ne_of_lt p.lt
  have pT : s.heap.IsTuple a ([.int i t, .int j u] : List Value).toArray := p
  refine call_max_walk (wpAny_pyIter_tuple pT ?_)
  refine ⟨s.heap.objs.size, _, _, _, _, _, _, rfl, Walks.tuple (A := X.A.in1) (I.ok.hd hc) _ a hla ([.int i t, .int j u] : List Value).toArray, ⟨⟨_, Heap.get?_push_size _ rfl, rfl, rfl⟩, pT.push _⟩, fun b hb => ?_, by simp, CmpOf.ints_gt (two i j) (fun _ _ => two_at), fun v h' tk hP hk => ?_⟩
  · show b < (s.heap.push _).objs.size
    rw [Heap.size_push]
    rcases List.mem_cons.mp hb with rfl | hb
    · exact Nat.lt_succ_self _
    · rw [List.mem_singleton.mp hb]
      exact Nat.lt_succ_of_lt p.lt
  · obtain ⟨t', rfl⟩ := two_at hP
    refine ⟨.int _, H, I.kept (t' := tk) fun b o e => hk b o (fun z => ?_) (Heap.get?_push_of_some _ e), ⟨t', ?_⟩, q⟩
    · rw [List.mem_singleton.mp z] at e
      exact absurd (Heap.lt_size e) (Nat.lt_irrefl _)
    · congr 1
      show two i j (if decide (two i j 1 > two i j 0) = true then 1 else 0) = max i j
      unfold two
      by_cases z : j > i
      · simp [z]; omega
      · simp [z]; omega
theorem cr_minT (hc : X.calm = true) : CallR X (.builtin "min") (rMinT X.K) := by
  intro pins s σ H vs us Q I r h
  obtain ⟨a, i, j, rfl, ht, q⟩ := h
  obtain ⟨its, rv, p, _⟩ := I.tuple ht
  rw [Vals.ref1 r]
  obtain ⟨t, u, rfl⟩ := pair_vals rv
  have hla : a ≠ s.heap.objs.size := Nat.ne_of_lt p.lt
  have pT : s.heap.IsTuple a ([.int i t, .int j u] : List Value).toArray := p
  refine call_min_walk (wpAny_pyIter_tuple pT ?_)
  refine ⟨s.heap.objs.size, _, _, _, _, _, _, rfl, Walks.tuple (A := X.A.in1) (I.ok.hd hc) _ a hla ([.int i t, .int j u] : List Value).toArray, ⟨⟨_, Heap.get?_push_size _ rfl, rfl, rfl⟩, pT.push _⟩, fun b hb => ?_, by simp, CmpOf.ints_lt (two i j) (fun _ _ => two_at), fun v h' tk hP hk => ?_⟩
  · show b < (s.heap.push _).objs.size
    rw [Heap.size_push]
    rcases List.mem_cons.mp hb with rfl | hb
    · exact Nat.lt_succ_self _
    · rw [List.mem_singleton.mp hb]
      exact Nat.lt_succ_of_lt p.lt
  · obtain ⟨t', rfl⟩ := two_at hP
    refine ⟨.int _, H, I.kept (t' := tk) fun b o e => hk b o (fun z => ?_) (Heap.get?_push_of_some _ e), ⟨t', ?_⟩, q⟩
    · rw [List.mem_singleton.mp z] at e
      exact absurd (Heap.lt_size e) (Nat.lt_irrefl _)
    · congr 1
      show two i j (if decide (two i j 1 < two i j 0) = true then 1 else 0) = min i j
      unfold two
      by_cases z : j < i
      · simp [z]; omega
      · simp [z]; omega
end
section
variable {K : PySem.W.Frag} {H : Hp} {Q : VK} {a : Addr} {i j : Int}
theorem w_maxT (h : SqT K H a [.int i, .int j]) (k : Q (.int (max i j)) H) : rMaxT K [.ref a] H Q := ⟨a, i, j, rfl, h, k⟩
theorem w_minT (h : SqT K H a [.int i, .int j]) (k : Q (.int (min i j)) H) : rMinT K [.ref a] H Q := ⟨a, i, j, rfl, h, k⟩
theorem w_extend {p b : Addr} {xs zs : List V} (h : H p = some (.lst xs)) (hb : H b = some (.lst zs)) (hz : xs.length + zs.length ≤ 1000000) (k : Q .non (upd H p (.lst (xs ++ zs)))) : rExtend (.ref p) [.ref b] H Q :=
  ⟨p, b, xs, zs, rfl, rfl, h, hb, Nat.le_trans hz (by decide), k⟩
theorem w_lz {ta : TA} {σ : L2.St} (k : ta σ H fun vs H1 => LzB K vs H1 Q) : tLz K ta σ H Q := k
theorem w_lzb {b : Addr} {xs ys : List V} (hx : SqL K H a xs) (hy : SqL K H b ys) (hl : xs.length = ys.length) (k : ∀ p H2 ads, H p = none → Sm H H2 → H2 p = some (.lst (ads.map V.ref)) → RefsTo H2 ads (zw xs ys) → Q (.ref p) H2) : LzB K [.ref a, .ref b] H Q := ⟨a, b, xs, ys, rfl, hx, hy, hl, k⟩
theorem w_gx {b0 : Bool} {P : Addr} {tl te : TE} {g : TG} {vs : List Nat} {σ : L2.St} (k : tl σ H fun x H1 => ∃ a, x = .ref a ∧ (∃ xs, SqL K H1 a xs) ∧ GxB b0 P (Itl K a) g te vs σ H1 Q) : tGx b0 P (iList K tl) g te vs σ H Q := k
theorem w_inT {x : Int} (h : SqT K H a [.int i, .int j]) (k : Q (.bl (decide (x = i ∨ x = j))) H) : rIn K false (.int x) (.ref a) H Q := by
  refine ⟨a, [.int i, .int j], rfl, .inr h, rfl, rfl, ?_⟩
  have e := inV_int (x := x) [i, j]
  have e2 : inV (.int x) [.int i, .int j] = decide (x = i ∨ x = j) := by
    refine e.trans ?_
    simp
  show Q (.bl (inV (.int x) [.int i, .int j])) H
  rw [e2]
  exact k
end

theorem atI_neg {α : Type} {xs : List α} {i : Nat} {v : α} (hi : i < xs.length) (h : xs[xs.length - 1 - i]? = some v) : atI xs (-1 - (i : Int)) = some v := by
  unfold atI ixN
  rw [if_neg (by omega), if_pos (by omega)]
  show xs[(-1 - (i : Int) + xs.length).toNat]? = some v
  rw [show (-1 - (i : Int) + xs.length).toNat = xs.length - 1 - i by omega]
  exact h
theorem w_rg2 {H : Hp} {Q : VK} {i j : Int} (h0 : 0 ≤ i) (h1 : i ≤ j) (h2 : j ≤ 1000000) (k : ∀ q H', Sm H H' → H q = none → H' q = some (.lst (((List.range (j - i).toNat).map fun n : Nat => i + (n : Int)).map V.int)) → Q (.ref q) H') : ∃ m n, V.int i = .int m ∧ V.int j = .int n ∧ LstRg m n H Q :=
  ⟨i, j, rfl, rfl, RgOk.of_le (by omega) (by omega) (by omega) (by omega), fun q hq => k q _ (same_upd hq) hq (by
    rw [upd_same]
    unfold rgV
    rw [List.map_map]
    rfl)⟩
theorem getI {ps : List Int} {i : Nat} (h : i < ps.length) : (ps.map V.int)[i]? = some (.int (ps.getD i 0)) := by
  rw [List.getElem?_map, List.getD_eq_getElem?_getD, List.getElem?_eq_getElem h]
  rfl
theorem tabIn_of {K : PySem.W.Frag} {x : Str} {f c P : Addr} {c1 c2 : Value} {d1 d2 : Option Addr} {s1 s2 : Array (Option Value)} {fd : FuncData} {vs : Array Value} (e1 : PySem.W.nsIn K mainGlobals x = some (some (.ref f))) (e2 : K.lookup f = some ⟨c1, d1, .func fd, s1⟩) (e3 : fd.code = .ref c) (e4 : K.lookup c = some ⟨c2, d2, .fields vs, s2⟩) (e5 : (vs[11]? : Option Value) = some (.ref P)) : PySem.W.tabIn K x = some (c, P) := by
  unfold PySem.W.tabIn
  rw [e1]
  dsimp only
  rw [e2]
  dsimp only
  rw [e3]
  dsimp only
  rw [e4]
  dsimp only
  rw [e5]
end SC

set_option Elab.async false
set_option linter.all false
set_option maxHeartbeats 4000000
/-! a < b of two lists of ints; rows of bits. -/
namespace SC
open PySem PySem.Spec PyProof.Rows L2
def ltN (ns ms : List Int) : Bool := SeqAt.firstLt (fun j => decide (ns.getD j 0 = ms.getD j 0)) (fun j => decide (ns.getD j 0 < ms.getD j 0)) (decide (ns.length < ms.length)) (List.range (min ns.length ms.length))
def rLtL (K : PySem.W.Frag) : R2 := fun x y H Q => ∃ (a b : Addr) (ns ms : List Int), x = .ref a ∧ y = .ref b ∧ SqL K H a (ns.map V.int) ∧ SqL K H b (ms.map V.int) ∧ Q (.bl (ltN ns ms)) H
theorem op_ltL {X : Cx} (hu0 : X.A.units + 64 < cLine) : OpR X (compareOp .Lt) (rLtL X.K) := by
  intro pins s σ H x y v u Q I rx ry h
  have hu : X.A.units < cLine := by omega
  obtain ⟨a, b, ns, ms, rfl, rfl, ha, hb, q⟩ := h
  cases rx
  cases ry
  obtain ⟨its, r1, p1, _⟩ := I.list ha
  obtain ⟨its2, r2, p2, _⟩ := I.list hb
  have i1 : IntsAre its ns := Vals.ints r1
  have i2 : IntsAre its2 ms := Vals.ints r2
  have e1 : its.toArray.size = ns.length := by rw [List.size_toArray]; exact i1.length
  have e2 : its2.toArray.size = ms.length := by rw [List.size_toArray]; exact i2.length
  have at1 : ∀ j (h1 : j < its.toArray.size), ∃ t, its.toArray[j] = .int (ns.getD j 0) t := fun j h1 => PyProof.Rows.IntsAre.int_at i1 _ _ (by simp at h1; simp [h1])
  have at2 : ∀ j (h1 : j < its2.toArray.size), ∃ t, its2.toArray[j] = .int (ms.getD j 0) t := fun j h1 => PyProof.Rows.IntsAre.int_at i2 _ _ (by simp at h1; simp [h1])
  have R := SeqAt.RcLt.lists (A := X.A) (s := s) (e := fun j => decide (ns.getD j 0 = ms.getD j 0)) (r := fun j => decide (ns.getD j 0 < ms.getD j 0)) p1.isList p2.isList hu (fun j h1 h2 => by
    obtain ⟨t, et⟩ := at1 j h1
    obtain ⟨t', et'⟩ := at2 j h2
    rw [et, et']
    have z : (ns.getD j 0 == ms.getD j 0) = decide (ns.getD j 0 = ms.getD j 0) := by
      by_cases q : ns.getD j 0 = ms.getD j 0
      · rw [decide_eq_true q]; exact beq_iff_eq.mpr q
      · rw [decide_eq_false q]; exact beq_eq_false_iff_ne.mpr q
    rw [← z]
    exact SeqAt.EqAt.int_int _ _ _ _) (fun j h1 h2 _ => by
    obtain ⟨t, et⟩ := at1 j h1
    obtain ⟨t', et'⟩ := at2 j h2
    rw [et, et']
    exact fun _ _ _ _ h => PyProof.Rows.lt_int h)
  rw [e1, e2] at R
  have z : wpAny (model X.prog X.w) X.A (compareOp .Lt (.ref a) (.ref b)) (EP X pins σ Q) X.xe s := R X.prog X.w X.xe (EP X pins σ Q) ⟨.bl _, H, I, rfl, q⟩
  exact z
theorem w_ltL {K : PySem.W.Frag} {H : Hp} {Q : VK} {a b : Addr} {ns ms : List Int} (h1 : SqL K H a (ns.map V.int)) (h2 : SqL K H b (ms.map V.int)) (k : Q (.bl (ltN ns ms)) H) : rLtL K (.ref a) (.ref b) H Q := ⟨a, b, ns, ms, rfl, rfl, h1, h2, k⟩
theorem firstLt_map {e r : Nat → Bool} {z : Bool} (l : List Nat) : SeqAt.firstLt e r z (l.map Nat.succ) = SeqAt.firstLt (fun j => e (j + 1)) (fun j => r (j + 1)) z l := by
  induction l with
  | nil => rfl
  | cons j t ih =>
    rw [List.map_cons]
    unfold SeqAt.firstLt
    rw [ih]
theorem num_cons {b : Int} {B : List Int} : num (b :: B) = b * 2 ^ B.length + num B := by
  have h : ∀ (B : List Int) (a : Int), B.foldl (fun a b => 2 * a + b) a = a * 2 ^ B.length + num B := by
    intro B
    induction B with
    | nil => intro a; simp [num]
    | cons c B ih =>
      intro a
      rw [List.foldl_cons, ih]
      have e : num (c :: B) = c * 2 ^ B.length + num B := by
        show B.foldl (fun a b => 2 * a + b) (2 * 0 + c) = _
        rw [ih, show (2 : Int) * 0 + c = c by omega]
      rw [e, List.length_cons, Int.pow_succ, Int.add_mul, show 2 * a * 2 ^ B.length = a * (2 ^ B.length * 2) by rw [Int.mul_comm 2 a, Int.mul_assoc, Int.mul_comm 2 ((2 : Int) ^ B.length)]]
      omega
  unfold num
  rw [List.foldl_cons, h]
  rw [show (2 : Int) * 0 + b = b by omega]
  rfl
theorem ltN_num : ∀ {ns ms : List Int}, ns.length = ms.length → Bits ns → Bits ms → ltN ns ms = decide (num ns < num ms)
  | [], [], _, _, _ => rfl
  | a :: ns, b :: ms, hl, h1, h2 => by
    have hl2 : ns.length = ms.length := by simpa using hl
    have b1 : Bits ns := fun x hx => h1 x (List.mem_cons_of_mem _ hx)
    have b2 : Bits ms := fun x hx => h2 x (List.mem_cons_of_mem _ hx)
    have ih := ltN_num hl2 b1 b2
    have r1 := num_range b1
    have r2 := num_range b2
    rw [num_cons, num_cons]
    unfold ltN at ih ⊢
    rw [hl2] at ih r1 ⊢
    rw [Nat.min_self] at ih
    rw [show min (a :: ns).length (b :: ms).length = ms.length + 1 by simp [hl2], List.range_succ_eq_map]
    have f0 : decide ((a :: ns).length < (b :: ms).length) = decide (ms.length < ms.length) := by simp [hl2]
    rw [f0]
    by_cases c : a = b
    · rw [SeqAt.firstLt_yes (by simpa using c), firstLt_map]
      have e := ih
      simp only [List.getD_cons_succ]
      rw [e, c]
      by_cases z : num ns < num ms
      · rw [decide_eq_true z, decide_eq_true (by omega)]
      · rw [decide_eq_false z, decide_eq_false (by omega)]
    · rw [SeqAt.firstLt_no (by simpa using c)]
      simp only [List.getD_cons_zero]
      rcases h1 a (List.mem_cons_self ..) with rfl | rfl <;> rcases h2 b (List.mem_cons_self ..) with rfl | rfl
      · exact absurd rfl c
      · rw [decide_eq_true (by omega), decide_eq_true (by omega)]
      · rw [decide_eq_false (by omega), decide_eq_false (by omega)]
      · exact absurd rfl c
theorem num_zeros (n : Nat) : num (List.replicate n 0) = 0 := by
  induction n with
  | zero => rfl
  | succ n ih => rw [List.replicate_succ, num_cons, ih]; omega
theorem num_ones (n : Nat) : num (List.replicate n 1) = 2 ^ n - 1 := by
  induction n with
  | zero => rfl
  | succ n ih => rw [List.replicate_succ, num_cons, ih, List.length_replicate, Int.pow_succ]; omega
theorem bits_rep {n : Nat} {b : Int} (h : b = 0 ∨ b = 1) : Bits (List.replicate n b) := fun x hx => by rw [List.eq_of_mem_replicate hx]; exact h
theorem bits_snoc {bs : List Int} {r : Int} (h : Bits bs) (hr : r = 0 ∨ r = 1) : Bits (bs ++ [r]) := fun b hb => by
  rcases List.mem_append.mp hb with hb | hb
  · exact h b hb
  · rw [List.mem_singleton.mp hb]; exact hr
theorem rep_flat {n : Int} {b : Int} : (List.replicate n.toNat [V.int b]).flatten = (List.replicate n.toNat b).map V.int := by
  generalize n.toNat = k
  induction k with
  | zero => rfl
  | succ k ih => rw [List.replicate_succ, List.replicate_succ, List.flatten_cons, ih]; rfl
theorem kp_updF {a D : Addr} {H H2 : Hp} {o : HO} (g : Kp a H H2) (hD : H D = none) : Kp a H (L2.upd H2 D o) := ⟨fun b x _ n q => by
  rw [upd_ne (ne_of_none q hD)]
  exact g b x n q, fun b n q => tabG_upd (tabG_ne hD q) (g.tb b n q), fun b n q => g.fr b n (fr_upd q).2⟩
end SC

set_option Elab.async false
set_option linter.all false
set_option maxRecDepth 100000
set_option maxHeartbeats 4000000
/-! A dict comprehension whose keys are tuples. -/
namespace SC
open PySem PySem.Spec PyProof.Rows L2
section
variable {X : Cx} {pins : List (Addr × Obj)} {σ : L2.St} {H H' : Hp} {s : Shared} {E : Value → Shared → Prop} {D : Addr} {y v : V} {u r : Value}
/-- the put of a comprehension, whatever kind its keys are of -/
theorem put_comp {Q : Unit → Shared → Prop} (hu : X.A.units < cLine) (I : L2.Inv X pins σ H s) (g : DPut H D y v H') (ry : RelV y u) (rv : RelV v r) (h : ∀ s', L2.Inv X pins σ H' s' → Q () s') : wpAny (model X.prog X.w) X.A (dictSet D u r) Q E s := by
  rcases g with ⟨kvs, k, e, ey, l, eH⟩ | ⟨kvs, k, b, e, ey, eb, l, eH⟩
  · subst ey eH
    exact d_dictSet I e l ry rv h
  · subst ey eH
    cases (show u = Value.ref b from ry)
    obtain ⟨z, hd, xs, rel, dd⟩ := dt_of I.hok e
    have z1 : xs.length ≤ sizeLine := by rw [← Paired.length rel]; exact z
    have z2 : (putK kvs k v).length ≤ sizeLine := by have := length_putK kvs k v; omega
    refine wpAny_dictSet_heap (hsz := z1) (knd := tupleKind (mixKind X.prog X.w)) hu (key_of I.hok eb) dd fun h' dd' hs => h _ ?_
    obtain ⟨q, es, ep, hq, w2, w3, w4, _, w5⟩ := dd'
    refine d_write I (by rw [e]; exact True.intro) hs ⟨q, hq⟩ ⟨z2, hd, _, (rel.put k eb rv).keeps fun c ys ec => ?_, q, es, ep, hq, w2, w3, w4, w5⟩
    rw [upd_ne (ne_of ec e (fun z => nomatch z))]
    exact ec
end
section
variable {X : Cx} {kx vx tg iter : Expr} {ifs : List Expr} {scope : Scope} {own : List (Str × Nat)} {wi : TI} {g : TG} {tt : TT} {tk tv : TE}
/-- {k: v for target in iter if ..}, the keys tuples; W a word by the turn and a measure, Nx what a turn is to reach -/
def tDcT (wi : TI) (g : TG) (tt : TT) (tk tv : TE) (vs : List Nat) : TE := fun σ H Q => wi σ H fun J H1 => ∀ D, H1 D = none → ∃ W : Nat → Nat → Hp → Prop, (∃ m, W 0 m (L2.upd H1 D (.dT []))) ∧ ∀ i m H, W i m H →
  (J.stop i H ∧ Q (.ref D) H) ∨ (J.go i H ∧ ∃ Nx : Hp → Prop, (∀ H', Nx H' → ∃ m', m' < m ∧ W (i + 1) m' H') ∧ ∀ x H', J.yld i H x H' → g x (wipe σ vs) H' fun σ2 H2 => wipe σ2 vs = wipe σ vs ∧ tt σ2 H2 fun b H3 =>
    if b = true then tk σ2 H3 fun y H4 => tv σ2 H4 fun z H5 => ∃ H6, DPut H5 D y z H6 ∧ Nx H6 else Nx H3)
/-- the turns, in the block's own context -/
theorem dcT_loop {s3 s4 : Shared} {H3 H4 : Hp} {ce : Env} {σ : L2.St} {it D : Addr} {fp : List Addr} {tn : Nat → Heap → Prop} {J : It} {W : Nat → Nat → Hp → Prop} {m0 : Nat} {pos : Pos} {R : Result → Shared → Prop} {vs : List Nat} {Qs : Hp → Prop}
    (hu : X.A.units < cLine) (hc : X.calm = true) (T : Turn X.prog X.w X.K tg J fp it tn)
    (pg : PG (X.blk s3 H3 scope ce fp) tg g) (pt : PTs (X.blk s3 H3 scope ce fp) ifs tt) (pk : PE (X.blk s3 H3 scope ce fp) kx tk) (pv : PE (X.blk s3 H3 scope ce fp) vx tv)
    (I0 : L2.Inv (X.blk s3 H3 scope ce fp) [] (wipe σ vs) H4 s4) (st0 : tn 0 s4.heap) (n0 : ∀ b ∈ fp, H4 b = none) (w0 : W 0 m0 H4)
    (turn : ∀ i m H, W i m H → (J.stop i H ∧ Qs H) ∨ (J.go i H ∧ ∃ Nx : Hp → Prop, (∀ H', Nx H' → ∃ m', m' < m ∧ W (i + 1) m' H') ∧ ∀ x H', J.yld i H x H' → g x (wipe σ vs) H' fun σ2 H2 => wipe σ2 vs = wipe σ vs ∧ tt σ2 H2 fun b H3 =>
      if b = true then tk σ2 H3 fun y H4 => tv σ2 H4 fun z H5 => ∃ H6, DPut H5 D y z H6 ∧ Nx H6 else Nx H3))
    (fin : ∀ s' H', L2.Inv (X.blk s3 H3 scope ce fp) [] (wipe σ vs) H' s' → Qs H' → R (.ok .next) s') :
    codeAny (model X.prog X.w) X.A (.compLoop (.DictComp kx vx [⟨tg, iter, ifs, 0⟩] scope pos) 0 (.ref it) (.ref D) ce) R s4 := by
  have fpo : ∀ {H' : Hp} {s' : Shared}, L2.Inv (X.blk s3 H3 scope ce fp) [] (wipe σ vs) H' s' → (∀ b ∈ fp, H' b = none) → ∀ b ∈ fp, FpOk (X.blk s3 H3 scope ce fp) [] H' b := fun {H' s'} I' hn b hb =>
    ⟨hn b hb, (I'.ok.exf b hb).1, I'.ok.exfs b hb, .inl hb, fun x c e => (I'.ok.exf b hb).2 x c e, fun p hp => absurd (show p ∈ ([] : List (Addr × Obj)) ++ [] from hp) (by simp)⟩
  refine compLoop_anyD (fun n s' => ∃ i H', L2.Inv (X.blk s3 H3 scope ce fp) [] (wipe σ vs) H' s' ∧ tn i s'.heap ∧ (∀ b ∈ fp, H' b = none) ∧ W i n H') ?_ m0 ⟨0, H4, I0, st0, n0, w0⟩
  rintro n sa ⟨i, Ha, Ia, sta, na, wa⟩
  rcases turn i n Ha wa with ⟨stop, q⟩ | ⟨go, Nx, hNx, step⟩
  · refine thnF (T.done (X.blk s3 H3 scope ce fp) rfl rfl rfl hc i [] sa _ Ha (fun _ _ => False) Ia (fpo Ia na) sta stop) fun r sb ⟨hr, Ib⟩ => ?_
    subst hr
    exact fin sb Ha Ib q
  refine thnF (T.item (X.blk s3 H3 scope ce fp) rfl rfl rfl hc i [] sa _ Ha (fun _ _ => False) Ia (fpo Ia na) sta go) fun r sb ⟨u, hr, hb⟩ => ?_
  subst hr
  refine thnF hb fun _ sc ⟨x, Hc, Ic, rc, yc, stc, nc⟩ => ?_
  refine thnF (pg.run _ sc _ Hc x u _ (Ic.pinned (fpo Ic nc) (T.obj _ _ stc)) rc (step x Hc yc)) fun _ sd ⟨σd, Hd, Id, wd, qd⟩ => ?_
  refine thnF (pt.run _ sd σd Hd _ Id qd) fun b se ⟨He, Ie, qe⟩ => ?_
  have again : ∀ s' H', L2.Inv (X.blk s3 H3 scope ce fp) ([] ++ pinsAt fp sc.heap) σd H' s' → Nx H' → ∃ m, m < n ∧ ∃ i H', L2.Inv (X.blk s3 H3 scope ce fp) [] (wipe σ vs) H' s' ∧ tn i s'.heap ∧ (∀ b ∈ fp, H' b = none) ∧ W i m H' := fun s' H' I' nx => by
    obtain ⟨m', hm, w'⟩ := hNx H' nx
    have kept : ∀ b ∈ fp, ∀ o, sc.heap.get? b = some o → s'.heap.get? b = some o ∧ H' b = none := fun b hb o e => by
      have z := I'.pin (b, o) (List.mem_append_right _ (List.mem_append_right _ (mem_pinsAt hb e)))
      exact ⟨z.1, z.2.1⟩
    have len : (wipe σ vs).length = σd.length := by rw [← wd, wipe_length]
    refine ⟨m', hm, i + 1, H', (I'.unpinned (pins := [])).weak len (fun j v e => ?_), T.keep _ _ _ stc fun b hb o e => (kept b hb o e).1, fun b hb => ?_, w'⟩
    · rw [← wd] at e
      exact (wipe_some e).1
    · obtain ⟨o, e, _⟩ := T.obj _ _ stc b hb
      exact (kept b hb o e).2
  cases b with
  | false => exact again se He Ie (by simpa using qe)
  | true =>
    rw [if_pos rfl] at qe ⊢
    refine thnF (pk.run _ se σd He _ Ie qe) fun kv sf ⟨yk, Hf, If, rf, qf⟩ => ?_
    refine thnF (pv.run _ sf σd Hf _ If qf) fun vv sg ⟨yv, Hg, Ig, rg, H6, pu, nx⟩ => ?_
    exact put_comp (X := X.blk s3 H3 scope ce fp) hu Ig pu rf rg fun sh Ih => again sh H6 Ih nx
/-- the comprehension, whatever is done with the dict -/
theorem dcT_core {pins : List (Addr × Obj)} {s : Shared} {σ : L2.St} {H : Hp} {Q : VK} {pos pos' : Pos} {use : Option (Value → Sem Unit)} {Qf : Value → Shared → Prop} (hu : X.A.units < cLine) (hc : X.calm = true) (hN : X.N.Nodup) (I : L2.Inv X pins σ H s) (hi : PI X tg iter wi) (ok : BlkOk X.N X.env.scope scope own)
    (hg : ∀ (s : Shared) (H : Hp) (C : Addr) (cl : List (Str × Addr)) (fp : List Addr), PG (X.blk s H scope (compEnvC scope cl C X.env) fp) tg g)
    (ht : ∀ (s : Shared) (H : Hp) (C : Addr) (cl : List (Str × Addr)) (fp : List Addr), PTs (X.blk s H scope (compEnvC scope cl C X.env) fp) ifs tt)
    (hk : ∀ (s : Shared) (H : Hp) (C : Addr) (cl : List (Str × Addr)) (fp : List Addr), PE (X.blk s H scope (compEnvC scope cl C X.env) fp) kx tk)
    (he : ∀ (s : Shared) (H : Hp) (C : Addr) (cl : List (Str × Addr)) (fp : List Addr), PE (X.blk s H scope (compEnvC scope cl C X.env) fp) vx tv)
    (hs : ∀ x, foldedSetIterable iter X.env x = pure x) (h : tDcT wi g tt tk tv (own.map (·.2)) σ H Q)
    (hend : ∀ D C s' m H', L2.Inv X pins σ H' s' → Q (.ref D) H' → s'.heap.Ns C m → FpOk X pins H' C → compPost (model X.prog X.w) X.A X.xe use Qf (.ref D) C (.ok .next) s') :
    wpAny (model X.prog X.w) X.A (comprehension (.DictComp kx vx [⟨tg, iter, ifs, 0⟩] scope pos) scope X.env pos' newDict false (eval iter X.env) use) Qf X.xe s := by
  have hfree : ∀ y ∈ scope.names, y.2 = .free → ∃ c, X.env.cells.lookup y.1 = some c := fun y hy e => by
    rcases ok.free y hy e with k | k
    · exact I.ok.has _ (.inl k)
    · exact I.ok.has _ (.inr k)
  refine wpAny_comprehension_free (use := use) rfl hs (closure_ok hfree) ok.kind (fun y hy e => by rw [ok.uniq y hy, e]) (thn (hi.run pins s σ H _ I h) fun xv s1 hx => thn hx fun itv s2 h2 => ?_)
  obtain ⟨it, fp, tn, J, H2, e, I2, T, st2, f2, q⟩ := h2
  subst e
  refine wpAny_newObj_type (newEnv_comp ?_)
  obtain ⟨D, hD⟩ : ∃ D, s2.heap.objs.size = D := ⟨_, rfl⟩
  rw [hD]
  obtain ⟨W, ⟨m0, w0⟩, turn⟩ := q D (I2.hok.fresh (Nat.le_of_eq hD))
  obtain ⟨s3, hs3⟩ : ∃ s3 : Shared, ({ s2 with heap := s2.heap.push { cls := .type "dict", data := .dict #[] } } : Shared) = s3 := ⟨_, rfl⟩
  obtain ⟨H3, hH3⟩ : ∃ H3, L2.upd H2 D (.dT []) = H3 := ⟨_, rfl⟩
  rw [hH3] at w0
  have push : s3.heap = s2.heap.push { cls := .type "dict", data := .dict #[] } := by rw [← hs3]
  have old : ∀ b o, s2.heap.get? b = some o → s3.heap.get? b = some o := fun b o e => by rw [push]; exact Heap.get?_push_of_some _ e
  have I3 : L2.Inv X pins σ H3 s3 := by
    rw [← hH3, ← hs3]
    refine I2.laid (t' := s2.toks) (fun b o e => Heap.get?_push_of_some _ e) (Nat.le_of_eq hD) ?_
    rw [← hD]
    exact dt_empty s2.heap I2.big
  have f3 : ∀ b ∈ fp, FpOk X pins H3 b ∧ b < s3.heap.objs.size := fun b hb => by
    obtain ⟨o, e, _⟩ := T.obj _ _ st2 b hb
    have lt : b < s2.heap.objs.size := Heap.lt_size e
    refine ⟨⟨?_, (f2 b hb).2⟩, by rw [push, Heap.size_push]; exact Nat.lt_succ_of_lt lt⟩
    rw [← hH3, upd_ne (by rw [← hD]; exact Nat.ne_of_lt lt)]
    exact (f2 b hb).1
  have st3 : tn 0 s3.heap := T.keep _ _ _ st2 fun b _ o e => old b o e
  have I4 := block_start I3 ok hN f3
  have pg := hg s3 H3 s3.heap.objs.size (cellsFrom (s3.heap.objs.size + 1) scope.names (cloFrom X.env.cells scope.names [])) fp
  have pt := ht s3 H3 s3.heap.objs.size (cellsFrom (s3.heap.objs.size + 1) scope.names (cloFrom X.env.cells scope.names [])) fp
  have pk := hk s3 H3 s3.heap.objs.size (cellsFrom (s3.heap.objs.size + 1) scope.names (cloFrom X.env.cells scope.names [])) fp
  have pv := he s3 H3 s3.heap.objs.size (cellsFrom (s3.heap.objs.size + 1) scope.names (cloFrom X.env.cells scope.names [])) fp
  rw [hs3]
  show codeAny _ _ (.compStart (.DictComp kx vx [⟨tg, iter, ifs, 0⟩] scope pos) 0 (.ref it) (.ref D) (compEnvC scope (cellsFrom (s3.heap.objs.size + 1) scope.names (cloFrom X.env.cells scope.names [])) s3.heap.objs.size X.env)) (compPost (model X.prog X.w) X.A X.xe use Qf (.ref D) s3.heap.objs.size) { s3 with heap := pushCells (s3.heap.push { cls := .type "dict", data := .dict #[] }) scope.names }
  have cL : (compEnvC scope (cellsFrom (s3.heap.objs.size + 1) scope.names (cloFrom X.env.cells scope.names [])) s3.heap.objs.size X.env).locals = s3.heap.objs.size := rfl
  generalize compEnvC scope (cellsFrom (s3.heap.objs.size + 1) scope.names (cloFrom X.env.cells scope.names [])) s3.heap.objs.size X.env = ce at I4 pg pt pk pv cL ⊢
  obtain ⟨s4, hs4⟩ : ∃ s4 : Shared, ({ s3 with heap := pushCells (s3.heap.push { cls := .type "dict", data := .dict #[] }) scope.names } : Shared) = s4 := ⟨_, rfl⟩
  rw [hs4] at I4
  have st4 : tn 0 s4.heap := T.keep _ _ _ st3 fun b _ o e => by rw [← hs4]; exact pushCells_keeps _ _ _ _ (Heap.get?_push_of_some _ e)
  rw [hs4]
  have loop := dcT_loop (X := X) (kx := kx) (vx := vx) (iter := iter) (pos := pos) (R := compPost (model X.prog X.w) X.A X.xe use Qf (.ref D) s3.heap.objs.size) hu hc T pg pt pk pv I4 st4 (fun b hb => (f3 b hb).1.1) w0 turn fun s' H' I' q' => by
    have I5 : L2.Inv X pins σ H' s' := I3.call' (ch := fp) I'.os I'.base I'.hok I'.bare fun b hb => ⟨(f3 b hb).1.2.2.2.1, (f3 b hb).1.2.1, (f3 b hb).1.2.2.2.2.1, (f3 b hb).1.2.2.2.2.2⟩
    have nC : H' s3.heap.objs.size = none := by
      have z : H' ce.locals = none := I'.free
      rw [cL] at z
      exact z
    obtain ⟨m, hn, _⟩ := I'.loc
    have hn : s'.heap.Ns ce.locals m := hn
    rw [cL] at hn
    exact hend D s3.heap.objs.size s' m H' I5 q' hn (I3.fpOk (Nat.le_refl _) nC)
  exact codeAny_compStart_dict loop (T.self X.A 0 _ _ _ st4 loop)
/-- as a value -/
theorem pe_dcT {pos : Pos} (hu : X.A.units < cLine) (hc : X.calm = true) (hN : X.N.Nodup) (hi : PI X tg iter wi) (ok : BlkOk X.N X.env.scope scope own)
    (hg : ∀ (s : Shared) (H : Hp) (C : Addr) (cl : List (Str × Addr)) (fp : List Addr), PG (X.blk s H scope (compEnvC scope cl C X.env) fp) tg g)
    (ht : ∀ (s : Shared) (H : Hp) (C : Addr) (cl : List (Str × Addr)) (fp : List Addr), PTs (X.blk s H scope (compEnvC scope cl C X.env) fp) ifs tt)
    (hk : ∀ (s : Shared) (H : Hp) (C : Addr) (cl : List (Str × Addr)) (fp : List Addr), PE (X.blk s H scope (compEnvC scope cl C X.env) fp) kx tk)
    (he : ∀ (s : Shared) (H : Hp) (C : Addr) (cl : List (Str × Addr)) (fp : List Addr), PE (X.blk s H scope (compEnvC scope cl C X.env) fp) vx tv)
    (hs : ∀ x, foldedSetIterable iter X.env x = pure x := by intro _; rfl) :
    PE X (.DictComp kx vx [⟨tg, iter, ifs, 0⟩] scope pos) (tDcT wi g tt tk tv (own.map (·.2))) := by
  refine ⟨fun pins s σ H Q I h => ?_⟩
  rw [arm_eval_DictComp]
  refine dcT_core hu hc hN I hi ok hg ht hk he hs h fun D C s' m H' I' q' hn f => ⟨m, hn, fun h'' sb => ?_⟩
  obtain ⟨f0, f1, f2, f3, f4, f5⟩ := f
  exact ⟨.ref D, H', I'.turned (t' := s'.toks) (fun b o hb e => (sb.2 b hb).trans e) f0 f1 f3 f4 f5, rfl, q'⟩
/-- name = {..}, the name a local: the store is the comprehension's own last act -/
theorem ps_setDcT {i : Nat} {y : Str} {py pos spos : Pos} (hu : X.A.units < cLine) (hc : X.calm = true) (hN : X.N.Nodup) (hy : X.N[i]? = some y) (hyl : X.env.scope.names.lookup y = some .local)
    (hsw : swapsWith (.DictComp kx vx [⟨tg, iter, ifs, 0⟩] scope pos) (some (.Name y py)) spos.line X.env = pure true) (hi : PI X tg iter wi) (ok : BlkOk X.N X.env.scope scope own)
    (hg : ∀ (s : Shared) (H : Hp) (C : Addr) (cl : List (Str × Addr)) (fp : List Addr), PG (X.blk s H scope (compEnvC scope cl C X.env) fp) tg g)
    (ht : ∀ (s : Shared) (H : Hp) (C : Addr) (cl : List (Str × Addr)) (fp : List Addr), PTs (X.blk s H scope (compEnvC scope cl C X.env) fp) ifs tt)
    (hk : ∀ (s : Shared) (H : Hp) (C : Addr) (cl : List (Str × Addr)) (fp : List Addr), PE (X.blk s H scope (compEnvC scope cl C X.env) fp) kx tk)
    (he : ∀ (s : Shared) (H : Hp) (C : Addr) (cl : List (Str × Addr)) (fp : List Addr), PE (X.blk s H scope (compEnvC scope cl C X.env) fp) vx tv)
    (hs : ∀ x, foldedSetIterable iter X.env x = pure x := by intro _; rfl) :
    PS X (.Assign [.Name y py] (.DictComp kx vx [⟨tg, iter, ifs, 0⟩] scope pos) spos) (tAsg (tDcT wi g tt tk tv (own.map (·.2))) (gName i)) := by
  refine ⟨fun pins s σ H D I h => ?_⟩
  rw [exec_Assign_Name_used _ _ _ _ hsw]
  refine wpAny_bind (wpAny_standAt (wpAny_bind ?_))
  show wpAny _ X.A (do let _ ← comprehension (.DictComp kx vx [⟨tg, iter, ifs, 0⟩] scope pos) scope X.env (firstIterPos [⟨tg, iter, ifs, 0⟩] pos) newDict false (eval iter X.env) (some (assign (.Name y py) X.env))) _ _ s
  have h : tDcT wi g tt tk tv (own.map (·.2)) σ H (fun x H1 => gName i x σ H1 D.nx) := h
  refine wpAny_bind (thn (dcT_core (Qf := fun _ s' => SP X pins D .next s') hu hc hN I hi ok hg ht hk he hs h fun L C s' m H' I' q hn f => ?_) fun _ s' hq => wpAny_pure (wpAny_pure hq))
  show wpAny _ _ (assign (.Name y py) X.env (.ref L)) _ _ _
  obtain ⟨f0, f1, f2, f3, f4, f5⟩ := f
  refine wpAny_assign_Name (store_ok2 (v := V.ref L) I' hN hy (.inl hyl) rfl (fun s2 I2 ⟨a, sb, ha⟩ => ⟨m, hn.sameBut sb fun e => ?_, fun h3 sb3 => ⟨_, H', I2.turned (t' := s2.toks) (fun b o hb e => (sb3.2 b hb).trans e) f0 f1 f3 f4 f5, q⟩⟩) (.inr hyl))
  rcases ha with z | z
  · exact f1 (e.trans z)
  · exact f4 y a z e.symm
theorem sw_trueD {gs : List Comprehension} {pos py : Pos} {y : Str} {l : Nat} {env : Env} (hk : env.scope.kind = .function) (hy : env.scope.names.lookup y = some .local) (hl : (py.line == pos.line) = true)
    (ha : (scope.names.any fun (n, k) => n == y && (k == .local || k == .cell)) = false) : swapsWith (.DictComp kx vx gs scope pos) (some (.Name y py)) l env = pure true := by
  have b : env.blockKind = .function := by unfold Env.blockKind; rw [hk]; rfl
  have k : env.kindOf y = some .local := hy
  unfold swapsWith
  simp only [b, k, ha, Expr.pos, hl]
  rfl
end
/-! ### any, all over a dict's keys -/
theorem sm_unlock {H H' : Hp} {d : Addr} {u : HO} [NT u] {od : Obj} (hd : H d = some u) (s : Sm (L2.upd H d (.frz od u)) H') : Sm H (L2.upd H' d u) := by
  refine ⟨fun b o _ h => ?_, fun b h => ?_, fun b h => ?_⟩
  · by_cases c : b = d
    · subst c
      rw [hd] at h
      rw [upd_same, h]
    · rw [upd_ne c]
      exact s b o (by rw [upd_ne c]; exact h)
  · have c := tabG_nt hd h
    exact tabG_upd c (s.tb b (tabG_upd c h))
  · have r := fr_upd h
    exact (fr_upd (s.fr b r.2)).2
section
variable {σ : L2.St} {vs : List Nat} {H : Hp} {Q : VK} {g : TG} {te : TE} {P : Addr}
theorem w_gxK {b0 : Bool} {n : Nat} {d : Addr} {kvs : List (List Key × V)} (tr : List Key × V → Bool) (hv : σ[n]? = some (some (.ref d))) (hd : H d = some (.dT kvs)) (ht : GxR.TabG H P)
    (he : ∀ (od : Obj) (i : Nat) (k : List Key) (v : V) (q : Addr) (H' : Hp), kvs[i]? = some (k, v) → Sm (L2.upd H d (.frz od (.dT kvs))) H' → H' q = some (.tup (k.map kV)) → ∀ R : VK, (∀ H2, Sm H' H2 → R (.bl (tr (k, v))) H2) → g (.ref q) (wipe σ vs) H' fun σ2 H2 => wipe σ2 vs = wipe σ vs ∧ te σ2 H2 R)
    (k : ∀ H', Sm H H' → Q (.bl (if b0 then kvs.all tr else kvs.any tr)) H') : tLockE (tGx b0 P (iKeys (tVar n)) g te vs) σ H Q := by
  refine ⟨d, _, hd, True.intro, fun od => ?_⟩
  refine ⟨_, hv, d, od, rfl, .inr ⟨kvs, upd_same, ?_⟩⟩
  have pd := tabG_nt hd ht
  have htf : GxR.TabG (L2.upd H d (.frz od (.dT kvs))) P := tabG_upd pd ht
  refine ⟨htf, fun H2 hT => ?_⟩
  have s0 := Sm.tabbed htf hT
  refine ⟨fun i m H' => m = kvs.length - i ∧ i ≤ kvs.length ∧ Sm (L2.upd H d (.frz od (.dT kvs))) H' ∧ ∀ x ∈ kvs.take i, tr x = b0, ⟨_, rfl, Nat.zero_le _, s0, fun x hx => by simp at hx⟩, ?_⟩
  rintro i m H' ⟨rfl, hi, s1, ha⟩
  have at1 := s1 d _ upd_same
  by_cases hlt : i < kvs.length
  · refine .inr ⟨⟨at1, hlt⟩, fun x H3 y => ?_⟩
    obtain ⟨rfl, kk, v, q, hx, rfl, hq⟩ := y
    refine he od i kk v q _ hx s1 hq _ fun H4 s2 => ⟨tr (kk, v), rfl, fun hb => ⟨_, ?_, rfl, hlt, s1.trans s2, fun z hz => ?_⟩, fun hb => ?_⟩
    · omega
    · rw [List.take_add_one, hx] at hz
      rcases List.mem_append.mp hz with hz | hz
      · exact ha z hz
      · rw [show z = (kk, v) by simpa using hz]; exact hb
    · have hm := List.mem_of_getElem? hx
      have e : (if b0 then kvs.all tr else kvs.any tr) = !b0 := by
        cases b0 with
        | true =>
          rw [if_pos rfl, Bool.not_true, List.all_eq_false]
          exact ⟨_, hm, by rw [hb]; simp⟩
        | false =>
          rw [if_neg Bool.false_ne_true, Bool.not_false, List.any_eq_true]
          exact ⟨_, hm, hb⟩
      have s12 := s1.trans s2
      have := k _ (sm_unlock hd s12)
      rw [e] at this
      exact ⟨s12 d _ upd_same, this⟩
  · have e : i = kvs.length := by omega
    subst e
    refine .inl ⟨⟨at1, Nat.le_refl _⟩, ?_⟩
    rw [List.take_length] at ha
    have e : (if b0 then kvs.all tr else kvs.any tr) = b0 := by
      cases b0 with
      | true =>
        rw [if_pos rfl, List.all_eq_true]
        exact ha
      | false =>
        rw [if_neg Bool.false_ne_true, List.any_eq_false]
        intro x hx
        rw [ha x hx]; simp
    have := k _ (sm_unlock hd s1)
    rw [e] at this
    exact ⟨at1, this⟩
end
/-! ### a dict comprehension over a range, its keys all different -/
def DcB (J : It) (g : TG) (tt : TT) (tk tv : TE) (vs : List Nat) (σ : L2.St) (H1 : Hp) (Q : VK) : Prop := ∀ D, H1 D = none → ∃ W : Nat → Nat → Hp → Prop, (∃ m, W 0 m (L2.upd H1 D (.dT []))) ∧ ∀ i m H, W i m H →
  (J.stop i H ∧ Q (.ref D) H) ∨ (J.go i H ∧ ∃ Nx : Hp → Prop, (∀ H', Nx H' → ∃ m', m' < m ∧ W (i + 1) m' H') ∧ ∀ x H', J.yld i H x H' → g x (wipe σ vs) H' fun σ2 H2 => wipe σ2 vs = wipe σ vs ∧ tt σ2 H2 fun b H3 =>
    if b = true then tk σ2 H3 fun y H4 => tv σ2 H4 fun z H5 => ∃ H6, DPut H5 D y z H6 ∧ Nx H6 else Nx H3)
theorem valV_none {kvs : List (List Key × V)} {k : List Key} (h : ∀ p ∈ kvs, p.1 ≠ k) : valV kvs k = none := by
  induction kvs with
  | nil => rfl
  | cons p r ih =>
    rw [valV_neg (h p (List.mem_cons_self ..))]
    exact ih fun q hq => h q (List.mem_cons_of_mem _ hq)
section
variable {σ : L2.St} {vs : List Nat} {H : Hp} {Q : VK} {tk tv : TE} {j : Nat}
theorem w_dc2 {g : TG} {tt : TT} {ta tb : TE} (k : ta σ H fun x H1 => tb σ H1 fun y H2 => ∃ i n : Int, [x, y] = [V.int i, V.int n] ∧ (-(2 ^ 62) ≤ i ∧ i < 2 ^ 62 ∧ -(2 ^ 62) ≤ n ∧ n < 2 ^ 62) ∧ DcB (Itr i (n - i).toNat) g tt tk tv vs σ H2 Q) : tDcT (iRng2 (tCons ta (tCons tb tNil))) g tt tk tv vs σ H Q := k
theorem w_dcr2 {l n : Int} (f : Nat → List Key × V) (h1 : -(2 ^ 62) ≤ l) (h2 : l < 2 ^ 62) (h3 : -(2 ^ 62) ≤ n) (h4 : n < 2 ^ 62) (hz : (n - l).toNat ≤ 1000000) (hw : ∀ x, wipe ((wipe σ vs).set j (some x)) vs = wipe σ vs)
    (hnd : ∀ i k, i < k → (f i).1 ≠ (f k).1)
    (he : ∀ (i : Nat) H', i < (n - l).toNat → Sm H H' → ∀ R : V → V → Hp → Prop, (∀ q H2, Sm H' H2 → H2 q = some (.tup ((f i).1.map kV)) → R (.ref q) (f i).2 H2) → tk ((wipe σ vs).set j (some (.int (l + (i : Int))))) H' fun y H4 => tv ((wipe σ vs).set j (some (.int (l + (i : Int))))) H4 fun z H5 => R y z H5)
    (k : ∀ D H', Sm H H' → H D = none → H' D = some (.dT ((List.range (n - l).toNat).map f)) → Q (.ref D) H') :
    ∃ i m : Int, [V.int l, V.int n] = [.int i, .int m] ∧ (-(2 ^ 62) ≤ i ∧ i < 2 ^ 62 ∧ -(2 ^ 62) ≤ m ∧ m < 2 ^ 62) ∧ DcB (Itr i (m - i).toNat) (gName j) tYes tk tv vs σ H Q := by
  refine ⟨l, n, rfl, ⟨h1, h2, h3, h4⟩, fun D hD => ?_⟩
  generalize (n - l).toNat = N at *
  refine ⟨fun i m H' => m = N - i ∧ i ≤ N ∧ Sm H H' ∧ H' D = some (.dT ((List.range i).map f)), ⟨N, rfl, Nat.zero_le _, same_upd hD, upd_same⟩, ?_⟩
  rintro i m H' ⟨rfl, hi, s1, hx⟩
  by_cases hlt : i < N
  · refine .inr ⟨hlt, fun H6 => Sm H H6 ∧ H6 D = some (.dT ((List.range (i + 1)).map f)), fun H6 h6 => ⟨_, ?_, rfl, hlt, h6.1, h6.2⟩, fun x H3 y => ?_⟩
    · omega
    · obtain ⟨e, y⟩ := y
      subst e y
      show wipe ((wipe σ vs).set j (some (.int (l + (i : Int))))) vs = wipe σ vs ∧ tk ((wipe σ vs).set j (some (.int (l + (i : Int))))) H3 _
      refine ⟨hw _, he i H3 hlt s1 _ fun q H5 s2 hq => ⟨_, DPut.t (s2 _ _ hx) hq ?_, sm_upd (s1.trans s2) hD, ?_⟩⟩
      · rw [List.length_map, List.length_range]
        exact Nat.lt_of_lt_of_le (show i < 1000000 by omega) (by decide)
      · rw [upd_same, putK_new _ (valV_none fun p hp => ?_), List.range_succ, List.map_append]
        · rfl
        · obtain ⟨a, ha, rfl⟩ := List.mem_map.mp hp
          exact hnd a i (List.mem_range.mp ha)
  · have e : i = N := by omega
    subst e
    exact .inl ⟨Nat.le_refl _, k D H' s1 hD hx⟩
end
/-! ### steps -/
section
variable {σ : L2.St} {H : Hp} {Q : VK} {D : Ends} {n m : Nat} {a t : Addr}
theorem dget_rd {kvs : List (List Key × V)} {k : List Key} (e : Rd H a (.dT kvs)) (eb : H t = some (.tup (k.map kV))) : DGet H a (.ref t) (valV kvs k) := .inr ⟨kvs, k, t, e, rfl, eb, rfl⟩
theorem w_dIn {o : Option V} (hy : σ[n]? = some (some (.ref t))) (hx : σ[m]? = some (some (.ref a))) (g : DGet H a (.ref t) o) (k : Q (.bl o.isSome) H) : tDIn (tVar n) (tVar m) σ H Q := ⟨_, hy, _, hx, a, o, rfl, g, k⟩
theorem w_dNotIn {o : Option V} (hy : σ[n]? = some (some (.ref t))) (hx : σ[m]? = some (some (.ref a))) (g : DGet H a (.ref t) o) (k : Q (.bl (!o.isSome)) H) : tDNotIn (tVar n) (tVar m) σ H Q := ⟨_, hy, _, hx, a, o, rfl, g, k⟩
theorem w_dGet {v : V} (hx : σ[m]? = some (some (.ref a))) (hy : σ[n]? = some (some (.ref t))) (g : DGet H a (.ref t) (some v)) (k : Q v H) : tDGet (tVar m) (tVar n) σ H Q := ⟨_, hx, _, hy, a, v, rfl, g, k⟩
theorem w_dput {td ty tv : TE} (k : tv σ H fun v H1 => td σ H1 fun x H2 => ty σ H2 fun y H3 => ∃ a H4, x = .ref a ∧ DPut H3 a y v H4 ∧ D.nx σ H4) : sDPut td ty tv D σ H := k
theorem rd_lock {b : Addr} {u v : HO} {od : Obj} {H1 : Hp} [NT u] [NT v] (ha : H a = some u) (hb : H b = some v) (s : Sm (L2.upd H b (.frz od v)) H1) : Rd H1 a u := by
  by_cases c : a = b
  · subst c
    rw [ha] at hb
    cases hb
    exact .inr ⟨od, s _ _ upd_same⟩
  · exact .inl (s _ _ (by rw [upd_ne c]; exact ha))
end
def IntD (kvs : List (List Key × V)) : Prop := ∀ p ∈ kvs, ∃ i, p.2 = V.int i
theorem IntD.val {kvs : List (List Key × V)} (h : IntD kvs) {k : List Key} {v : V} (e : valV kvs k = some v) : ∃ i, v = V.int i := by
  unfold valV at e
  obtain ⟨p, hp, rfl⟩ := Option.map_eq_some_iff.mp e
  exact h p (List.mem_of_find?_eq_some hp)
theorem valV_mem {kvs : List (List Key × V)} {k : List Key} {v : V} {i : Nat} (hnd : (kvs.map (·.1)).Nodup) (h : kvs[i]? = some (k, v)) : valV kvs k = some v := by
  induction kvs generalizing i with
  | nil => simp at h
  | cons p r ih =>
    rw [List.map_cons, List.nodup_cons] at hnd
    cases i with
    | zero =>
      have e : p = (k, v) := by simpa using h
      rw [valV_pos (by rw [e]), e]
    | succ i =>
      rw [List.getElem?_cons_succ] at h
      rw [valV_neg fun e => hnd.1 (by rw [e]; exact List.mem_map.mpr ⟨_, List.mem_of_getElem? h, rfl⟩)]
      exact ih hnd.2 h
section
variable {K : PySem.W.Frag} {H : Hp} {Q : VK} {a : Addr}
theorem Sm.seqT {K : PySem.W.Frag} {H H' : Hp} {a : Addr} {xs : List V} (e : Sm H H') (h : SqT K H a xs) : SqT K H' a xs := by
  rcases h with (h | ⟨o, h⟩) | h
  · exact .inl (.inl (e _ _ h))
  · exact .inl (.inr ⟨o, e _ _ h⟩)
  · exact .inr h
theorem w_isi_tt {xs : List V} (ha : H a = some (.tup xs)) (k : Q (.bl true) H) : rIsi K [.ref a, .ty "tuple"] H Q := ⟨_, _, _, _, true, rfl, .ty _, .base (.tup ha), kit_ty (by decide +kernel), k⟩
theorem w_isi_ss {x : Str} (k : Q (.bl true) H) : rIsi K [.str x, .ty "str"] H Q := ⟨_, _, _, _, true, rfl, .ty _, .base (.str x), kit_ty (by decide +kernel), k⟩
theorem w_ninW {x y z : Str} (h : SqT K H a [.str y, .str z]) (hx : x = y ∨ x = z) (k : Q (.bl false) H) : rIn K true (.str x) (.ref a) H Q := by
  refine ⟨a, [.str y, .str z], rfl, .inr h, rfl, rfl, ?_⟩
  have e : inV (.str x) [.str y, .str z] = true := by
    rcases hx with rfl | rfl <;> simp [inV, eqV]
  show Q (.bl (!inV (.str x) [.str y, .str z])) H
  rw [e]
  exact k
end
section
variable {K : PySem.W.Frag} {σ : L2.St} {H : Hp} {D : Ends} {tb : TS} {g : TG} {a : Addr} {xs : List V}
theorem w_tupL (hx : SqT K H a xs) (Pv : Nat → L2.St → Hp → Prop) (h0 : Pv 0 σ H) (hl : ∀ i σ' H', i ≤ xs.length → Pv i σ' H' → SqT K H' a xs)
    (hs : ∀ i x σ' H', xs[i]? = some x → Pv i σ' H' → g x σ' H' fun σ2 H2 => tb { D with nx := Pv (i + 1), ct := Pv (i + 1), bk := D.nx } σ2 H2) (hd : ∀ σ' H', Pv xs.length σ' H' → D.nx σ' H') :
    ∃ b, V.ref a = .ref b ∧ (∃ xs, SqT K H b xs) ∧ Loop (Itt K b) g tb D σ H := ⟨a, rfl, ⟨xs, hx⟩, for_tup Pv h0 hl hs hd⟩
end
theorem hu_of0 {A : Around} {k : Nat} (hr : Room k A) : A.units < cLine := Nat.lt_of_le_of_lt (Nat.le_add_right _ 64) hr.units
end SC

set_option Elab.async false
set_option linter.all false
set_option maxRecDepth 100000
set_option maxHeartbeats 4000000
/-! enumerate(xs, start=k) walked by a loop. -/
namespace SC
open PySem PySem.Spec PyProof.Rows L2
/-- the list at a as it stands at each turn, each item in a new pair, counted from k -/
def Itf (K : PySem.W.Frag) (k : Int) (a : Addr) : It :=
  ⟨(Ite K a).go, fun i H v H' => ∃ T x, v = .ref T ∧ H T = none ∧ H' = L2.upd H T (.tup [.int (k + (i : Int)), x]) ∧ ∀ xs, SqL K H a xs → xs[i]? = some x, (Ite K a).stop⟩
/-- the state of such an enumerate object e, its list iterator it -/
def EnAt (k : Int) (a e it : Addr) (i : Nat) (h : Heap) : Prop := (∃ old, IsEnum h e it (k + (i : Int)) old) ∧ h.IsListIter it a i ∧ e ≠ it
theorem turn_enumF {P : Program} {w : World} {K : PySem.W.Frag} {elts : List Expr} {kk : Nat} {tpos : Pos} (k : Int) (a e it : Addr) :
    Turn P w K (.Tuple elts kk tpos) (Itf K k a) [e, it] e (EnAt k a e it) where
  mem := List.mem_cons_self ..
  obj := by
    rintro i h ⟨⟨old, he⟩, ⟨o, ho, hc, hd⟩, _⟩ b hb
    rcases List.mem_cons.mp hb with rfl | hb
    · exact ⟨_, he, fun v q => nomatch q⟩
    · rw [List.mem_singleton.mp hb]
      exact ⟨o, ho, fun v q => by rw [hd] at q; cases q⟩
  keep := by
    rintro i h h' ⟨⟨old, he⟩, hi, hne⟩ kp
    exact ⟨⟨old, kp e (by simp) _ he⟩, hi.at fun o q => kp it (by simp) o q, hne⟩
  item := by
    rintro X rfl rfl rfl hc i pins s σ H E I hf ⟨⟨old, he⟩, hit, hne⟩ ⟨xs, x, hq, hx⟩
    obtain ⟨its, rv, p, hz⟩ := I.list hq
    obtain ⟨u, hu, ru⟩ := rv.get hx
    have lt1 : e < s.heap.objs.size := Heap.lt_size he
    have lt2 : it < s.heap.objs.size := by obtain ⟨_, q, _⟩ := hit; exact Heap.lt_size q
    have ai : a ≠ it := fun z => by
      obtain ⟨o, ho, _, hd⟩ := hit
      obtain ⟨o2, n, ho2, _, _, hd2⟩ := p
      rw [z, ho] at ho2
      cases ho2
      rw [hd] at hd2
      cases hd2
    have ea : e ≠ a := fun z => by
      obtain ⟨o2, n, ho2, _, _, hd2⟩ := p
      have he' : s.heap.get? e = _ := he
      rw [← z, he'] at ho2
      cases ho2
      cases hd2
    have D := Draws.list (prog := X.prog) (w := X.w) (A := X.A.in1) (I.ok.hd hc) it a ai its.toArray
    have hl : i < its.toArray.size := by
      rw [List.size_toArray]
      exact (List.getElem?_eq_some_iff.mp hu).1
    refine wpAny_pyNext_enum_itemC D he ⟨hit, p.isList⟩ hl hne (by simp [hne, ea]) fun y h' tk hy ho hs' hT hsz hk => ?_
    have ey : y = u := by
      rw [List.getElem?_toArray, hu] at hy
      exact (Option.some.inj hy).symm
    subst ey
    refine ⟨_, rfl, wpAny_letOwnedTupleGo_enum (s := { s with heap := h', toks := tk + 1 }) ho fun h'' he' sb => ?_⟩
    have far : ∀ b, b = e ∨ b = it → b ≠ s.heap.objs.size := fun b hb => by
      rcases hb with rfl | rfl
      · exact Nat.ne_of_lt lt1
      · exact Nat.ne_of_lt lt2
    have tup : h''.get? s.heap.objs.size = some { cls := .type "tuple", data := .seq #[.int (k + (i : Int)) tk, y] } := (sb.2 _ (Ne.symm (far e (.inl rfl)))).trans hT
    have I2 : L2.Inv X pins σ (L2.upd H s.heap.objs.size (.tup [.int (k + (i : Int)), x])) { s with heap := h'', toks := tk + 1 } :=
      I.turnedNew (ch := [e, it]) (fun b ob hb q => (sb.2 b (fun z => hb (by simp [z]))).trans (hk b ob (fun z => hb (by simp [z])) (fun z => hb (by simp [z])) q)) hf (Nat.le_refl _)
        ⟨by show 2 ≤ sizeLine; decide, [.int (k + (i : Int)) tk, y], .cons ⟨_, rfl⟩ (.cons ru .nil), ⟨_, tup, rfl, _, rfl⟩⟩
    refine ⟨.ref s.heap.objs.size, _, I2, rfl, ⟨_, x, rfl, I.hok.fresh (Nat.le_refl _), rfl, fun ys hy => by rw [I.list_inj hy hq]; exact hx⟩, ⟨⟨y, ?_⟩, hs'.1.at fun o q => (sb.2 it (Ne.symm hne)).trans q, hne⟩, fun b hb => ?_⟩
    · rw [show k + ((i + 1 : Nat) : Int) = k + (i : Int) + 1 by omega]
      exact he'
    · rw [upd_ne (far b (by simpa using hb))]
      exact (hf b hb).1
  done := by
    rintro X rfl rfl rfl hc i pins s σ H E I hf ⟨⟨old, he⟩, hit, hne⟩ ⟨xs, hq, hx⟩
    obtain ⟨its, rv, p, hz⟩ := I.list hq
    obtain ⟨f0, f1, f2, f3, f4, f5⟩ := hf it (by simp)
    have il := rv.length
    have ai : a ≠ it := fun z => by
      obtain ⟨o, ho, _, hd⟩ := hit
      obtain ⟨o2, n, ho2, _, _, hd2⟩ := p
      rw [z, ho] at ho2
      cases ho2
      rw [hd] at hd2
      cases hd2
    have hT : s.TypeIs (.ref e) "enumerate" := ⟨_, he, rfl⟩
    unfold pyNext
    refine wpAny_bind (wpAny_attempt (wpAny_callSpecial?_slot (name := Str.ofString "__next__") hT PySem.F.slot_enumerate_next
      (wpAny_call_entry PySem.F.slot_enumerate_next hT PySem.F.entry_enumerate_next ?_ (PySem.F.args_enumerate_next_1 _))))
    show wpAny _ _ (field (.ref e) 2 >>= _) _ _ _
    refine wpAny_bind (wpAny_field he rfl (x := .ref it) rfl ?_)
    refine wpAny_bind (wpAny_nextOf_list_end (I.ok.hd hc) hit p.isList (by simp; omega) fun h' x he' hx' => ?_)
    obtain ⟨o, ho, hc'⟩ := hx'
    refine wpAny_bind (wpAny_isInstance (T := "StopIteration") (b := true) ⟨o, ho, hc'⟩ isSubtype_stop ?_)
    exact wpAny_pure ⟨rfl, I.turned (t' := s.toks) (fun b o hb q => he' b o hb q) f0 f1 f3 f4 f5⟩
  self := by
    rintro A i s Q E ⟨⟨_, he⟩, _⟩ h
    exact wpAny_pyIter_enum he h
section
variable {M : Model} {A : Around} {E : Value → Shared → Prop} {s : Shared} {env : Env}
/-- the call of a built-in class with keywords -/
theorem callType_kw {pos : Pos} {T : String} {e : Expr} {rest : List Expr} {kws : List Keyword} {Q : Value → Shared → Prop}
    (h : wpAny M A (spliced (backTo pos (starEach (e :: rest) env))) (fun vs s₁ => wpAny M A (evalAll ((backToKw pos (keywordEach kws env)).map (·.2)))
      (fun kvs s₂ => wpAny M A (call (.type T) vs (((backToKw pos (keywordEach kws env)).filterMap (·.1)).zip kvs)) Q E s₂) E s₁) E s)
    (he : backTo pos (starEach (e :: rest) env) = (false, eval e env) :: backTo pos (starEach rest env)) (hplain : (backTo pos (starEach (e :: rest) env)).any (·.1) = false)
    (hall : (backToKw pos (keywordEach kws env)).all (·.1.isSome) = true) (hkw : (backToKw pos (keywordEach kws env)).any (·.1.isNone) = false) :
    wpAny M A (callWith pos (.type T) [] (backTo pos (starEach (e :: rest) env)) (backToKw pos (keywordEach kws env))) Q E s := by
  have g : wpAny M A (evalArgs (.type T) true (backTo pos (starEach (e :: rest) env)) (backToKw pos (keywordEach kws env))) (fun a s₁ => wpAny M A (call (.type T) ([] ++ a.pos) a.kw) Q E s₁) E s := by
    rw [he] at h ⊢
    exact evalArgs_kwB hall h
  unfold callWith
  refine wpAny_bind (wpAny_holding (wpAny_mono g (fun a s1 h1 => wpAny_bind (wpAny_standAt ?_)) fun _ _ x => x))
  simp only [hplain, hkw, Bool.or_false]
  refine wpAny_bind (wpAny_pure ?_)
  exact wpAny_bind (wpAny_mono h1 (fun r s2 hr => wpAny_bind (wpAny_holding (wpAny_point (wpAny_pure hr)))) fun _ _ x => x)
end
def iEnumF (K : PySem.W.Frag) (k : Int) (ta : TA) : TI := fun σ H R => ta σ H fun vs H1 => ∃ a xs, vs = [V.ref a] ∧ SqL K H1 a xs ∧ R (Itf K k a) H1
theorem pi_enumF {X : Cx} {e : Expr} {ta : TA} {p pos tpos cp kp : Pos} {elts : List Expr} {kk kc : Nat} {k : Int} (h0 : -(2 ^ 63) ≤ k) (h1 : k < 2 ^ 63) (hg : Gl X "enumerate") (hm : X.mg "enumerate" = none) (ha : PA X [e] ta)
    (hc : PE X (.Constant (.int k) kc cp) (tC (.int k)) := by exact pe_int) (he : backTo pos (starEach [e] X.env) = (false, eval e X.env) :: backTo pos (starEach [] X.env) := by rfl) (hplain : (backTo pos (starEach [e] X.env)).any (·.1) = false := by rfl) :
    PI X (.Tuple elts kk tpos) (.Call (.Name "enumerate" p) [e] [⟨some "start", .Constant (.int k) kc cp, kp⟩] pos) (iEnumF X.K k ta) := by
  refine ⟨fun pins s σ H R I h => ?_⟩
  refine wpAny_Call_Name_kw (ld_blt I hg hm boot_enumerate (callType_kw (thn (ha.run pos pins s σ H _ I h) fun us s1 ⟨vs, H1, I1, r1, q1⟩ => kws_cons (thn (hc.run pins s1 σ H1 (fun x H' => x = .int k ∧ H' = H1) I1 ⟨rfl, rfl⟩) fun c s2 ⟨x, H2, I2, rx, ex, eH⟩ => kws_nil ?_)) he hplain ?_ ?_))
  · subst ex eH
    obtain ⟨t, rfl⟩ := rx
    obtain ⟨a, xs, ex, hq, q⟩ := q1
    subst ex
    cases r1 with
    | cons r rr =>
      cases rr
      cases r
      obtain ⟨its, rv, pl, hz⟩ := I2.list hq
      refine enum_begins_start (begins_list a its.toArray) pl.isList h0 h1 fun h' he hit hsz hk => wpAny_pyIter_enum he ?_
      have I3 : L2.Inv X pins σ H2 { s2 with heap := h' } := I2.kept (t' := s2.toks) hk
      refine ⟨s2.heap.objs.size + 1, [s2.heap.objs.size + 1, s2.heap.objs.size], _, _, H2, rfl, I3, turn_enumF k a (s2.heap.objs.size + 1) s2.heap.objs.size, ⟨⟨.none, ?_⟩, ?_, Nat.succ_ne_self _⟩, fun b hb => ?_, q⟩
      · rw [show k + ((0 : Nat) : Int) = k by omega]
        exact he
      · exact ⟨_, hit, rfl, rfl⟩
      · have le : s2.heap.objs.size ≤ b := by
          rcases List.mem_cons.mp hb with rfl | hb
          · exact Nat.le_add_right _ _
          · rw [List.mem_singleton.mp hb]
            exact Nat.le_refl _
        exact I2.fpOk le (I2.hok.fresh le)
  all_goals rfl
section
variable {K : PySem.W.Frag} {σ : L2.St} {H : Hp} {D : Ends} {tb : TS} {g : TG} {a : Addr} {xs : List V} {ta : TA} {k : Int}
theorem w_forF (q : ta σ H fun vs H1 => ∃ a xs, vs = [V.ref a] ∧ SqL K H1 a xs ∧ Loop (Itf K k a) g tb D σ H1) : tFor (iEnumF K k ta) g tb D σ H := q
theorem w_enumF (hx : SqL K H a xs) (Pv : Nat → L2.St → Hp → Prop) (h0 : Pv 0 σ H) (hl : ∀ i σ' H', i ≤ xs.length → Pv i σ' H' → SqL K H' a xs)
    (hs : ∀ (i : Nat) x σ' H', xs[i]? = some x → Pv i σ' H' → ∀ T, H' T = none → g (.ref T) σ' (L2.upd H' T (.tup [.int (k + (i : Int)), x])) fun σ2 H2 => tb { D with nx := Pv (i + 1), ct := Pv (i + 1), bk := D.nx } σ2 H2) (hd : ∀ σ' H', Pv xs.length σ' H' → D.nx σ' H') :
    ∃ b ys, [V.ref a] = [V.ref b] ∧ SqL K H b ys ∧ Loop (Itf K k b) g tb D σ H := by
  refine ⟨a, xs, rfl, hx, fun i m σ' H' => m = xs.length - i ∧ i ≤ xs.length ∧ Pv i σ' H', ⟨xs.length, rfl, Nat.zero_le _, h0⟩, ?_⟩
  rintro i m σ' H' ⟨rfl, hi, p⟩
  have q := hl i σ' H' hi p
  by_cases c : i < xs.length
  · refine .inr ⟨⟨xs, xs[i], q, List.getElem?_eq_getElem c⟩, Pv (i + 1), fun σ2 H2 p2 => ⟨xs.length - (i + 1), by omega, rfl, c, p2⟩, fun v H2 y => ?_⟩
    obtain ⟨T, x, rfl, hT, rfl, hat⟩ := y
    exact hs i x σ' H' (hat xs q) p T hT
  · have e : i = xs.length := by omega
    subst e
    exact .inl ⟨⟨xs, q, Nat.le_refl _⟩, hd _ _ p⟩
end
/-! ### star functions whose code has a table -/
section
open StX
variable {P : Program} {w : World} {K : PySem.W.Frag} {mg : Str → Option Value} {base : Heap}
theorem okStarT {x qual : Str} {st : Stmt} {f c : Addr} {fd : FuncData} {N ps : List Str} {pv : Str} {k : Nat} {sp : Sp} (F : Fun K x qual st f fd) (S : FnScope N (ps ++ [pv]) (defScope st)) (hc : fd.code = .ref c)
    (hb : ∀ (kV doc pm : Value) (an : Option Addr) (cdv ct : Value) (us rest : List Value), us.length = ps.length → bindArgs (PySem.W.fnOf x qual (defArgs st) (defBody st) (defScope st) .none kV doc pm an cdv ct) ⟨us ++ rest, []⟩ = (newTuple rest >>= fun t => pure (ps.zip us ++ [(pv, t)])))
    (hbody : ∀ (A : Around) (outer : List Env) (s : Shared) (H : Hp) (vs : List V) (Q : VK) (E : XK), Room k (A.deeper (envOfC qual (defScope st) s.heap.objs.size f (.ref c))) → sp vs H Q E →
      ∃ t, PSs (cxOf CX0 P w K mg base N qual (defScope st) f (.ref c) A outer s H E).nox (defBody st) t ∧ t { nx := fun _ H' => Q .non H', rt := Q } (start N vs) H) : FnR P w K mg base CX0 (k + 1) f (spStar ps.length sp) := by
  obtain ⟨oc, od, kV, doc, pm, an, cdv, ct, osl, rfl, lk, hcd⟩ := F.ex
  have ec : cdv = .ref c := hc
  subst ec
  refine fn_star lk hcd S cxUp_none (hb kV doc pm an (.ref c) ct) fun A outer s H vs Q E hr hsp => ?_
  obtain ⟨t, h, q⟩ := hbody A outer s H vs Q E hr hsp
  exact ⟨t, h.nox, q⟩
theorem okStarKT {x qual : Str} {st : Stmt} {f c : Addr} {fd : FuncData} {N ps ks : List Str} {pv : Str} {k : Nat} {sp : Sp} (hc : fd.code = .ref c) (idx : List Nat) (hi : idx.length = ps.length) (F : Fun K x qual st f fd) (S : FnScope N (ps ++ [pv]) (defScope st))
    (hb : ∀ (kV doc pm : Value) (an : Option Addr) (cdv ct : Value) (ws : List Value), ws.length = ks.length → bindArgs (PySem.W.fnOf x qual (defArgs st) (defBody st) (defScope st) .none kV doc pm an cdv ct) ⟨[], ks.zip ws⟩ = (newTuple [] >>= fun t => pure (ps.zip (pickBy .none idx [] ws) ++ [(pv, t)])))
    (hbody : ∀ (A : Around) (outer : List Env) (s : Shared) (H : Hp) (vs : List V) (Q : VK) (E : XK), Room k (A.deeper (envOfC qual (defScope st) s.heap.objs.size f (.ref c))) → sp vs H Q E →
      ∃ t, PSs (cxOf CX0 P w K mg base N qual (defScope st) f (.ref c) A outer s H E).nox (defBody st) t ∧ t { nx := fun _ H' => Q .non H', rt := Q } (start N vs) H) : FnRk P w K mg base CX0 (k + 1) f ks (spStarK idx sp) := by
  obtain ⟨oc, od, kV, doc, pm, an, cdv, ct, osl, rfl, lk, hcd⟩ := F.ex
  have ec : cdv = .ref c := hc
  subst ec
  intro A outer s H ws zs Q E hr e0 r hl hsp
  have hn : H s.heap.objs.size = Option.none := e0.hok.fresh (Nat.le_refl _)
  refine run_bnd lk hcd S hr e0 (G := fun xs H2 => ∃ p, H p = Option.none ∧ xs = pickBy .non idx [] zs ++ [V.ref p] ∧ H2 = upd H p (.tup [])) (fun A' Ex Q' h => ?_) fun s2 H2 xs ⟨p, hp, ex, eH⟩ hr' => ?_
  · rw [hb kV doc pm an (.ref c) ct ws (by rw [← r.length]; exact hl)]
    refine wpAny_bind (wpAny_newTuple (wpAny_pure ?_) (Nat.zero_le _))
    have new : ObjOk P w (upd H s.heap.objs.size (.tup [])) (s.heap.push ({ cls := .type "tuple", data := .seq ([] : List Value).toArray } : Obj)) s.heap.objs.size (.tup []) := ⟨Nat.zero_le _, [], .nil, ⟨_, Heap.get?_push_size _ rfl, rfl, _, rfl⟩⟩
    have un := un_laid (fs := frs outer) (s := s) (o := ({ cls := .type "tuple", data := .seq ([] : List Value).toArray } : Obj)) (u := .tup []) hn
    have r1 : Vals (pickBy .non idx [] zs) (pickBy .none idx [] ws) := vals_pick .nil r idx
    have l1 : (pickBy .none idx [] ws).length = ps.length := by rw [← hi]; simp [pickBy]
    have z := h _ _ (pickBy .non idx [] zs ++ [V.ref s.heap.objs.size]) (pickBy .none idx [] ws ++ [Value.ref s.heap.objs.size]) (env0_laid e0 new) un rfl (fun e s' z => False.elim z) (r1.append (.cons rfl .nil))
      (by rw [List.length_append, List.length_append, r1.length, l1] <;> rfl) ⟨_, hn, rfl, rfl⟩
    rw [List.zip_append l1.symm] at z
    exact z
  · subst ex eH
    obtain ⟨t, h, q⟩ := hbody A outer s2 _ _ Q E hr' (hsp p hp)
    exact ⟨t, h.nox, q⟩
end
/-! ### any, all over a tuple; the kinds and the keys of a dict that is written -/
section
variable {K : PySem.W.Frag} {σ : L2.St} {vs : List Nat} {H : Hp} {Q : VK} {g : TG} {te : TE} {P : Addr}
theorem w_gxT {b0 : Bool} {a : Addr} {xs : List V} (tr : Nat → Bool) (hs : SqT K H a xs) (ht : GxR.TabG H P)
    (he : ∀ (i : Nat) x H', xs[i]? = some x → Sm H H' → ∀ R : VK, (∀ H2, Sm H' H2 → R (.bl (tr i)) H2) → g x (wipe σ vs) H' fun σ2 H2 => wipe σ2 vs = wipe σ vs ∧ te σ2 H2 R)
    (k : ∀ H', Sm H H' → Q (.bl (if b0 then (List.range xs.length).all tr else (List.range xs.length).any tr)) H') : ∃ b, V.ref a = .ref b ∧ (∃ xs, SqT K H b xs) ∧ GxB b0 P (Itt K b) g te vs σ H Q := by
  refine ⟨a, rfl, ⟨xs, hs⟩, ht, fun H2 hT => ?_⟩
  have s0 := Sm.tabbed ht hT
  refine ⟨fun i m H' => m = xs.length - i ∧ i ≤ xs.length ∧ Sm H H' ∧ ∀ j, j < i → tr j = b0, ⟨_, rfl, Nat.zero_le _, s0, fun j hj => absurd hj (Nat.not_lt_zero _)⟩, ?_⟩
  rintro i m H' ⟨rfl, hi, s1, ha⟩
  by_cases hlt : i < xs.length
  · refine .inr ⟨⟨xs, xs[i], s1.seqT hs, by simp [hlt]⟩, fun x H3 y => ?_⟩
    obtain ⟨rfl, y⟩ := y
    have hx := y xs (s1.seqT hs)
    refine he i x _ hx s1 _ fun H4 s2 => ⟨tr i, rfl, fun hb => ⟨_, ?_, rfl, hlt, s1.trans s2, fun j hj => ?_⟩, fun hb => ?_⟩
    · omega
    · by_cases z : j = i
      · rw [z]; exact hb
      · exact ha j (by omega)
    · have e : (if b0 then (List.range xs.length).all tr else (List.range xs.length).any tr) = !b0 := by
        cases b0 with
        | true =>
          rw [if_pos rfl, Bool.not_true, List.all_eq_false]
          exact ⟨i, List.mem_range.mpr hlt, by rw [hb]; simp⟩
        | false =>
          rw [if_neg Bool.false_ne_true, Bool.not_false, List.any_eq_true]
          exact ⟨i, List.mem_range.mpr hlt, hb⟩
      have := k H4 (s1.trans s2)
      rw [e] at this
      exact this
  · have e : i = xs.length := by omega
    subst e
    refine .inl ⟨⟨xs, s1.seqT hs, Nat.le_refl _⟩, ?_⟩
    have e : (if b0 then (List.range xs.length).all tr else (List.range xs.length).any tr) = b0 := by
      cases b0 with
      | true =>
        rw [if_pos rfl, List.all_eq_true]
        exact fun j hj => ha j (List.mem_range.mp hj)
      | false =>
        rw [if_neg Bool.false_ne_true, List.any_eq_false]
        intro j hj
        rw [ha j (List.mem_range.mp hj)]; simp
    have := k H' s1
    rw [e] at this
    exact this
end
theorem IntD.map {f : Nat → List Key × V} {l : List Nat} (h : ∀ i, ∃ z, (f i).2 = V.int z) : IntD (l.map f) := fun p hp => by
  obtain ⟨i, _, rfl⟩ := List.mem_map.mp hp
  exact h i
theorem IntD.app {a b : List (List Key × V)} (h1 : IntD a) (h2 : IntD b) : IntD (a ++ b) := fun p hp => (List.mem_append.mp hp).elim (h1 p) (h2 p)
theorem IntD.put {kvs : List (List Key × V)} (h : IntD kvs) {k : List Key} {z : Int} : IntD (putK kvs k (.int z)) := fun p hp => by
  unfold putK at hp
  split at hp
  · obtain ⟨q, hq, e⟩ := List.mem_map.mp hp
    split at e
    · exact ⟨z, by rw [← e]⟩
    · rw [← e]; exact h q hq
  · rcases List.mem_append.mp hp with hp | hp
    · exact h p hp
    · rw [List.mem_singleton.mp hp]; exact ⟨z, rfl⟩
theorem nodup_put {kvs : List (List Key × V)} (h : (kvs.map (·.1)).Nodup) {k : List Key} {v : V} : ((putK kvs k v).map (·.1)).Nodup := by
  unfold putK
  split
  · rw [List.map_map]
    have e : (kvs.map ((fun x => x.1) ∘ fun kv => if kv.1 = k then (kv.1, v) else kv)) = kvs.map (·.1) := List.map_congr_left fun p _ => by
      show (if p.1 = k then (p.1, v) else p).1 = p.1
      split <;> rfl
    rw [e]
    exact h
  · rename_i n
    rw [List.map_append, List.nodup_append]
    refine ⟨h, by simp, fun a ha b hb => ?_⟩
    have eb : b = k := by simpa using hb
    subst eb
    obtain ⟨p, hp, rfl⟩ := List.mem_map.mp ha
    intro e
    apply n
    rw [List.any_eq_true]
    exact ⟨p, hp, decide_eq_true e⟩
theorem all_range {α : Type} {cs : List α} {f : α → Bool} {g : Nat → Bool} (h : ∀ i (hi : i < cs.length), g i = f cs[i]) : (List.range cs.length).all g = cs.all f := by
  apply Bool.eq_iff_iff.mpr
  rw [List.all_eq_true, List.all_eq_true]
  constructor
  · intro z x hx
    obtain ⟨i, hi, rfl⟩ := List.mem_iff_getElem.mp hx
    rw [← h i hi]
    exact z i (List.mem_range.mpr hi)
  · intro z i hi
    have hi := List.mem_range.mp hi
    rw [h i hi]
    exact z _ (List.getElem_mem hi)
end SC

set_option Elab.async false
set_option linter.all false
set_option maxRecDepth 100000
set_option maxHeartbeats 4000000
/-! The law's own call where defs ask for repr and codes have tables. -/
namespace SC
open PySem PySem.Spec PyProof.Rows L2 StX
/-- what the law may see: its script, unless the top made it, and the empty tables -/
def lawHp (K : PySem.W.Frag) (a : Addr) (o : HO) (ts : List Addr) : Hp := fun b => if b = a ∧ (K.lookup a).isNone = true then some o else if b ∈ ts then some (.tbl #[]) else none
theorem lawHp_some {K : PySem.W.Frag} {a b : Addr} {o u : HO} {ts : List Addr} (h : lawHp K a o ts b = some u) : (b = a ∧ u = o ∧ K.lookup a = none) ∨ (b ∈ ts ∧ u = .tbl #[]) := by
  unfold lawHp at h
  split at h
  · rename_i c
    exact .inl ⟨c.1, (Option.some.inj h).symm, Option.isNone_iff_eq_none.mp c.2⟩
  · split at h
    · rename_i c
      exact .inr ⟨c, (Option.some.inj h).symm⟩
    · cases h
theorem law_runGT {P : Program} {w : World} {K : PySem.W.Frag} {mg mb : Str → Option Value} {k : Nat} {fa a : Addr} {cs : List (Addr × Addr)} {fd : FuncData} {x : Str} {sp : Sp} {s₁ : Shared} {vs : List Value} {ns : List Int}
    (KX : K.In s₁.heap) (hns : s₁.heap.Ns mainGlobals mg) (hb : s₁.heap.Ns builtinsNs mb) (hbb : ∀ x : Str, x ≠ "__name__" → mb x = bootBuiltins x) (hlim : s₁.heap.NoLimit) (hg : s₁.gens = #[])
    (hT : ∀ p ∈ cs, s₁.heap.get? p.2 = some { cls := .none, data := .fields #[] }) (nT : ∀ p ∈ cs, K.lookup p.2 = none) (C : ∀ p ∈ cs, PySem.W.CodeHd s₁.heap p.1 p.2)
    (hbm : ∃ (bm : Addr) (ob : Obj), mg "__builtins__" = some (.ref bm) ∧ bm ≠ builtinsNs ∧ s₁.heap.get? bm = some ob ∧ ob.cls = .type "module" ∧ ob.dict = some builtinsNs ∧ ob.data = .plain)
    (ha : s₁.heap.get? a = some { cls := .type "list", data := .seq vs.toArray }) (hi : IntsAre vs ns) (hl : ns.length ≤ sizeLine) (hr : Room k callerA)
    (F : ∀ base : Heap, K.In base → base.Ns mainGlobals mg → (∀ p ∈ cs, GxR.TabB base mg p.1 p.2) → FnG P w K mg base CX0 k fa fd [x] sp) (hbind : ∀ (s : Shared) (u : Value), BindsTo s fd ⟨[u], []⟩ [(x, u)])
    (hsp : ∀ H : Hp, (∀ p ∈ cs, H p.2 = some (.tbl #[])) → SqL K H a (ns.map V.int) → sp [.ref a] H (fun v _ => v = .bl true) fun _ _ _ => False) :
    codeAny (model P w) callerA (.call (.ref fa) ⟨[.ref a], []⟩) (fun r s' => r = .ok (.ret (.bool true)) ∧ OldK s₁.heap s'.heap ∧ s'.os = s₁.os ∧ AllBare s'.gens) s₁ := by
  have rv := vals_ints hi
  have hlen := hi.length
  generalize eo : HO.frz { cls := .type "list", data := .seq vs.toArray } (.lst (ns.map V.int)) = fz
  generalize eH : lawHp K a fz (cs.map (·.2)) = H
  have tabAt : ∀ b ∈ cs.map (·.2), s₁.heap.get? b = some { cls := .none, data := .fields #[] } ∧ K.lookup b = none := fun b z => by
    obtain ⟨p, hp, rfl⟩ := List.mem_map.mp z
    exact ⟨hT p hp, nT p hp⟩
  have aT : a ∉ cs.map (·.2) := fun z => by
    have q := (tabAt a z).1
    rw [ha] at q
    cases (congrArg Obj.data (Option.some.inj q) : Data.seq vs.toArray _ = Data.fields #[])
  have sees : ∀ {b : Addr} {u : HO}, H b = some u → (b = a ∧ u = fz ∧ K.lookup a = none) ∨ (b ∈ cs.map (·.2) ∧ u = .tbl #[]) := fun h => lawHp_some (by rw [eH]; exact h)
  have tabs : ∀ p ∈ cs, H p.2 = some (.tbl #[]) := fun p hp => by
    have m := List.mem_map.mpr ⟨p, hp, (rfl : p.2 = p.2)⟩
    rw [← eH]
    unfold lawHp
    rw [if_neg fun z => aT (by rw [← z.1]; exact m), if_pos m]
  have seq : SqL K H a (ns.map V.int) := by
    cases hk : K.lookup a with
    | none => exact .inl (.inr ⟨{ cls := .type "list", data := .seq vs.toArray }, by rw [← eH, eo]; exact if_pos ⟨rfl, by rw [hk]; rfl⟩⟩)
    | some o =>
      have e := KX a o hk
      rw [ha] at e
      cases e
      exact .inr ⟨_, vs.toArray, _, hk, rfl, rfl, rfl, by rw [List.size_toArray, hlen]; exact hl, by simpa using rv⟩
  have ok : HOk P w H s₁.heap := fun b u h => by
    rcases sees h with ⟨rfl, rfl, _⟩ | ⟨m, rfl⟩
    · rw [← eo]
      exact ⟨ha, by rw [List.length_map]; exact hl, vs, _, rv, ha⟩
    · exact (tabAt b m).1
  have free : ∀ {b : Addr} {o : Obj}, s₁.heap.get? b = some o → ((∀ xs n, o.data ≠ .seq xs n) ∧ o.data ≠ .fields #[]) ∨ K.lookup b = some o → H b = none := fun {b o} e c => by
    cases q : H b with
    | none => rfl
    | some u =>
      rcases sees q with ⟨rfl, _, hk⟩ | ⟨m, _⟩
      · rcases c with c | c
        · rw [ha] at e
          cases e
          exact absurd rfl (c.1 _ _)
        · rw [hk] at c
          cases c
      · obtain ⟨t1, t2⟩ := tabAt b m
        rcases c with c | c
        · rw [t1] at e
          cases e
          exact absurd rfl c.2
        · rw [t2] at c
          cases c
  have kept : ∀ {b : Addr} {o : Obj}, s₁.heap.get? b = some o → ((∀ xs n, o.data ≠ .seq xs n) ∧ o.data ≠ .fields #[]) ∨ K.lookup b = some o → (hidT s₁.heap H).get? b = some o := fun e c => hidT_get e (free e c)
  have ns_ : ∀ {b : Addr} {m : Str → Option Value}, s₁.heap.Ns b m → (hidT s₁.heap H).Ns b m := fun ⟨o, es, ep, e, d, r⟩ => ⟨o, es, ep, kept e (.inl ⟨fun xs n z => (by rw [d] at z; cases z), fun z => (by rw [d] at z; cases z)⟩), d, r⟩
  have inb : K.In (hidT s₁.heap H) := fun b o e => kept (KX b o e) (.inr e)
  have md : Mod K mg (hidT s₁.heap H) := ⟨inb, ns_ hns, ⟨mb, ns_ hb, hbb⟩, let ⟨mc, h1, h2⟩ := hlim; ⟨mc, ns_ h1, h2⟩⟩
  have TB : ∀ p ∈ cs, GxR.TabB (hidT s₁.heap H) mg p.1 p.2 := fun p hp => by
    have tp := hT p hp
    refine ⟨?_, ?_, fun z => ?_⟩
    · obtain ⟨o, us, file, tf, flags, tg, inF, text, tt, e1, r1, r2, r3, r⟩ := C p hp
      exact ⟨o, us, file, tf, flags, tg, inF, text, tt, kept e1 (.inl ⟨fun vs n z => (by rw [r2] at z; cases z), fun z => (by rw [r2] at z; cases z; simp at r3)⟩), r1, r2, r3, r⟩
    · obtain ⟨bm, ob, b1, b2, b3, b4, b5, b6⟩ := hbm
      refine ⟨bm, ob, b1, b2, fun q => ?_, fun q => ?_, kept b3 (.inl ⟨fun vs n z => (by rw [b6] at z; cases z), fun z => (by rw [b6] at z; cases z)⟩), b4, b5, b6⟩
      · obtain ⟨o, es, ep, e, hd, _⟩ := hns
        rw [q, e] at b3
        cases b3
        rw [hd] at b6
        cases b6
      · rw [q, tp] at b3
        cases b3
        cases b6
    · obtain ⟨o, es, ep, e, hd, _⟩ := hns
      rw [z, tp] at e
      cases e
      cases hd
  have e0 : Env0 P w K mg (hidT s₁.heap H) callerA [] s₁ H := ⟨rfl, md, fun b o e => of_hidT e, Nat.le_of_eq (hidT_size _ _), trivial, fun b hb => absurd (show b ∈ ([] : List Addr) from hb) (by simp), ok, .of_eq hg⟩
  refine codeAny_mono ((F _ inb (ns_ hns) TB).2 callerA [] s₁ H ⟨[.ref a], []⟩ [.ref a] [.ref a] _ _ rfl hr e0 (hbind s₁ (.ref a)) (.cons rfl .nil) (hsp H tabs seq)) fun r s' h => ?_
  match r, h with
  | .error e, h => exact False.elim h
  | .ok .next, h => exact False.elim h
  | .ok .brk, h => exact False.elim h
  | .ok .cont, h => exact False.elim h
  | .ok (.ret u), h =>
    obtain ⟨v, H', os, bare, un, ok', rel, ev⟩ := h
    subst ev
    obtain rfl : u = Value.bool true := rel
    have same : ∀ b o, b ∉ cs.map (·.2) → s₁.heap.get? b = some o → s'.heap.get? b = some o := fun b o nb e => by
      cases q : H b with
      | none => exact un.keep b o e q (by simp [frs]) (by simp)
      | some u =>
        rcases sees q with ⟨rfl, rfl, _⟩ | ⟨m, _⟩
        · rw [ha] at e
          cases e
          rw [← eo] at q
          exact (ok' b _ (un.frzs b _ _ q)).1
        · exact absurd m nb
    have grown : ∀ b ∈ cs.map (·.2), ∃ more : Array Value, s'.heap.get? b = some { cls := .none, data := .fields more } := fun b m => by
      obtain ⟨p, hp, rfl⟩ := List.mem_map.mp m
      obtain ⟨more, z⟩ := un.tbls p.2 #[] (tabs p hp)
      exact ⟨_, ok' p.2 _ z⟩
    refine ⟨rfl, ⟨fun b o e => ?_, fun b o e => ?_⟩, os, bare⟩
    · by_cases m : b ∈ cs.map (·.2)
      · obtain ⟨more, hm⟩ := grown b m
        obtain ⟨p, hp, rfl⟩ := List.mem_map.mp m
        rw [hT p hp] at e
        cases e
        exact .inr (.inl ⟨((C p hp).tab (hT p hp)).isCodeTable, rfl, #[], more, rfl, by rw [Array.empty_append]; exact hm⟩)
      · exact .inl (same b o m e)
    · by_cases m : b ∈ cs.map (·.2)
      · obtain ⟨more, hm⟩ := grown b m
        exact ⟨_, hm⟩
      · exact ⟨o, same b o m e⟩
/-- what the head's heap h knows of the law's promise -/
def LawAtG (l : PySem.W.OpenLaw) (w : World) (K : PySem.W.Frag) (k n : Nat) (x : Str) (mg : Str → Option Value) (fa : Addr) (h : Heap) : Prop :=
  ∃ (fd : FuncData) (cs : List (Addr × Addr)) (sp : Sp), (∀ p ∈ cs, h.get? p.2 = some { cls := .none, data := .fields #[] }) ∧ (∀ p ∈ cs, K.lookup p.2 = none) ∧ (∀ p ∈ cs, PySem.W.CodeHd h p.1 p.2) ∧ (∀ (s : Shared) (u : Value), BindsTo s fd ⟨[u], []⟩ [(x, u)]) ∧
    (∀ (H : Hp) (a : Addr) (ns : List Int), ns.length ≤ n → (∀ z ∈ ns, Builtin.Int.intBits z ≤ 1048576) → (∀ p ∈ cs, H p.2 = some (.tbl #[])) → SqL K H a (ns.map V.int) → sp [.ref a] H (fun v _ => v = .bl true) fun _ _ _ => False) ∧
    ∀ base : Heap, K.In base → base.Ns mainGlobals mg → (∀ p ∈ cs, GxR.TabB base mg p.1 p.2) → FnG l.prog w K mg base CX0 k fa fd [x] sp
theorem walk_tabsG {l : PySem.W.OpenLaw} {n k : Nat} {q : Program} {loose : List Str} {XP : (Str → Option Value) → Heap → Prop} {YP : World → Heap → Prop} {d : DefRec} {K : Params → PySem.W.Frag} {x : Str} (names : List Str)
    (hn : l.most = some n) (hn2 : n ≤ sizeLine) (hdf : d.params.defaults = []) (hr : Room k callerA) (hrec : ∀ y ∈ names, ((recsOf q).any fun e => e.name == y) = true) (hY : ∀ (w : World) (h : Heap), YP w h → (K w.params).In h)
    (F : ∀ (w : World) (mg : Str → Option Value) (fa : Addr) (h : Heap), (K w.params).In h → h.Ns mainGlobals mg → mg d.name = some (.ref fa) → (∀ y ∈ names, ∀ c P, PySem.W.tabIn (K w.params) y = some (c, P) → PySem.W.CodeHd h c P ∧ h.get? P = some { cls := .none, data := .fields #[] }) → LawAtG l w (K w.params) k n x mg fa h) :
    PySem.W.WalkO q loose XP YP l.row.toRowW d [] (fun f vs => PySem.call f vs) := by
  refine Att.attach_callB hn hdf fun w s₀ s₁ mg mb fa o pm cd doc a vs ns G Y ho hd hcd hmg hobj hints hlen hbits hg => ?_
  have KX := hY w _ Y
  obtain ⟨fd, cs, sp, hT, nT, C, hb, hsp, hF⟩ := F w mg fa _ KX G.T.g hmg fun y hy c P ht => by
    obtain ⟨dL, hm, hn1⟩ := List.any_eq_true.mp (hrec y hy)
    have z : ((recsOf q).find? fun e => e.name == y).isSome = true := List.find?_isSome.mpr ⟨dL, hm, hn1⟩
    obtain ⟨d', hd'⟩ := Option.isSome_iff_exists.mp z
    exact PySem.W.tab_of G.T KX hd' ht
  exact law_runGT KX G.T.g G.T.b G.T.builtins G.T.nolimit hg hT nT C G.T.bmain hobj hints (Nat.le_trans hlen hn2) hr hF hb fun H hH hS => hsp H a ns hlen hbits hH hS
/-! ### how often an int stands in a list -/
def rCount (K : PySem.W.Frag) : V → List V → Hp → VK → Prop := fun x xs H Q => ∃ (a : Addr) (ns : List Int) (k : Int), x = V.ref a ∧ xs = [V.int k] ∧ SqL K H a (ns.map V.int) ∧ Q (.int (ns.count k : Nat)) H
theorem mt_count {X : Cx} : MtR X "list.count" (rCount X.K) := by
  intro pins s σ H x xs v us Q I rx rxs h
  obtain ⟨a, ns, k, rfl, rfl, hs, q⟩ := h
  cases rx
  cases rxs with
  | cons ry rt =>
    cases rt
    obtain ⟨t, rfl⟩ := ry
    obtain ⟨its, rv, p, _⟩ := I.list hs
    exact count_list_ints p.isList (Vals.ints rv) ⟨.int (ns.count k : Nat), H, I.tok _, ⟨_, rfl⟩, q⟩
theorem w_count {K : PySem.W.Frag} {H : Hp} {Q : VK} {a : Addr} {ns : List Int} {k : Int} (h : SqL K H a (ns.map V.int)) (q : Q (.int (ns.count k : Nat)) H) : rCount K (.ref a) [.int k] H Q := ⟨a, ns, k, rfl, rfl, h, q⟩
end SC

set_option Elab.async false
set_option linter.all false
set_option maxRecDepth 100000
set_option maxHeartbeats 4000000
/-! What claims and results decide; a claim holds of a result as its winners say. -/
namespace SC
open PySem PySem.Spec PyProof.Rows L2 StX
def keyM (p : Int × Int) : List Key := [.inl p.1, .inl p.2]
theorem keyM_inj {a b c d : Int} (h : keyM (a, b) = keyM (c, d)) : a = c ∧ b = d := by
  have z := List.cons.inj h
  exact ⟨Sum.inl.inj z.1, Sum.inl.inj (List.cons.inj z.2).1⟩
def decE (n s : Int) (i : Nat) : List Key × V := (keyM (1 + (i : Int), blk (p2 (n - (1 + (i : Int)))) s), .int (blk (p2 (n - (1 + (i : Int)) + 1)) s))
def decs (n s : Int) (wd : Str) (r : Nat) : List (List Key × V) := if wd = "out" then putK ((List.range r).map (decE n s)) (keyM ((r : Int), blk (p2 (n - (r : Int))) s)) (.int (oth n (r : Int) s)) else (List.range r).map (decE n s)
def conT (ks : List (List Key × V)) (p : List Key × V) : Bool := decide (valV ks p.1 = some p.2)
def difT (ls : List (List Key × V)) (p : List Key × V) : Bool := match valV ls p.1 with
  | some z => decide (z ≠ p.2)
  | none => false
/-- claims as triples -/
abbrev Clm := Str × Int × Nat
def cV (c : Clm) : List V := [.str c.1, .int c.2.1, .int c.2.2]
def ClmOk (n : Int) (c : Clm) : Prop := (c.1 = "won" ∨ c.1 = "out") ∧ (1 ≤ c.2.1 ∧ c.2.1 ≤ p2 n) ∧ (1 ≤ c.2.2 ∧ (c.2.2 : Int) ≤ n)
/-- the decided matches of a result: the halves of the winners -/
def dbrRow (s : Nat) (B : List Int) (d : Nat) (j : Nat) : List Key × V := (keyM (1 + (d : Int), 1 + (j : Int)), .int (blk (p2 ((s : Int) - (1 + (d : Int)) + 1)) ((PL s B (d + 1)).getD j 0)))
def dbr (s : Nat) (B : List Int) : Nat → List (List Key × V)
  | 0 => []
  | d + 1 => dbr s B d ++ (List.range (PL s B (d + 1)).length).map (dbrRow s B d)
theorem dbr_keys {s : Nat} {B : List Int} : ∀ {d : Nat} {p : List Key × V}, p ∈ dbr s B d → ∃ a b : Int, a ≤ (d : Int) ∧ p.1 = keyM (a, b)
  | 0, p, h => by cases h
  | d + 1, p, h => by
    rcases List.mem_append.mp h with h | h
    · obtain ⟨a, b, l, e⟩ := dbr_keys h
      exact ⟨a, b, by omega, e⟩
    · obtain ⟨j, _, rfl⟩ := List.mem_map.mp h
      exact ⟨1 + (d : Int), 1 + (j : Int), by omega, rfl⟩
theorem dbr_len {s : Nat} {B : List Int} : ∀ d : Nat, (dbr s B d).length = (FD s B d).length
  | 0 => rfl
  | d + 1 => by rw [dbr, List.length_append, List.length_map, List.length_range, dbr_len d, FD_succ, List.length_append]
def satC (s : Nat) (B : List Int) (c : Clm) : Bool := (decs (s : Int) c.2.1 c.1 c.2.2).all (conT (dbr s B s))
theorem decE_nd {n s : Int} {r : Nat} : (((List.range r).map (decE n s)).map (·.1)).Nodup := by
  rw [List.map_map]
  refine List.Pairwise.map _ (fun a b (hab : a ≠ b) e => ?_) List.nodup_range
  have z := (keyM_inj (show keyM (1 + (a : Int), blk (p2 (n - (1 + (a : Int)))) s) = keyM (1 + (b : Int), blk (p2 (n - (1 + (b : Int)))) s) from e)).1
  omega
theorem decs_int {n s : Int} {wd : Str} {r : Nat} : IntD (decs n s wd r) := by
  have h : IntD ((List.range r).map (decE n s)) := IntD.map fun i => ⟨_, rfl⟩
  unfold decs
  split
  · exact h.put
  · exact h
theorem decs_nd {n s : Int} {wd : Str} {r : Nat} : ((decs n s wd r).map (·.1)).Nodup := by
  unfold decs
  split
  · exact nodup_put decE_nd
  · exact decE_nd
theorem dbr_int {s : Nat} {B : List Int} : ∀ d : Nat, IntD (dbr s B d)
  | 0 => fun p h => by cases h
  | d + 1 => (dbr_int d).app (IntD.map fun j => ⟨_, rfl⟩)
/-- what the law says of a claim, by the winners -/
def truC (ws : List Int) (c : Clm) : Bool := if c.1 = "won" then decide ((c.2.2 : Int) ≤ (ws.count c.2.1 : Nat)) else decide (((ws.count c.2.1 : Nat) : Int) = (c.2.2 : Int) - 1)
/-! ### the winners' blocks -/
theorem getD_mem {ps : List Int} {j : Nat} (h : j < ps.length) : ps.getD j 0 ∈ ps := by
  rw [List.getD_eq_getElem?_getD, List.getElem?_eq_getElem h]
  exact List.getElem_mem h
theorem mem_getD {ps : List Int} {x : Int} (h : x ∈ ps) : ∃ j, j < ps.length ∧ ps.getD j 0 = x := by
  obtain ⟨j, hj, e⟩ := List.mem_iff_getElem.mp h
  refine ⟨j, hj, ?_⟩
  rw [List.getD_eq_getElem?_getD, List.getElem?_eq_getElem hj, ← e]
  rfl
theorem rnd_sub {ps bs : List Int} {x : Int} (h : x ∈ rnd ps bs) : x ∈ ps := by
  unfold rnd at h
  obtain ⟨i, hi, rfl⟩ := List.mem_map.mp h
  have hi := List.mem_range.mp hi
  rcases win_mem (bs.getD i 0) (prAt ps i) with z | z <;> rw [z]
  · exact getD_mem (by omega)
  · exact getD_mem (by omega)
theorem PL_down {s : Nat} {B : List Int} {d : Nat} {x : Int} (h : x ∈ PL s B (d + 1)) : x ∈ PL s B d := rnd_sub h
theorem PL_mem {s : Nat} {B : List Int} : ∀ d : Nat, ∀ x ∈ PL s B d, 1 ≤ x ∧ x ≤ p2 (s : Int)
  | 0, x, h => by
    have h : x ∈ seeds s := h
    unfold seeds at h
    obtain ⟨i, hi, rfl⟩ := List.mem_map.mp h
    have hi := List.mem_range.mp hi
    rw [p2_nat]
    omega
  | d + 1, x, h => PL_mem d x (PL_down h)
theorem PL_zero {s : Nat} {B : List Int} {x : Int} (h : 1 ≤ x ∧ x ≤ p2 (s : Int)) : x ∈ PL s B 0 := by
  rw [p2_nat] at h
  show x ∈ seeds s
  unfold seeds
  refine List.mem_map.mpr ⟨(x - 1).toNat, List.mem_range.mpr (by omega), by omega⟩
theorem FD_mem {s : Nat} {B : List Int} : ∀ {d : Nat}, ∀ x ∈ FD s B d, 1 ≤ x ∧ x ≤ p2 (s : Int)
  | 0, x, h => by cases h
  | d + 1, x, h => by
    rw [FD_succ] at h
    rcases List.mem_append.mp h with h | h
    · exact FD_mem x h
    · exact PL_mem _ x h
theorem p2_sub {s d : Nat} (h : d ≤ s) : p2 ((s : Int) - (d : Int)) = ((2 ^ (s - d) : Nat) : Int) := by
  rw [show (s : Int) - (d : Int) = ((s - d : Nat) : Int) by omega, p2_nat]
theorem p2_step {s d : Nat} (h : d < s) : p2 ((s : Int) - (d : Int)) = 2 * p2 ((s : Int) - ((d + 1 : Nat) : Int)) := by
  rw [← p2_succ (by omega)]
  congr 1
  omega
theorem PL_blk {s : Nat} {B : List Int} : ∀ {d : Nat}, d ≤ s → ∀ j : Nat, j < 2 ^ (s - d) → blk (p2 ((s : Int) - (d : Int))) ((PL s B d).getD j 0) = 1 + (j : Int)
  | 0, _, j, hj => by
    have e : (PL s B 0).getD j 0 = 1 + (j : Int) := by
      show (seeds s).getD j 0 = _
      unfold seeds
      rw [List.getD_eq_getElem?_getD, List.getElem?_map, List.getElem?_range (by simpa using hj)]
      rfl
    rw [e, p2_sub (Nat.zero_le _)]
    exact blk_top (by omega) (by omega)
  | d + 1, h, j, hj => by
    have pl := PL_len (s := s) (B := B) (d := d) (by omega)
    have ph := pow_half (s := s) (d := d) (by omega)
    have e : (PL s B (d + 1)).getD j 0 = win ((B.drop (FD s B d).length).getD j 0) (prAt (PL s B d) j) := by
      rw [PL_succ]
      unfold rnd
      rw [List.getD_eq_getElem?_getD, List.getElem?_map, List.getElem?_range (by omega)]
      rfl
    have a1 := PL_blk (s := s) (B := B) (d := d) (by omega) j (by omega)
    have a2 := PL_blk (s := s) (B := B) (d := d) (by omega) ((PL s B d).length - 1 - j) (by omega)
    have m1 := (PL_mem (B := B) d _ (getD_mem (ps := PL s B d) (j := j) (by omega))).1
    have m2 := (PL_mem (B := B) d _ (getD_mem (ps := PL s B d) (j := (PL s B d).length - 1 - j) (by omega))).1
    have em := p2_sub (s := s) (d := d + 1) h
    rw [p2_step (by omega)] at a1 a2
    rw [e]
    rcases win_mem ((B.drop (FD s B d).length).getD j 0) (prAt (PL s B d) j) with z | z <;> rw [z]
    · exact half_in (b := 1 + (j : Int)) (p2_pos _) (by omega) (by omega) m1 (.inl a1)
    · exact half_in (b := 1 + (j : Int)) (p2_pos _) (by omega) (by omega) m2 (.inr (by
        show blk _ ((PL s B d).getD ((PL s B d).length - 1 - j) 0) = _
        rw [a2, em]; omega))
/-- the winner of a seed's block -/
def wat (s : Nat) (B : List Int) (d : Nat) (x : Int) : Int := (PL s B d).getD (blk (p2 ((s : Int) - (d : Int))) x - 1).toNat 0
theorem wat_lt {s d : Nat} {x : Int} (h : d ≤ s) : (blk (p2 ((s : Int) - (d : Int))) x - 1).toNat < 2 ^ (s - d) ∧ blk (p2 ((s : Int) - (d : Int))) x = 1 + ((blk (p2 ((s : Int) - (d : Int))) x - 1).toNat : Int) := by
  have r := blk_range (m := p2 ((s : Int) - (d : Int))) (s := x) (p2_pos _)
  have e := p2_sub h
  constructor <;> omega
theorem wat_mem {s d : Nat} {B : List Int} {x : Int} (h : d ≤ s) : wat s B d x ∈ PL s B d := getD_mem (by rw [PL_len h]; exact (wat_lt h).1)
theorem wat_self {s d : Nat} {B : List Int} {x : Int} (h : d ≤ s) (hx : x ∈ PL s B d) : wat s B d x = x := by
  obtain ⟨j, hj, e⟩ := mem_getD hx
  rw [PL_len h] at hj
  have b := PL_blk (B := B) h j hj
  rw [e] at b
  unfold wat
  rw [b, show (1 + (j : Int) - 1).toNat = j by omega, e]
theorem wat_blk {s d : Nat} {B : List Int} {x : Int} (h : d ≤ s) : blk (p2 ((s : Int) - (d : Int))) (wat s B d x) = blk (p2 ((s : Int) - (d : Int))) x := by
  have w := wat_lt (x := x) h
  unfold wat
  rw [PL_blk h _ w.1, ← w.2]
theorem wat_next {s i : Nat} {B : List Int} {x : Int} (h : i < s) (hx : x ∈ PL s B i) : blk (p2 ((s : Int) - (i : Int))) (wat s B (i + 1) x) = blk (p2 ((s : Int) - (i : Int))) x ↔ x ∈ PL s B (i + 1) := by
  constructor
  · intro e
    have m := wat_mem (s := s) (B := B) (d := i + 1) (x := x) (by omega)
    have a := wat_self (s := s) (d := i) (by omega) (PL_down m)
    have b := wat_self (s := s) (d := i) (by omega) hx
    have c : wat s B i (wat s B (i + 1) x) = wat s B i x := by
      unfold wat at e ⊢
      rw [e]
    rw [a, b] at c
    rw [c] at m
    exact m
  · intro m
    rw [wat_self (by omega) m]
theorem wat_half {s i : Nat} {B : List Int} {x : Int} (h : i < s) (hx : 1 ≤ x) : blk (p2 ((s : Int) - (i : Int))) (wat s B (i + 1) x) = p2 ((s : Int) - (i : Int)) + 1 - blk (p2 ((s : Int) - (i : Int))) x ↔ ¬ blk (p2 ((s : Int) - (i : Int))) (wat s B (i + 1) x) = blk (p2 ((s : Int) - (i : Int))) x := by
  have m := wat_mem (s := s) (B := B) (d := i + 1) (x := x) (by omega)
  have e := wat_blk (s := s) (B := B) (d := i + 1) (x := x) (by omega)
  have m1 := (PL_mem _ _ m).1
  rw [p2_step h]
  have b1 := blk_below (m := p2 ((s : Int) - ((i + 1 : Nat) : Int))) (p2_pos _) m1
  have b2 := blk_below (m := p2 ((s : Int) - ((i + 1 : Nat) : Int))) (p2_pos _) hx
  rw [e] at b1
  have r := blk_range (m := p2 ((s : Int) - ((i + 1 : Nat) : Int))) (s := x) (p2_pos _)
  omega
/-! ### how often a seed wins -/
theorem FD_le {s : Nat} {B : List Int} {x : Int} : ∀ d : Nat, (FD s B d).count x ≤ d
  | 0 => by simp [FD, plP]
  | d + 1 => by
    rw [FD_succ, List.count_append]
    have := FD_le (s := s) (B := B) (x := x) d
    have := List.nodup_iff_count.mp (PL_nd s B (d + 1)) x
    omega
theorem FD_in {s : Nat} {B : List Int} {x : Int} : ∀ {d : Nat}, x ∈ PL s B d → (FD s B d).count x = d
  | 0, _ => by simp [FD, plP]
  | d + 1, h => by
    rw [FD_succ, List.count_append, FD_in (PL_down h)]
    have := List.nodup_iff_count.mp (PL_nd s B (d + 1)) x
    have := List.count_pos_iff.mpr h
    omega
theorem PL_out {s : Nat} {B : List Int} {x : Int} {d : Nat} (h : x ∉ PL s B d) : ∀ k : Nat, x ∉ PL s B (d + k)
  | 0 => h
  | k + 1 => fun z => PL_out h k (PL_down z)
theorem FD_out {s : Nat} {B : List Int} {x : Int} {d : Nat} (h : x ∉ PL s B d) : ∀ k : Nat, (FD s B (d + k)).count x = (FD s B d).count x
  | 0 => rfl
  | k + 1 => by
    rw [← Nat.add_assoc, FD_succ, List.count_append, FD_out h k, List.count_eq_zero.mpr (show x ∉ PL s B (d + k + 1) from PL_out h (k + 1))]
    omega
theorem le_count {s r : Nat} {B : List Int} {x : Int} (hx : 1 ≤ x ∧ x ≤ p2 (s : Int)) (hr : r ≤ s) : r ≤ (FD s B s).count x ↔ x ∈ PL s B r := by
  constructor
  · intro h
    by_cases c : x ∈ PL s B r
    · exact c
    · match r, hr, h, c with
      | 0, _, _, c => exact PL_zero hx
      | r + 1, hr, h, c =>
        have e := FD_out c (s - (r + 1))
        rw [show r + 1 + (s - (r + 1)) = s by omega, FD_succ, List.count_append, List.count_eq_zero.mpr c] at e
        have := FD_le (s := s) (B := B) (x := x) r
        omega
  · intro h
    have e := FD_in h
    obtain ⟨q, z⟩ := FD_pre (s := s) (B := B) (d := r) (s - r)
    rw [show r + (s - r) = s by omega] at z
    rw [z, List.count_append]
    omega
/-! ### what a result decides -/
theorem valV_appL {a b : List (List Key × V)} {k : List Key} {v : V} (h : valV a k = some v) : valV (a ++ b) k = some v := by
  induction a with
  | nil => cases h
  | cons p r ih =>
    rw [List.cons_append]
    by_cases e : p.1 = k
    · rw [valV_pos e] at h ⊢
      exact h
    · rw [valV_neg e] at h ⊢
      exact ih h
theorem valV_appR {a b : List (List Key × V)} {k : List Key} (h : valV a k = none) : valV (a ++ b) k = valV b k := by
  induction a with
  | nil => rfl
  | cons p r ih =>
    rw [List.cons_append]
    by_cases e : p.1 = k
    · rw [valV_pos e] at h
      cases h
    · rw [valV_neg e] at h ⊢
      exact ih h
theorem dbr_val {s : Nat} {B : List Int} : ∀ {t : Nat}, t ≤ s → ∀ {d j : Nat}, d < t → j < 2 ^ (s - (d + 1)) → valV (dbr s B t) (keyM (1 + (d : Int), 1 + (j : Int))) = some (.int (blk (p2 ((s : Int) - (1 + (d : Int)) + 1)) ((PL s B (d + 1)).getD j 0)))
  | 0, _, d, j, h, _ => absurd h (Nat.not_lt_zero _)
  | t + 1, ht, d, j, h, hj => by
    show valV (dbr s B t ++ _) _ = _
    by_cases c : d < t
    · exact valV_appL (dbr_val (by omega) c hj)
    · have e : d = t := by omega
      subst e
      rw [valV_appR (valV_none fun p hp q => ?_)]
      · refine valV_mem (i := j) ?_ ?_
        · rw [List.map_map]
          refine List.Pairwise.map _ (fun a b (hab : a ≠ b) e => ?_) List.nodup_range
          have z := (keyM_inj (show keyM (1 + (d : Int), 1 + (a : Int)) = keyM (1 + (d : Int), 1 + (b : Int)) from e)).2
          omega
        · rw [List.getElem?_map, List.getElem?_range (by rw [PL_len (by omega)]; exact hj)]
          rfl
      · obtain ⟨a, b, l, e⟩ := dbr_keys hp
        have z := (keyM_inj (e.symm.trans q)).1
        omega
theorem dbr_at {s i : Nat} {B : List Int} {x : Int} (h : i < s) : valV (dbr s B s) (decE (s : Int) x i).1 = some (.int (blk (p2 ((s : Int) - (i : Int))) (wat s B (i + 1) x))) := by
  have w := wat_lt (s := s) (d := i + 1) (x := x) (by omega)
  have e : (decE (s : Int) x i).1 = keyM (1 + (i : Int), 1 + ((blk (p2 ((s : Int) - ((i + 1 : Nat) : Int))) x - 1).toNat : Int)) := by
    rw [← w.2]
    show keyM (1 + (i : Int), blk (p2 ((s : Int) - (1 + (i : Int)))) x) = _
    rw [show (s : Int) - (1 + (i : Int)) = (s : Int) - ((i + 1 : Nat) : Int) by omega]
  rw [e, dbr_val (Nat.le_refl _) h w.1, show (s : Int) - (1 + (i : Int)) + 1 = (s : Int) - (i : Int) by omega]
  rfl
theorem con_at {s i : Nat} {B : List Int} {x : Int} (h : i < s) (hx : x ∈ PL s B i) : conT (dbr s B s) (decE (s : Int) x i) = decide (x ∈ PL s B (i + 1)) := by
  unfold conT
  rw [dbr_at h]
  refine decide_eq_decide.mpr (Iff.trans ⟨fun e => ?_, fun e => ?_⟩ (wat_next h hx))
  · have e := V.int.inj (Option.some.inj e)
    rw [show (s : Int) - (1 + (i : Int)) + 1 = (s : Int) - (i : Int) by omega] at e
    exact e
  · rw [e, show (decE (s : Int) x i).2 = V.int (blk (p2 ((s : Int) - (1 + (i : Int)) + 1)) x) from rfl, show (s : Int) - (1 + (i : Int)) + 1 = (s : Int) - (i : Int) by omega]
theorem con_all {s : Nat} {B : List Int} {x : Int} (hx : 1 ≤ x ∧ x ≤ p2 (s : Int)) : ∀ {r : Nat}, r ≤ s → ((∀ i, i < r → conT (dbr s B s) (decE (s : Int) x i) = true) ↔ x ∈ PL s B r)
  | 0, _ => ⟨fun _ => PL_zero hx, fun _ i h => absurd h (Nat.not_lt_zero _)⟩
  | r + 1, h => by
    have ih := con_all (B := B) hx (r := r) (by omega)
    constructor
    · intro a
      have m := ih.mp fun i hi => a i (by omega)
      have z := a r (by omega)
      rw [con_at h m] at z
      exact of_decide_eq_true z
    · intro m i hi
      have md := PL_down m
      by_cases c : i < r
      · exact ih.mpr md i c
      · have e : i = r := by omega
        subst e
        rw [con_at h md]
        exact decide_eq_true m
theorem all_map_range {f : Nat → List Key × V} {g : List Key × V → Bool} {r : Nat} : ((List.range r).map f).all g = true ↔ ∀ i, i < r → g (f i) = true := by
  rw [List.all_eq_true]
  constructor
  · intro h i hi
    exact h _ (List.mem_map.mpr ⟨i, List.mem_range.mpr hi, rfl⟩)
  · rintro h p hp
    obtain ⟨i, hi, rfl⟩ := List.mem_map.mp hp
    exact h i (List.mem_range.mp hi)
theorem decs_out {n s : Int} {r : Nat} (h : 1 ≤ r) : decs n s "out" r = (List.range r).map fun i => if i + 1 = r then ((decE n s i).1, V.int (oth n (r : Int) s)) else decE n s i := by
  unfold decs
  rw [if_pos rfl]
  unfold putK
  have ek : keyM ((r : Int), blk (p2 (n - (r : Int))) s) = (decE n s (r - 1)).1 := by
    show _ = keyM (1 + ((r - 1 : Nat) : Int), blk (p2 (n - (1 + ((r - 1 : Nat) : Int)))) s)
    rw [show 1 + ((r - 1 : Nat) : Int) = (r : Int) by omega]
  rw [if_pos ?_, List.map_map]
  · refine List.map_congr_left fun i hi => ?_
    have hi := List.mem_range.mp hi
    show (if (decE n s i).1 = _ then _ else _) = _
    by_cases c : i + 1 = r
    · rw [if_pos c, if_pos (by rw [ek, ← c]; rfl)]
    · rw [if_neg c, if_neg fun e => ?_]
      have z := (keyM_inj (show keyM (1 + (i : Int), blk (p2 (n - (1 + (i : Int)))) s) = keyM ((r : Int), blk (p2 (n - (r : Int))) s) from e)).1
      omega
  · rw [List.any_eq_true]
    exact ⟨_, List.mem_map.mpr ⟨r - 1, List.mem_range.mpr (by omega), rfl⟩, decide_eq_true ek.symm⟩
theorem sat_won {s r : Nat} {B : List Int} {x : Int} (hx : 1 ≤ x ∧ x ≤ p2 (s : Int)) (hr : 1 ≤ r ∧ r ≤ s) : (decs (s : Int) x "won" r).all (conT (dbr s B s)) = true ↔ r ≤ (FD s B s).count x := by
  rw [show decs (s : Int) x "won" r = (List.range r).map (decE (s : Int) x) by unfold decs; rw [if_neg (by decide)], all_map_range, con_all hx hr.2, ← le_count hx hr.2]
theorem sat_out {s q : Nat} {B : List Int} {x : Int} (hx : 1 ≤ x ∧ x ≤ p2 (s : Int)) (hr : q + 1 ≤ s) : (decs (s : Int) x "out" (q + 1)).all (conT (dbr s B s)) = true ↔ (FD s B s).count x = q := by
  rw [decs_out (by omega), all_map_range]
  have l1 := le_count (s := s) (r := q) (B := B) hx (by omega)
  have l2 := le_count (s := s) (r := q + 1) (B := B) hx (by omega)
  have a := con_all (B := B) hx (r := q) (by omega)
  have last : x ∈ PL s B q → (conT (dbr s B s) ((decE (s : Int) x q).1, V.int (oth (s : Int) ((q + 1 : Nat) : Int) x)) = true ↔ ¬ x ∈ PL s B (q + 1)) := fun m => by
    unfold conT
    rw [dbr_at (by omega), decide_eq_true_iff, ← wat_next (by omega) m, ← wat_half (by omega) hx.1]
    unfold oth
    rw [show (s : Int) - ((q + 1 : Nat) : Int) + 1 = (s : Int) - (q : Int) by omega]
    constructor
    · intro e
      exact V.int.inj (Option.some.inj e)
    · intro e
      rw [e]
  constructor
  · intro z
    have m := a.mp fun i hi => by
      have := z i (by omega)
      rw [if_neg (by omega)] at this
      exact this
    have k := z q (by omega)
    rw [if_pos rfl] at k
    have k := (last m).mp k
    have := l1.mpr m
    have : ¬ q + 1 ≤ (FD s B s).count x := fun t => k (l2.mp t)
    omega
  · intro z i hi
    have m : x ∈ PL s B q := l1.mp (by omega)
    by_cases e : i = q
    · subst e
      rw [if_pos rfl]
      exact (last m).mpr fun t => by
        have := l2.mpr t
        omega
    · rw [if_neg (by omega)]
      exact a.mpr m i (by omega)
theorem sat_true {s : Nat} {B : List Int} {c : Clm} (h : ClmOk (s : Int) c) : satC s B c = truC (FD s B s) c := by
  obtain ⟨w, x, r⟩ := c
  obtain ⟨hw, hx, h1, h2⟩ := h
  apply Bool.eq_iff_iff.mpr
  rcases hw with hw | hw
  · have hw : w = "won" := hw
    subst hw
    refine (sat_won (r := r) (x := x) hx ⟨h1, Int.ofNat_le.mp h2⟩).trans ?_
    show _ ↔ truC (FD s B s) ("won", x, r) = true
    unfold truC
    rw [if_pos rfl, decide_eq_true_iff]
    exact Int.ofNat_le.symm
  · have hw : w = "out" := hw
    subst hw
    match r, h1, h2 with
    | 0, h1, _ => exact absurd (show 1 ≤ 0 from h1) (by decide)
    | q + 1, h1, h2 =>
      refine (sat_out (q := q) (x := x) hx (Int.ofNat_le.mp h2)).trans ?_
      have z : truC (FD s B s) ("out", x, q + 1) = decide ((((FD s B s).count x : Nat) : Int) = ((q + 1 : Nat) : Int) - 1) := if_neg (show ¬ ("out" : Str) = "won" by decide)
      rw [z, decide_eq_true_iff]
      constructor <;> intro e <;> omega
end SC

set_option Elab.async false
set_option linter.all false
set_option maxRecDepth 100000
set_option maxHeartbeats 4000000
/-! repr of nested data; lists of claims; a comprehension over zip. -/
namespace SC
open PySem PySem.Spec PyProof.Rows L2 StX
/-! ### data that repr shows -/
structure Good (w k : Nat) (d : PyData) : Prop where
  lay : d.canLay0 = true
  dep : d.depth ≤ k
  wt : d.weight ≤ w
  sh : d.intsShort 13 = true
  shw : d.showable = true
  nd : d.hasDict = false
theorem good_int {i : Int} (h : i.natAbs ≤ 1000000) : Good 20 0 (.int i) := by
  have e : i.natAbs < 10 ^ 12 := Nat.lt_of_le_of_lt h (by decide)
  have l : i.natAbs.log2 < 20 := by
    by_cases z : i.natAbs = 0
    · rw [z]; decide
    · rw [Nat.log2_lt z]; exact Nat.lt_of_le_of_lt h (by decide)
  refine ⟨rfl, by simp [PyData.depth], ?_, ?_, ?_, rfl⟩
  · simp only [PyData.weight]
    split <;> omega
  · simp only [PyData.intsShort]
    exact decide_eq_true (PyData.shown_int_le e)
  · simp only [PyData.showable]
    exact decide_eq_true (by omega)
theorem good_str {x : Str} {w : Nat} (h : (PyData.str x).canLay0 = true) (hw : x.cps.size ≤ w) : Good w 0 (.str x) := ⟨h, by simp [PyData.depth], by simp only [PyData.weight]; exact hw, rfl, rfl, rfl⟩
theorem good_all {w k : Nat} : ∀ {ds : List PyData}, (∀ d ∈ ds, Good w k d) → PyData.canLayAll0 ds = true ∧ PyData.depthAll ds ≤ k ∧ PyData.weightAll ds ≤ (w + 1) * ds.length ∧ PyData.intsShortAll 13 ds = true ∧ PyData.showableAll ds = true ∧ PyData.hasDictAll ds = false
  | [], _ => ⟨rfl, by simp [PyData.depthAll], by simp [PyData.weightAll], rfl, rfl, rfl⟩
  | d :: ds, h => by
    obtain ⟨a1, a2, a3, a4, a5, a6⟩ := h d (List.mem_cons_self ..)
    obtain ⟨b1, b2, b3, b4, b5, b6⟩ := good_all fun d hd => h d (List.mem_cons_of_mem _ hd)
    refine ⟨by simp only [PyData.canLayAll0, a1, b1, Bool.and_self], ?_, ?_, by simp only [PyData.intsShortAll, a4, b4, Bool.and_self], by simp only [PyData.showableAll, a5, b5, Bool.and_self], by simp only [PyData.hasDictAll, a6, b6, Bool.or_self]⟩
    · simp only [PyData.depthAll]
      omega
    · simp only [PyData.weightAll, List.length_cons, Nat.mul_succ]
      omega
theorem good_list {w k n : Nat} {ds : List PyData} (h : ∀ d ∈ ds, Good w k d) (hn : ds.length ≤ n) : Good ((w + 1) * n) (k + 1) (.list ds) := by
  obtain ⟨b1, b2, b3, b4, b5, b6⟩ := good_all h
  have m := Nat.mul_le_mul_left (w + 1) hn
  refine ⟨by simpa only [PyData.canLay0] using b1, ?_, ?_, by simpa only [PyData.intsShort] using b4, by simpa only [PyData.showable] using b5, by simpa only [PyData.hasDict] using b6⟩
  · simp only [PyData.depth]
    omega
  · simp only [PyData.weight]
    omega
theorem good_tuple {w k n : Nat} {ds : List PyData} (h : ∀ d ∈ ds, Good w k d) (hn : ds.length ≤ n) : Good ((w + 1) * n) (k + 1) (.tuple ds) := by
  obtain ⟨b1, b2, b3, b4, b5, b6⟩ := good_all h
  have m := Nat.mul_le_mul_left (w + 1) hn
  refine ⟨by simpa only [PyData.canLay0] using b1, ?_, ?_, by simpa only [PyData.intsShort] using b4, by simpa only [PyData.showable] using b5, by simpa only [PyData.hasDict] using b6⟩
  · simp only [PyData.depth]
    omega
  · simp only [PyData.weight]
    omega
theorem Good.mono {w k w' k' : Nat} {d : PyData} (g : Good w k d) (h1 : w ≤ w') (h2 : k ≤ k') : Good w' k' d := ⟨g.lay, Nat.le_trans g.dep h2, Nat.le_trans g.wt h1, g.sh, g.shw, g.nd⟩
theorem w_repG {K : PySem.W.Frag} {H : Hp} {Q : VK} {a : Addr} {d : PyData} {w k : Nat} (h : Dp K H (.ref a) d) (g : Good w k d) (h1 : w ≤ 1000000) (h2 : k ≤ 60) (q : Q (.str d.shown) H) : rReprD K [.ref a] H Q := by
  refine w_repr h g.shw g.nd (Nat.le_trans g.dep h2) ?_ q
  refine PyData.shown_fits_of_layable0 (B := 13) (by decide) (by decide) ?_ g.sh
  unfold PyData.layable0
  rw [g.lay, decide_eq_true (Nat.le_trans g.dep (by omega)), decide_eq_true (Nat.le_trans g.wt (Nat.le_trans h1 (by decide)))]
  rfl
theorem shaped_good {w k : Nat} {d : PyData} (g : Good w k d) (h2 : k ≤ 60) : SeqAt.shaped d = true := by
  unfold SeqAt.shaped
  rw [g.lay, decide_eq_true (Nat.le_trans g.dep (by omega))]
  rfl
theorem good_ints {ns : List Int} {n : Nat} (h : ∀ i ∈ ns, i.natAbs ≤ 1000000) (hn : ns.length ≤ n) : Good (21 * n) 1 (.list (ns.map PyData.int)) :=
  good_list (fun d hd => by
    obtain ⟨i, hi, rfl⟩ := List.mem_map.mp hd
    exact good_int (h i hi)) (by rw [List.length_map]; exact hn)
/-! ### claims at addresses -/
def cD (c : Clm) : PyData := .tuple [.str c.1, .int c.2.1, .int c.2.2]
theorem good_clm {n : Int} {c : Clm} (h : ClmOk n c) (hn : n ≤ 100) (hb : c.2.1 ≤ 1000000) : Good 63 1 (cD c) := by
  obtain ⟨hw, hx, hr⟩ := h
  refine (good_tuple (w := 20) (k := 0) (n := 3) (fun d hd => ?_) (Nat.le_refl _)).mono (Nat.le_refl _) (Nat.le_refl _)
  rcases List.mem_cons.mp hd with rfl | hd
  · rcases hw with e | e <;> rw [e] <;> exact good_str (by decide +kernel) (by decide +kernel)
  · rcases List.mem_cons.mp hd with rfl | hd
    · exact good_int (by omega)
    · rw [List.mem_singleton.mp hd]
      exact good_int (by omega)
/-- claims stand at their addresses -/
def Cl (H : Hp) (ps : List (Addr × Clm)) : Prop := ∀ p ∈ ps, H p.1 = some (.tup (cV p.2))
def rV (ps : List (Addr × Clm)) : List V := ps.map fun p => V.ref p.1
theorem Cl.go {H H' : Hp} {ps : List (Addr × Clm)} (h : Cl H ps) (e : Sm H H') : Cl H' ps := fun p hp => e _ _ (h p hp)
theorem Cl.kp {H H' : Hp} {a : Addr} {N : Int} {ps : List (Addr × Clm)} (h : Cl H ps) (s : Src a N H) (g : Kp a H H') : Cl H' ps := fun p hp => g _ _ (fun z => by
  obtain ⟨c0, c1, c2, hs, _⟩ := s
  have := h p hp
  rw [z, hs] at this
  cases this) (h p hp)
theorem Cl.updL {H : Hp} {a : Addr} {o u : HO} {ps : List (Addr × Clm)} (h : Cl H ps) (ha : H a = some o) (no : ∀ vs, o ≠ .tup vs) : Cl (L2.upd H a u) ps := fun p hp => by
  have e := h p hp
  rw [upd_ne fun z => ?_]
  · exact e
  · rw [z, ha] at e
    exact no _ (Option.some.inj e)
theorem Cl.sub {H : Hp} {ps qs : List (Addr × Clm)} (h : Cl H ps) (s : ∀ p ∈ qs, p ∈ ps) : Cl H qs := fun p hp => h p (s p hp)
theorem Cl.snoc {H : Hp} {ps : List (Addr × Clm)} {p : Addr × Clm} (h : Cl H ps) (e : H p.1 = some (.tup (cV p.2))) : Cl H (ps ++ [p]) := fun q hq => by
  rcases List.mem_append.mp hq with hq | hq
  · exact h q hq
  · rw [List.mem_singleton.mp hq]; exact e
theorem Cl.refs {H : Hp} {ps : List (Addr × Clm)} (h : Cl H ps) : RefsTo H (ps.map (·.1)) ((ps.map (·.2)).map cV) := by
  refine ⟨by simp, fun j a v h1 h2 => ?_⟩
  rw [List.getElem?_map] at h1
  obtain ⟨p, hp, rfl⟩ := Option.map_eq_some_iff.mp h1
  rw [List.getElem?_map, List.getElem?_map, hp] at h2
  have z := Option.some.inj h2
  rw [← z]
  exact h p (List.mem_of_getElem? hp)
theorem Cl.dp {K : PySem.W.Frag} {H : Hp} : ∀ {ps : List (Addr × Clm)}, Cl H ps → DpAll K H (rV ps) (ps.map fun p => cD p.2)
  | [], _ => .nil
  | p :: ps, h => .cons (.tup (.inl (.inl (h p (List.mem_cons_self ..)))) (.cons (.str _) (.cons (.int _) (.cons (.int _) .nil)))) (Cl.dp fun q hq => h q (List.mem_cons_of_mem _ hq))
/-! ### a list that is not empty -/
theorem w_ne0D {K : PySem.W.Frag} {H : Hp} {Q : VK} {p q : Addr} (ds : List PyData) (h1 : Dp K H (.ref p) (.list ds)) (h2 : H q = some (.lst [])) (sh : SeqAt.shaped (.list ds) = true) (k : Q (.bl (decide (ds ≠ []))) H) : rNeD K (.ref p) (.ref q) H Q := by
  refine ⟨_, _, h1, .lst (.inl (.inl h2)) .nil, sh, shaped_ints [], ?_⟩
  cases ds with
  | nil =>
    rw [show PyData.eqv (.list ([] : List PyData)) (.list []) = true from eqv_ints []]
    simpa using k
  | cons n r =>
    have e : PyData.eqv (.list (n :: r)) (.list []) = false := by rfl
    rw [e]
    simpa using k
/-! ### a comprehension over zip -/
section
variable {K : PySem.W.Frag} {σ : L2.St} {H : Hp} {Q : VK} {ta : TA} {tt : TT} {te : TE} {vs : List Nat} {j1 j2 : Nat} {g : TG}
theorem w_lcZ (k : ta σ H fun vs1 H1 => ∃ a b xs ys, vs1 = [.ref a, .ref b] ∧ SqL K H1 a xs ∧ SqL K H1 b ys ∧ LcB (Itz K a b) g tt te vs σ H1 Q) : tLc (iZip K ta) g tt te vs σ H Q := k
theorem w_lcz {a b : Addr} {xs ys : List V} (pf : Nat → Bool) (f : Nat → V) (hx : SqL K H a xs) (hy : SqL K H b ys) (hl : ys.length = xs.length) (hz : xs.length ≤ 1000000) (hw : ∀ x y, wipe (((wipe σ vs).set j1 (some x)).set j2 (some y)) vs = wipe σ vs)
    (ht : ∀ (i : Nat) x y H', xs[i]? = some x → ys[i]? = some y → Sm H H' → ∀ R : Bool → Hp → Prop, (∀ H2, Sm H' H2 → R (pf i) H2) → tt (((wipe σ vs).set j1 (some x)).set j2 (some y)) H' R)
    (he : ∀ (i : Nat) x y H', xs[i]? = some x → ys[i]? = some y → pf i = true → Sm H H' → ∀ R : VK, (∀ H2, Sm H' H2 → R (f i) H2) → te (((wipe σ vs).set j1 (some x)).set j2 (some y)) H' R)
    (k : ∀ p H', Sm H H' → H p = none → H' p = some (.lst (((List.range xs.length).filter pf).map f)) → Q (.ref p) H') :
    ∃ a' b' xs ys, [V.ref a, V.ref b] = [.ref a', .ref b'] ∧ SqL K H a' xs ∧ SqL K H b' ys ∧ LcB (Itz K a' b') (gTup K 2 (gCons (gName j1) (gCons (gName j2) gNil))) tt te vs σ H Q := by
  refine ⟨a, b, xs, ys, rfl, hx, hy, fun D hD => ?_⟩
  refine ⟨fun i m H' => m = xs.length - i ∧ i ≤ xs.length ∧ Sm H H' ∧ H' D = some (.lst (((List.range i).filter pf).map f)), ⟨xs.length, rfl, Nat.zero_le _, same_upd hD, upd_same⟩, ?_⟩
  rintro i m H' ⟨rfl, hi, s1, h1⟩
  by_cases c : i < xs.length
  · have ex : xs[i]? = some xs[i] := List.getElem?_eq_getElem c
    have ey : ys[i]? = some (ys[i]'(by omega)) := List.getElem?_eq_getElem _
    refine .inr ⟨⟨xs, ys, _, _, s1.seq hx, s1.seq hy, ex, ey⟩, fun H2 => Sm H H2 ∧ H2 D = some (.lst (((List.range (i + 1)).filter pf).map f)), fun H2 h2 => ⟨xs.length - (i + 1), by omega, rfl, c, h2.1, h2.2⟩, fun v H2 y => ?_⟩
    obtain ⟨T, x, y, rfl, hT, rfl, hax, hay⟩ := y
    have e1 : x = xs[i] := Option.some.inj ((hax xs (s1.seq hx)).symm.trans ex)
    have e2 : y = ys[i]'(by omega) := Option.some.inj ((hay ys (s1.seq hy)).symm.trans ey)
    subst e1 e2
    have nT : D ≠ T := ne_of_none h1 hT
    have sT : Sm H' (L2.upd H' T (.tup [xs[i], ys[i]'(by omega)])) := same_upd hT
    have hd := sT _ _ h1
    refine w_gtup (.inl (.inl upd_same)) rfl (w_gcons (w_gname (w_gcons (w_gname (w_gnil ?_)))))
    generalize L2.upd H' T (.tup [xs[i], ys[i]'(by omega)]) = H3 at *
    have s3 := s1.trans sT
    refine ⟨hw _ _, ht i _ _ H3 ex ey s3 _ fun H4 s4 => ?_⟩
    rw [List.range_succ, List.filter_append, List.filter_cons, List.filter_nil]
    by_cases z : pf i = true
    · rw [if_pos z, if_pos z]
      refine he i _ _ H4 ex ey z (s3.trans s4) _ fun H5 s5 => ⟨_, s5 _ _ (s4 _ _ hd), ?_, sm_upd ((s3.trans s4).trans s5) hD, ?_⟩
      · rw [List.length_map]
        have h1 := List.length_filter_le pf (List.range i)
        rw [List.length_range] at h1
        exact Nat.lt_of_lt_of_le (show _ < 1000000 by omega) (by decide)
      · rw [upd_same, List.map_append]
        rfl
    · rw [if_neg z, if_neg z, List.append_nil]
      exact ⟨s3.trans s4, s4 _ _ hd⟩
  · have e : i = xs.length := by omega
    subst e
    exact .inl ⟨⟨xs, ys, s1.seq hx, s1.seq hy, .inl (Nat.le_refl _)⟩, k D H' s1 hD h1⟩
end
/-- what the comprehension keeps -/
theorem filter_range {α β : Type} (ps : List α) (f : α → β) (pf : α → Bool) (d : α) : (((List.range ps.length).filter fun i => pf (ps.getD i d)).map fun i => f (ps.getD i d)) = (ps.filter pf).map f := by
  have e : ps = (List.range ps.length).map fun i => ps.getD i d := by
    apply List.ext_getElem
    · simp
    · intro i h1 h2
      simp [List.getD_eq_getElem?_getD, h1]
  conv => rhs; rw [e]
  rw [List.filter_map, List.map_map]
  rfl
end SC

set_option Elab.async false
set_option linter.all false
set_option maxRecDepth 100000
set_option maxHeartbeats 4000000
/-! A def that is handed the caught error: its promise where this one object is pinned, its call, isinstance in it. -/
namespace SC
open PySem PySem.Spec PyProof.Rows L2
/-- what a def promises while p's object is pinned -/
structure FnE (P : Program) (w : World) (K : PySem.W.Frag) (mg : Str → Option Value) (base : Heap) (CX : CXT) (k : Nat) (f : Addr) (fd : FuncData) (ps : List Str) (p : Addr × Obj) (sp : Sp) : Prop where
  len : ∀ vs H Q E, sp vs H Q E → vs.length = ps.length
  go : ∀ (A : Around) (outer : List Env) (s : Shared) (H : Hp) (args : Args) (us : List Value) (vs : List V) (Q : VK) (E : XK),
    L2H.RoomH k A → L2H.PinOk outer H s p → Env0 P w K mg base A outer s H → BindsTo s fd args (ps.zip us) → Vals vs us → sp vs H Q E → codeAny (model P w) A (.call (.ref f) args) (CR CX outer P w H s Q E) s
section
variable {P : Program} {w : World} {K : PySem.W.Frag} {mg : Str → Option Value} {base : Heap} {CX : CXT}
theorem okE {x qual : Str} {st : Stmt} {f : Addr} {fd : FuncData} {N ps : List Str} {k : Nat} {p : Addr × Obj} {sp : Sp} (F : Fun K x qual st f fd) (S : FnScope N ps (defScope st)) (len : ∀ vs H Q E, sp vs H Q E → vs.length = ps.length)
    (hb : ∀ (cdv : Value) (A : Around) (outer : List Env) (s : Shared) (H : Hp) (vs : List V) (Q : VK) (E : XK), L2H.RoomH k (A.deeper (envOfC qual (defScope st) s.heap.objs.size f cdv)) → sp vs H Q E →
      ∃ t, PSs (L2H.cxH CX P w K mg base N qual (defScope st) f cdv A outer s H E p) (defBody st) t ∧ t { nx := fun _ H' => Q .non H', rt := Q } (L2.start N vs) H) : FnE P w K mg base CX (k + 1) f fd ps p sp := by
  obtain ⟨oc, od, kV, doc, pm, an, cdv, ct, osl, rfl, lk, hcd⟩ := F.ex
  refine ⟨len, ?_⟩
  intro A outer s H args us vs Q E room pin env bnd rel hsp
  have same_len := len _ _ _ _ hsp
  have inK : K.In s.heap := env.mod.kin.keeps fun b o z => (env.bs b o z).1
  have noLim : s.heap.NoLimit := env.mod.nolimit.keeps fun b o z => (env.bs b o z).1
  have kinds : ∀ y ∈ ps.zip us, (defScope st).names.lookup y.1 = some .local ∨ ((defScope st).names.lookup y.1 = some .cell ∧ ((cellsFrom (s.heap.objs.size + 1) (defScope st).names []).lookup y.1).isSome = true) := by
    rintro ⟨n, v⟩ hy
    rcases S.par n (List.of_mem_zip hy).1 with q | q
    · exact Or.inl q
    · exact Or.inr ⟨q, PySem.W.cellsFrom_some _ _ _ (Or.inl q)⟩
  refine codeAny_call_function room.depth (inK _ _ lk) rfl S.co S.gen rfl
    (PySem.W.codeRec_of inK hcd) (bnd _ _ _ _ ?_)
  refine wpAny_newFunctionEnv_cells S.kind kinds ?_
  intro e he s1 made
  subst he
  refine ⟨noLim.keeps made.toInCall.keep, codeAny_func ?_⟩
  obtain ⟨t, body, reads⟩ := hb cdv A outer s H vs Q E (room.deeper _) hsp
  have J := L2H.inv_startH (CX := CX) (E := E) S pin env same_len rel made
  refine wpAny_mono (body.run [] s1 _ H _ J reads) (fun fl s' ends => ?_) (fun _ _ z => z)
  cases fl with
  | ret u => exact let ⟨v, _, H', J', rv, q⟩ := ends; ⟨v, H', J'.os, J'.bare, J'.base, J'.hok, rv, q⟩
  | next => exact let ⟨_, H', J', q⟩ := ends; ⟨V.non, H', J'.os, J'.bare, J'.base, J'.hok, rfl, q⟩
  | brk => exact let ⟨_, _, _, q⟩ := ends; q.elim
  | cont => exact let ⟨_, _, _, q⟩ := ends; q.elim
end
section
variable {X : Cx} {CX : CXT} {k : Nat} {f : Addr} {fd : FuncData} {ps : List Str} {p : Addr × Obj} {sp : Sp} {E : L2.St → XK} {x : Str} {pq pos : Pos} {e : Expr} {es : List Expr} {t : TA}
theorem pe_callE (F : FnE X.prog X.w X.K X.mg X.base CX k f fd ps p sp) (hr : L2H.RoomH k X.A) (hp : p ∈ X.pn) (hg : Gl X x) (hm : X.mg x = some (.ref f)) (hk : PySem.W.keepIn X.K (.ref f) = true) (hb : Binds X.K fd ps []) (hx : ∀ σ, PassesAt CX X σ (E σ))
    (ha : PA X (e :: es) t) (hdb : (x == ("__debug__" : Str)) = false := by decide) (he : starEach (e :: es) X.env = (false, eval e X.env) :: starEach es X.env := by rfl) (hpl : (backTo pos (starEach es X.env)).any (·.1) = false := by rfl) :
    PE X (.Call (.Name x pq) (e :: es) [] pos) (tCallS sp E t) := by
  constructor
  intro pins s σ H Q I h
  refine wpAny_Call_Name_kw (ld_glob I hg hm ?_ hdb)
  refine PySem.W.callWith_K (h₀ := X.base) I.ok.mod.kin hk (thn (ha.run pos pins s σ H _ I h) ?_) he hpl
  rintro us s1 ⟨vs, H1, I1, r, q⟩
  refine ⟨I1.kIn, ?_⟩
  have hl : us.length = ps.length := r.length.symm.trans (F.len _ _ _ _ q)
  have b := hb s1 us I1.kIn (by simpa using hl)
  rw [List.append_nil] at b
  have pin := I1.pin p (List.mem_append_left _ hp)
  have out : p.1 ∉ frs X.stack := by
    intro hm2
    rcases List.mem_cons.mp (I1.stkSub p.1 hm2) with z | z
    · exact pin.2.2.1 z
    · exact pin.2.2.2.1 z
  refine wpAny_call (codeAny_mono (F.go X.A X.stack s1 H1 ⟨us, []⟩ us vs Q (E σ) hr ⟨pin.1, pin.2.1, out, pin.2.2.2.2⟩ I1.env0 b r q) ?_)
  intro res s' hq
  match res, hq with
  | .error err, hq => exact hx σ pins H1 s1 err s' I1 hq
  | .ok (.ret u), hq => exact I1.after hq
  | .ok .next, hq => exact hq.elim
  | .ok .brk, hq => exact hq.elim
  | .ok .cont, hq => exact hq.elim
/-- isinstance of the pinned error, of the class at D -/
theorem call_isP {D : Addr} (hp : p ∈ X.pn) (C : ExcC X.K D) (hz : Zc (.ref D) none p.2) (hf : ∃ vs, p.2.data = .fields vs) : CallR X (.builtin "isinstance") (rIsE X.K D p.1) := by
  intro pins s σ H xs us Q I r h
  obtain ⟨c, cv, b, rfl, only, kit, q⟩ := h
  match us, r with
  | _, .cons rx (.cons rt .nil) =>
    cases rx
    cases only _ rt
    have there := (I.pin p (List.mem_append_left _ hp)).1
    obtain ⟨a, ⟨oc, od, oda, osl⟩⟩ := p
    obtain ⟨vs, hv⟩ := hf
    obtain ⟨z1, z2⟩ := hz
    dsimp only at z1 z2 hv there
    subst z1 z2 hv
    exact PySem.W.kia_one (PySem.W.handS_kitx_exc C.hg C.hk C.hs C.hd C.ha C.hn C.ht C.hm) I.kIn ⟨there, rfl, rfl, trivial⟩ kit
      (fun z => nomatch z) fun tk => ⟨.bl b, H, I.kept (t' := tk) fun _ _ z => z, rfl, q⟩
end
section
variable {K : PySem.W.Frag} {H : Hp} {Q : VK} {a D C : Addr} {b : Bool}
theorem w_isEr (h : PySem.W.kitOne K (.ref D) (.ref C) = some b) (k : Q (.bl b) H) : rIsE K D a [.ref a, .ref C] H Q := ⟨_, .ref C, b, rfl, fun u r => by cases r; rfl, h, k⟩
theorem w_isEt {T : String} (h : PySem.W.kitOne K (.ref D) (.type T) = some b) (k : Q (.bl b) H) : rIsE K D a [.ref a, .ty T] H Q := ⟨_, .type T, b, rfl, fun u r => by cases r; rfl, h, k⟩
end
end SC

set_option Elab.async false
set_option linter.all false
set_option maxRecDepth 100000
set_option maxHeartbeats 4000000
set_option exponentiation.threshold 2000
/-! Errors caught; repr of lists that hold values of any kind. -/
namespace SC
open PySem PySem.Spec PyProof.Rows L2 StX
/-! ### lists whose address is told to be no table of modules -/
def NewLS (xs : List V) (H : Hp) (Q : VK) : Prop := xs.length ≤ sizeLine ∧ ∀ p, H p = none → p ≠ sysModules → Q (.ref p) (L2.upd H p (.lst xs))
def tLstS (t : TA) : TE := fun σ H Q => t σ H fun xs H1 => NewLS xs H1 Q
section
variable {X : Cx} {es : List Expr} {t : TA} {pos : Pos}
theorem pe_lstS (h : PA X es t) : PE X (.List es pos) (tLstS t) := by
  refine ⟨fun pins s σ H Q I hq => ?_⟩
  refine wpAny_List_spliced (thn (h.run pos pins s σ H _ I hq) fun us s1 ⟨xs, H1, I1, r, z, q⟩ => ⟨by rw [← r.length]; exact z, ?_⟩)
  have hf : H1 s1.heap.objs.size = none := I1.hok.fresh (Nat.le_refl _)
  refine ⟨.ref s1.heap.objs.size, L2.upd H1 s1.heap.objs.size (.lst xs), I1.laid (t' := s1.toks) (fun b u e => Heap.get?_push_of_some _ e) (Nat.le_refl _) ?_, rfl, q _ hf (Nat.ne_of_gt I1.big)⟩
  exact ⟨z, us, 0, r, Heap.get?_push_size _ rfl⟩
end
theorem w_lstS {σ : L2.St} {H : Hp} {Q : VK} {t : TA} (k : t σ H fun xs H1 => NewLS xs H1 Q) : tLstS t σ H Q := k
theorem w_newLS {H : Hp} {Q : VK} {xs : List V} (hz : xs.length ≤ 1000000) (k : ∀ p H', Sm H H' → H p = none → p ≠ sysModules → H' p = some (.lst xs) → Q (.ref p) H') : NewLS xs H Q := ⟨Nat.le_trans hz (by decide), fun p hp ns => k p _ (same_upd hp) hp ns upd_same⟩
/-! ### what a value of any kind reads as; av: addresses that it keeps clear of -/
mutual
inductive Dq (av : List Addr) (H : Hp) : V → PyData → Prop
  | non : Dq av H .non .none
  | bl (b : Bool) : Dq av H (.bl b) (.bool b)
  | int (i : Int) : Dq av H (.int i) (.int i)
  | str (x : Str) : Dq av H (.str x) (.str x)
  | lst {a : Addr} {xs : List V} {ds : List PyData} : H a = some (.lst xs) → a ∉ av → a ≠ sysModules → DqAll av H xs ds → Dq av H (.ref a) (.list ds)
  | tup {a : Addr} {xs : List V} {ds : List PyData} : H a = some (.tup xs) → a ∉ av → DqAll av H xs ds → Dq av H (.ref a) (.tuple ds)
  | dic {a : Addr} : H a = some (.dK []) → a ∉ av → Dq av H (.ref a) (.dict [])
inductive DqAll (av : List Addr) (H : Hp) : List V → List PyData → Prop
  | nil : DqAll av H [] []
  | cons {v : V} {vs : List V} {d : PyData} {ds : List PyData} : Dq av H v d → DqAll av H vs ds → DqAll av H (v :: vs) (d :: ds)
end
mutual
theorem Dq.go {av av' : List Addr} {H H' : Hp} (sub : ∀ b ∈ av', b ∈ av) (s : ∀ b o [NT o], b ∉ av → H b = some o → H' b = some o) : ∀ {v : V} {d : PyData}, Dq av H v d → Dq av' H' v d
  | _, _, .non => .non
  | _, _, .bl b => .bl b
  | _, _, .int i => .int i
  | _, _, .str x => .str x
  | _, _, .lst h m n r => .lst (s _ _ m h) (fun z => m (sub _ z)) n (DqAll.go sub s r)
  | _, _, .tup h m r => .tup (s _ _ m h) (fun z => m (sub _ z)) (DqAll.go sub s r)
  | _, _, .dic h m => .dic (s _ _ m h) (fun z => m (sub _ z))
theorem DqAll.go {av av' : List Addr} {H H' : Hp} (sub : ∀ b ∈ av', b ∈ av) (s : ∀ b o [NT o], b ∉ av → H b = some o → H' b = some o) : ∀ {vs : List V} {ds : List PyData}, DqAll av H vs ds → DqAll av' H' vs ds
  | _, _, .nil => .nil
  | _, _, .cons h r => .cons (Dq.go sub s h) (DqAll.go sub s r)
end
theorem Dq.sm {av : List Addr} {H H' : Hp} {v : V} {d : PyData} (h : Dq av H v d) (s : Sm H H') : Dq av H' v d := h.go (fun _ z => z) fun b o _ _ e => s b o e
theorem Dq.kp {av : List Addr} {H H' : Hp} {v : V} {d : PyData} {a : Addr} (h : Dq av H v d) (g : Kp a H H') (m : a ∈ av) : Dq av H' v d := h.go (fun _ z => z) fun b o _ n e => g b o (fun z => n (z ▸ m)) e
theorem Dq.updL {av : List Addr} {H : Hp} {v : V} {d : PyData} {p : Addr} {o : HO} (h : Dq av H v d) (m : p ∈ av) : Dq av (L2.upd H p o) v d := h.go (fun _ z => z) fun b o _ n e => by
  have z : b ≠ p := fun z => n (by rw [z]; exact m)
  rw [upd_ne z]
  exact e
theorem Dq.sub {av av' : List Addr} {H : Hp} {v : V} {d : PyData} (h : Dq av H v d) (s : ∀ b ∈ av', b ∈ av) : Dq av' H v d := h.go s fun b o _ _ e => e
theorem Dq.kd {av : List Addr} {H : Hp} {v : V} {d : PyData} (h : Dq av H v d) : Kd H v := by
  cases h with
  | non => exact .non
  | bl b => exact .bl b
  | int i => exact .int i
  | str x => exact .str x
  | lst h _ _ _ => exact .lst h
  | tup h _ _ => exact .tup h
  | dic h _ => exact .dic h
section
variable {X : Cx} {pins : List (Addr × Obj)} {σ : L2.St} {H : Hp} {s : Shared} {av : List Addr}
mutual
theorem Dq.reads (I : Inv X pins σ H s) : ∀ (d : PyData) (v : V) (u : Value), Dq av H v d → RelV v u → ∃ as, Reads s.heap u d as ∧ sysModules ∉ as
  | .none, _, _, h, r => by
    cases h
    cases r
    exact ⟨_, Reads.none, by simp⟩
  | .bool b, _, _, h, r => by
    cases h
    cases r
    exact ⟨_, Reads.bool b, by simp⟩
  | .int i, _, _, h, r => by
    cases h
    obtain ⟨t, rfl⟩ := r
    exact ⟨_, Reads.int i t, by simp⟩
  | .str x, _, _, h, r => by
    cases h
    obtain ⟨t, rfl⟩ := r
    exact ⟨_, Reads.str x t, by simp⟩
  | .list ds, _, _, h, r => by
    cases h with
    | lst hs hm hn ha =>
      cases r
      obtain ⟨its, rv, ⟨o, n, ho, hc, _, hd⟩, _⟩ := I.list (.inl (.inl hs))
      obtain ⟨as, hr, na⟩ := DqAll.reads I ds _ its ha rv
      exact ⟨_, Reads.list ho hc hd hr, by
        intro z
        rcases List.mem_cons.mp z with z | z
        · exact hn z.symm
        · exact na z⟩
  | .tuple ds, _, _, h, r => by
    cases h with
    | tup hs hm ha =>
      cases r
      obtain ⟨its, rv, ⟨o, ho, hc, n, hd⟩, _⟩ := I.tuple (.inl (.inl hs))
      obtain ⟨as, hr, na⟩ := DqAll.reads I ds _ its ha rv
      exact ⟨_, Reads.tuple ho hc hd hr, na⟩
  | .dict kvs, v, u, h, r => by
    cases h with
    | @dic a hs hm =>
      cases r
      obtain ⟨_, hn, vs, rk, o, es, ep, h1, h2, h3, h4, h5, h6⟩ := dk_of I.hok hs
      have hn : ¬ (a == sysModules) = true := by rw [hn]; exact Bool.false_ne_true
      cases rk
      have e : es.toList = [] := by
        cases q : es.toList with
        | nil => rfl
        | cons x r =>
          rw [q] at h5
          cases h5
      refine ⟨_, Reads.dict (as := []) (bs := []) h1 h2.1 h3 (by rw [e]; exact .nil) (by rw [e]; exact .nil), ?_⟩
      intro z
      have z : sysModules = a := by simpa using z
      exact hn (beq_iff_eq.mpr z.symm)
theorem DqAll.reads (I : Inv X pins σ H s) : ∀ (ds : List PyData) (vs : List V) (us : List Value), DqAll av H vs ds → Vals vs us → ∃ as, ReadsAll s.heap us ds as ∧ sysModules ∉ as
  | [], _, _, h, r => by
    cases h
    cases r
    exact ⟨_, ReadsAll.nil, by simp⟩
  | d :: ds, _, _, h, r => by
    cases h with
    | cons h1 h2 =>
      cases r with
      | cons r1 r2 =>
        obtain ⟨as, q1, n1⟩ := Dq.reads I d _ _ h1 r1
        obtain ⟨bs, q2, n2⟩ := DqAll.reads I ds _ _ h2 r2
        exact ⟨_, ReadsAll.cons q1 q2, fun z => (List.mem_append.mp z).elim n1 n2⟩
end
end
/-- repr of a list of values of any kind -/
def rReprQ : List V → Hp → VK → Prop := fun xs H Q => ∃ (a : Addr) (d : PyData) (av : List Addr), xs = [.ref a] ∧ Dq av H (.ref a) d ∧ d.showable = true ∧ d.depth ≤ 60 ∧ d.shown.length ≤ sizeLine ∧ Q (.str d.shown) H
theorem call_reprQ {X : Cx} (hg : X.A.guards = some []) (hu : X.A.units + 64 < cLine) : CallR X (.builtin "repr") rReprQ := by
  intro pins s σ H xs us Q I r h
  obtain ⟨a, d, av, rfl, hd, sh, hz, hl, q⟩ := h
  obtain rfl := Vals.ref1 r
  obtain ⟨as, rd, na⟩ := Dq.reads I d _ _ hd (show RelV (.ref a) (.ref a) from rfl)
  exact PySem.repr_of_reads' rd sh (fun _ => na) hg (by omega) (fun _ _ e => e) (fun h' u tk hk => ⟨.str d.shown, H, I.kept hk, ⟨u, rfl⟩, q⟩) hl
/-- data that repr shows, ints of some hundred digits -/
structure GoodQ (w k : Nat) (d : PyData) : Prop where
  sh : d.leavesShort 1921 = true
  dep : d.depth ≤ k
  wt : d.weight ≤ w
  shw : d.showable = true
theorem goodq_int {i : Int} (h : i.natAbs ≤ 2 ^ 400) : GoodQ 402 0 (.int i) := by
  have l : i.natAbs.log2 < 401 := by
    by_cases z : i.natAbs = 0
    · rw [z]; decide
    · rw [Nat.log2_lt z]; exact Nat.lt_of_le_of_lt h (by decide)
  refine ⟨?_, by simp [PyData.depth], ?_, ?_⟩
  · simp only [PyData.leavesShort]
    exact decide_eq_true (int_text_len_1921 (by omega))
  · simp only [PyData.weight]
    split <;> omega
  · simp only [PyData.showable]
    exact decide_eq_true (by omega)
theorem goodq_all {w k : Nat} : ∀ {ds : List PyData}, (∀ d ∈ ds, GoodQ w k d) → PyData.leavesShortAll 1921 ds = true ∧ PyData.depthAll ds ≤ k ∧ PyData.weightAll ds ≤ (w + 1) * ds.length ∧ PyData.showableAll ds = true
  | [], _ => ⟨rfl, by simp [PyData.depthAll], by simp [PyData.weightAll], rfl⟩
  | d :: ds, h => by
    obtain ⟨a1, a2, a3, a4⟩ := h d (List.mem_cons_self ..)
    obtain ⟨b1, b2, b3, b4⟩ := goodq_all fun d hd => h d (List.mem_cons_of_mem _ hd)
    refine ⟨by simp only [PyData.leavesShortAll, a1, b1, Bool.and_self], ?_, ?_, by simp only [PyData.showableAll, a4, b4, Bool.and_self]⟩
    · simp only [PyData.depthAll]
      omega
    · simp only [PyData.weightAll, List.length_cons, Nat.mul_succ]
      omega
theorem goodq_list {w k n : Nat} {ds : List PyData} (h : ∀ d ∈ ds, GoodQ w k d) (hn : ds.length ≤ n) : GoodQ ((w + 1) * n) (k + 1) (.list ds) := by
  obtain ⟨b1, b2, b3, b4⟩ := goodq_all h
  have m := Nat.mul_le_mul_left (w + 1) hn
  refine ⟨by simpa only [PyData.leavesShort] using b1, ?_, ?_, by simpa only [PyData.showable] using b4⟩
  · simp only [PyData.depth]
    omega
  · simp only [PyData.weight]
    omega
theorem goodq_tuple {w k n : Nat} {ds : List PyData} (h : ∀ d ∈ ds, GoodQ w k d) (hn : ds.length ≤ n) : GoodQ ((w + 1) * n) (k + 1) (.tuple ds) := by
  obtain ⟨b1, b2, b3, b4⟩ := goodq_all h
  have m := Nat.mul_le_mul_left (w + 1) hn
  refine ⟨by simpa only [PyData.leavesShort] using b1, ?_, ?_, by simpa only [PyData.showable] using b4⟩
  · simp only [PyData.depth]
    omega
  · simp only [PyData.weight]
    omega
theorem GoodQ.mono {w k w' k' : Nat} {d : PyData} (g : GoodQ w k d) (h1 : w ≤ w') (h2 : k ≤ k') : GoodQ w' k' d := ⟨g.sh, Nat.le_trans g.dep h2, Nat.le_trans g.wt h1, g.shw⟩
theorem w_repQ {H : Hp} {Q : VK} {a : Addr} {d : PyData} {w k : Nat} {av : List Addr} (h : Dq av H (.ref a) d) (g : GoodQ w k d) (h1 : w ≤ 8000) (h2 : k ≤ 60) (q : Q (.str d.shown) H) : rReprQ [.ref a] H Q := by
  refine ⟨a, d, av, rfl, h, g.shw, Nat.le_trans g.dep h2, ?_, q⟩
  have z := PyData.shown_le 1921 (by decide) d g.sh
  have y := Nat.mul_le_mul_left (1921 + 2) (Nat.le_trans g.wt h1)
  have e : sizeLine = 16777216 := by decide
  omega
/-! ### what the classes of errors say -/
/-- what is asked of the class at place i among Cs, whose first is the class of all own errors -/
def excFacts (K : PySem.W.Frag) (Cs : List Addr) (i : Nat) : Bool :=
  (PySem.W.findIn K (.ref (Cs.getD i 0)) "__getattribute__" == some (some (.builtin "BaseException.__getattribute__"))) && (PySem.W.findIn K (.ref (Cs.getD i 0)) "__getattr__" == some none) && (PySem.W.subIn K (.ref (Cs.getD i 0)) (.type "BaseException") == some true) && PySem.W.hasDictIn K (Cs.getD i 0) &&
  (PySem.W.findIn K (.ref (Cs.getD i 0)) "__class__" == some (some (.builtin "object.__class__"))) && (PySem.W.specialIn K (.builtin "object.__class__") "__get__" == some (some (.builtin "getset_descriptor.__get__"))) && (PySem.W.takesIn K (.builtin "object.__class__") == some true) && (PySem.W.mroIn K (Cs.getD i 0) (.type "object") == some true) &&
  (PySem.W.exmOne K (.ref (Cs.getD i 0)) (.ref (Cs.getD 0 0)) == some true) && (PySem.W.kitOne K (.ref (Cs.getD i 0)) (.type "ValueError") == some true) && (List.range Cs.length).all fun j => PySem.W.kitOne K (.ref (Cs.getD i 0)) (.ref (Cs.getD j 0)) == some (j == i || j == 0)
structure ExF (K : PySem.W.Frag) (Cs : List Addr) (i : Nat) : Prop where
  c : ExcC K (Cs.getD i 0)
  m : PySem.W.exmOne K (.ref (Cs.getD i 0)) (.ref (Cs.getD 0 0)) = some true
  v : PySem.W.kitOne K (.ref (Cs.getD i 0)) (.type "ValueError") = some true
  k : ∀ j, j < Cs.length → PySem.W.kitOne K (.ref (Cs.getD i 0)) (.ref (Cs.getD j 0)) = some (j == i || j == 0)
theorem exF_of {K : PySem.W.Frag} {Cs : List Addr} {i : Nat} (h : excFacts K Cs i = true) : ExF K Cs i := by
  unfold excFacts at h
  simp only [Bool.and_eq_true, beq_iff_eq, List.all_eq_true, List.mem_range] at h
  obtain ⟨⟨⟨⟨⟨⟨⟨⟨⟨⟨h1, h2⟩, h3⟩, h4⟩, h5⟩, h6⟩, h7⟩, h8⟩, h9⟩, h10⟩, h11⟩ := h
  exact ⟨⟨h1, h2, h3, h4, h5, h6, h7, h8⟩, h9, h10, h11⟩
theorem room_suite {j k : Nat} {A : Around} {x : Option Value} (hr : Room k A) (h : j ≤ k) : L2H.RoomH j (A.mark x) := ⟨(hr.mono h).dp, (hr.mono h).un⟩
/-! ### calls that may raise, by keywords; a call that lets nothing out -/
theorem pass0At {X : Cx} {σ : L2.St} {E : XK} : PassesAt CX0 X σ E := fun _ _ _ _ _ _ h => h.elim
def tCallNS (n m : Nat) (sp : Sp) (gV : List V → List V → List V) (E : L2.St → XK) (t tk : TA) : TE := fun σ H Q => t σ H fun vs H1 => tk σ H1 fun zs H2 => CallN n m sp gV (E σ) vs zs H2 Q
section
variable {X : Cx} {CX : CXT} {k n : Nat} {f : Addr} {fd : FuncData} {ps ks : List Str} {sp : Sp} {E : L2.St → XK} {x : Str} {p pos : Pos} {e : Expr} {es : List Expr} {kws : List Keyword} {t tk : TA} {g : List Value → List Value → List Value} {gV : List V → List V → List V}
theorem run_fnNS {pins : List (Addr × Obj)} {σ : L2.St} {H : Hp} {s : Shared} {Q : VK} {us ws : List Value} {vs zs : List V} (F : FnOk X.prog X.w X.K X.mg X.base CX k f fd ps sp) (hr : Room k X.A) (hb : KBn X.K fd ps n ks g gV) (hx : PassesAt CX X σ (E σ))
    (I : Inv X pins σ H s) (r : Vals vs us) (rz : Vals zs ws) (l1 : vs.length = n) (l2 : zs.length = ks.length) (h : sp (gV vs zs) H Q (E σ)) : wpAny (model X.prog X.w) X.A (call (.ref f) us (ks.zip ws)) (EP X pins σ Q) X.xe s := by
  have r2 := hb.rel r rz
  refine wpAny_call (codeAny_mono (F.run X.A X.stack s H ⟨us, ks.zip ws⟩ (g us ws) (gV vs zs) Q (E σ) hr I.env0 (hb.to s us ws I.kIn (r.length.symm.trans l1) (rz.length.symm.trans l2)) r2 h) fun r s' hq => ?_)
  cases r with
  | error e => exact hx pins H s e s' I hq
  | ok fl =>
    cases fl with
    | ret u => exact I.after hq
    | next => exact False.elim hq
    | brk => exact False.elim hq
    | cont => exact False.elim hq
theorem pe_callN0S (F : FnOk X.prog X.w X.K X.mg X.base CX k f fd ps sp) (hr : Room k X.A) (hg : Gl X x) (hm : X.mg x = some (.ref f)) (hk : PySem.W.keepIn X.K (.ref f) = true) (hb : KBn X.K fd ps 0 ks g gV) (hx : ∀ σ, PassesAt CX X σ (E σ))
    (hkw : PK X kws tk) (hall : (backToKw pos (keywordEach kws X.env)).all (·.1.isSome) = true := by rfl) (hks : (backToKw pos (keywordEach kws X.env)).filterMap (·.1) = ks := by rfl)
    (hdb : (x == ("__debug__" : Str)) = false := by decide)
    (hpl : ((backTo pos (starEach [] X.env)).any (·.1) || (backToKw pos (keywordEach kws X.env)).any (·.1.isNone)) = false := by rfl) :
    PE X (.Call (.Name x p) [] kws pos) (tCallNS 0 ks.length sp gV E tNil tk) := by
  refine ⟨fun pins s σ H Q I h => ?_⟩
  refine wpAny_Call_Name_kw (ld_glob I hg hm ?_ hdb)
  refine PySem.W.callWith_KW0 (h₀ := X.base) I.ok.mod.kin hk hall ?_ hpl
  refine thn (hkw.run pos pins s σ H _ I h) fun ws s2 ⟨zs, H2, I2, rz, l1, l2, q2⟩ => ⟨I2.kIn, ?_⟩
  rw [hks]
  exact run_fnNS (us := []) F hr hb (hx σ) I2 .nil rz l1 l2 q2
end
section
variable {σ : L2.St} {H : Hp} {Q : VK} {sp : Sp} {E : L2.St → XK} {t tk : TA} {n m : Nat} {gV : List V → List V → List V}
theorem w_callNS (k : t σ H fun vs H1 => tk σ H1 fun zs H2 => CallN n m sp gV (E σ) vs zs H2 Q) : tCallNS n m sp gV E t tk σ H Q := k
theorem w_callSS (k : t σ H fun vs H1 => sp vs H1 Q (E σ)) : L2.tCallS sp E t σ H Q := k
end
theorem out_ifo {c : Bool} {C : Addr} {Q : VK} {E : XK} {H : Hp} {o : Out} (h1 : c = true → o.to Q E H) (h2 : c = false → E (.ref C) none H) : (if c = true then o else .err C).to Q E H := by
  cases c with
  | true => exact h1 rfl
  | false => exact h2 rfl
theorem out_val {Q : VK} {E : XK} {H : Hp} {v : V} (h : Q v H) : (Out.val v).to Q E H := h
theorem w_setL' {p : Addr} {xs ys : List V} {i : Int} {n : Nat} {v : V} {H : Hp} {R : Hp → Prop} (h : H p = some (.lst xs)) (hj : ixN xs.length i = some n) (e : xs.set n v = ys) (k : R (L2.upd H p (.lst ys))) : rSetL (.ref p) (.int i) v H R := w_setL h hj (by rw [e]; exact k)
/-! ### checks of a value from some int on -/
def fromI (v : V) (l : Int) : Bool := match v with
  | .int i => decide (l ≤ i)
  | _ => false
theorem fromI_int {v : V} {l : Int} (e : fromI v l = true) : ∃ i, v = .int i ∧ l ≤ i := by
  cases v with
  | int i => exact ⟨i, rfl, of_decide_eq_true e⟩
  | _ => cases e
def SpFrom : Sp := fun vs H Q _ => ∃ v l, vs = [v, .int l] ∧ Kd H v ∧ ∀ H', Sm H H' → Q (.bl (fromI v l)) H'
theorem w_from {H : Hp} {Q : VK} {E : XK} {v : V} {l : Int} (hv : Kd H v) (q : ∀ H', Sm H H' → Q (.bl (fromI v l)) H') : SpFrom ([v, .int l] ++ []) H Q E := ⟨v, l, rfl, hv, q⟩
/-- a value that is no int from l on -/
def Odd (v : V) (l : Int) : Prop := ∀ i, v = .int i → i < l
theorem Odd.from {v : V} {l : Int} (h : Odd v l) : fromI v l = false := by
  cases v with
  | int i => exact decide_eq_false (by have := h i rfl; omega)
  | _ => rfl
theorem Odd.inR {v : V} {l x : Int} (h : Odd v l) : SC.inR v l x = false := by
  cases v with
  | int i => exact decide_eq_false (by have := h i rfl; omega)
  | _ => rfl
/-! ### a caught error's name -/
section
variable {K : PySem.W.Frag} {H : Hp} {Q : VK} {a : Addr} {Cs : List Addr} {i : Nat}
theorem w_isX (f : ExF K Cs i) (j : Nat) {b : Bool} (hj : j < Cs.length) (hb : (j == i || j == 0) = b) (k : Q (.bl b) H) : rIsE K (Cs.getD i 0) a [.ref a, .ref (Cs.getD j 0)] H Q := w_isEr (by rw [f.k j hj, hb]) k
theorem w_isXv (f : ExF K Cs i) (k : Q (.bl true) H) : rIsE K (Cs.getD i 0) a [.ref a, .ty "ValueError"] H Q := w_isEt f.v k
end
/-! ### the names of all classes of a caught error -/
def nmL (nm : List Str) (i j : Nat) : List V := if i ≤ j then [V.str (nm.getD i "")] else []
theorem nmL_step {nm : List Str} {i j : Nat} : nmL nm i j ++ (List.replicate (if (j + 1 == i || j + 1 == 0) = true then (1 : Int) else 0).toNat [V.str (nm.getD (j + 1) "")]).flatten = nmL nm i (j + 1) := by
  unfold nmL
  by_cases c : j + 1 = i
  · subst c
    rw [if_neg (by omega), if_pos (Nat.le_refl _)]
    have e : (j + 1 == j + 1 || j + 1 == 0) = true := by simp
    rw [e, if_pos rfl]
    rfl
  · have e : (j + 1 == i || j + 1 == 0) = false := by simp [c]
    rw [e, if_neg Bool.false_ne_true]
    by_cases d : i ≤ j
    · rw [if_pos d, if_pos (by omega)]
      simp
    · rw [if_neg d, if_neg (by omega)]
      simp
section
variable {K : PySem.W.Frag} {H : Hp} {a L : Addr} {Cs : List Addr} {i : Nat} {σ : L2.St} {D : Ends} {nm : List Str}
theorem w_kfirst {x : Str} {c : Addr} (f : ExF K Cs i) (hi : 0 < i) (hj : 1 < Cs.length) (hx : nm.getD 1 "" = x) (hc : Cs.getD 1 0 = c) {y1 y2 : Option V} (k : ∀ L' H', Sm H H' → H L' = none → H' L' = some (.lst (nmL nm i 1)) → D.nx [some (.ref a), some (.ref L'), y2] H') :
    tAsg (tOp rRep (tLst (tCons (tC (.str x)) tNil)) (tCB rInt1 (tCons (tCB (rIsE K (Cs.getD i 0) a) (tCons (tVar 0) (tCons (tC (.ref c)) tNil))) tNil))) (gName 1) D [some (.ref a), y1, y2] H := by
  subst hx hc
  refine w_asg ?_
  refine w_op ?_
  refine w_lst' ?_
  refine w_cons ?_
  refine w_c ?_
  refine w_nil ?_
  refine w_newZ (by simp) fun L1 H1 e1 f1 h1 => ?_
  refine w_cb ?_
  refine w_cons ?_
  refine w_cb ?_
  refine w_cons ?_
  refine w_var rfl ?_
  refine w_cons ?_
  refine w_c ?_
  refine w_nil ?_
  refine w_isX f 1 hj rfl ?_
  refine w_nil ?_
  refine w_intB ?_
  have o : ∀ b : Bool, (if b = true then (1 : Int) else 0) = 0 ∨ (if b = true then (1 : Int) else 0) = 1 := fun b => by cases b <;> simp
  refine w_rep h1 ?_ ?_ ?_ fun L2 H2 e2 f2 h2 => ?_
  · rcases o (1 == i || 1 == 0) with e | e <;> rw [e] <;> decide
  · rcases o (1 == i || 1 == 0) with e | e <;> rw [e] <;> decide
  · rcases o (1 == i || 1 == 0) with e | e <;> rw [e] <;> simp
  · refine w_gname (k L2 H2 (e1.trans e2) (e1.fr _ f2) ?_)
    have z := nmL_step (nm := nm) (i := i) (j := 0)
    rw [show nmL nm i 0 = [] from if_neg (by omega), List.nil_append] at z
    rw [h2, ← z]
theorem w_kstep {x : Str} {c : Addr} (f : ExF K Cs i) (j j' : Nat) (hjj : j + 1 = j') (hj : j' < Cs.length) (hx : nm.getD j' "" = x) (hc : Cs.getD j' 0 = c) {y2 : Option V} (hL : H L = some (.lst (nmL nm i j))) (k : ∀ L' H', Sm H H' → H L' = none → H' L' = some (.lst (nmL nm i j')) → D.nx [some (.ref a), some (.ref L'), y2] H') :
    tAsg (tOp rCat (tVar 1) (tOp rRep (tLst (tCons (tC (.str x)) tNil)) (tCB rInt1 (tCons (tCB (rIsE K (Cs.getD i 0) a) (tCons (tVar 0) (tCons (tC (.ref c)) tNil))) tNil)))) (gName 1) D [some (.ref a), some (.ref L), y2] H := by
  subst hx hc hjj
  refine w_asg ?_
  refine w_op ?_
  refine w_var rfl ?_
  refine w_op ?_
  refine w_lst' ?_
  refine w_cons ?_
  refine w_c ?_
  refine w_nil ?_
  refine w_newZ (by simp) fun L1 H1 e1 f1 g1 => ?_
  refine w_cb ?_
  refine w_cons ?_
  refine w_cb ?_
  refine w_cons ?_
  refine w_var rfl ?_
  refine w_cons ?_
  refine w_c ?_
  refine w_nil ?_
  refine w_isX f (j + 1) hj rfl ?_
  refine w_nil ?_
  refine w_intB ?_
  have o : ∀ b : Bool, (if b = true then (1 : Int) else 0) = 0 ∨ (if b = true then (1 : Int) else 0) = 1 := fun b => by cases b <;> simp
  have ll : (nmL nm i j).length ≤ 1 := by unfold nmL; split <;> simp
  refine w_rep g1 ?_ ?_ ?_ fun L2 H2 e2 f2 g2 => ?_
  · rcases o (j + 1 == i || j + 1 == 0) with e | e <;> rw [e] <;> decide
  · rcases o (j + 1 == i || j + 1 == 0) with e | e <;> rw [e] <;> decide
  · rcases o (j + 1 == i || j + 1 == 0) with e | e <;> rw [e] <;> simp
  refine w_cat ((e1.trans e2) _ _ hL) g2 ?_ fun L3 H3 e3 f3 g3 => ?_
  · rcases o (j + 1 == i || j + 1 == 0) with e | e <;> rw [e] <;> simp <;> omega
  · refine w_gname (k L3 H3 ((e1.trans e2).trans e3) ((e1.trans e2).fr _ f3) ?_)
    rw [g3, nmL_step]
end
end SC

set_option Elab.async false
set_option linter.all false
set_option maxRecDepth 100000
set_option maxHeartbeats 4000000
/-! Claims by what they decide, place by place; small cups by all results. -/
namespace SC
open PySem PySem.Spec PyProof.Rows L2 StX
/-- the match of round i + 1 that a claim decides, and the half that wins it -/
def ckey (n : Int) (c : Clm) (i : Nat) : Int := blk (p2 (n - (1 + (i : Int)))) c.2.1
def cval (n : Int) (c : Clm) (i : Nat) : Int := if c.1 = "out" ∧ i + 1 = c.2.2 then oth n ((i + 1 : Nat) : Int) c.2.1 else blk (p2 (n - (1 + (i : Int)) + 1)) c.2.1
def cEnt (n : Int) (c : Clm) (i : Nat) : List Key × V := (keyM (1 + (i : Int), ckey n c i), .int (cval n c i))
theorem decs_ent {n : Int} {c : Clm} (h : 1 ≤ c.2.2) : decs n c.2.1 c.1 c.2.2 = (List.range c.2.2).map (cEnt n c) := by
  obtain ⟨w, s, r⟩ := c
  by_cases o : w = "out"
  · subst o
    show decs n s "out" r = _
    rw [decs_out h]
    refine List.map_congr_left fun i hi => ?_
    show _ = (_, V.int (if ("out" : Str) = "out" ∧ i + 1 = r then _ else _))
    by_cases e : i + 1 = r
    · rw [if_pos e, if_pos ⟨rfl, e⟩]
      show _ = (_, V.int (oth n ((i + 1 : Nat) : Int) s))
      rw [e]
      rfl
    · rw [if_neg e, if_neg fun z => e z.2]
      rfl
  · show decs n s w r = _
    unfold decs
    rw [if_neg o]
    refine List.map_congr_left fun i hi => ?_
    show _ = (_, V.int (if w = "out" ∧ i + 1 = r then _ else _))
    rw [if_neg fun z => o z.1]
    rfl
theorem ent_nd {n : Int} {c : Clm} {r : Nat} : (((List.range r).map (cEnt n c)).map (·.1)).Nodup := by
  rw [List.map_map]
  refine List.Pairwise.map _ (fun a b (hab : a ≠ b) e => ?_) List.nodup_range
  have z := (keyM_inj (show keyM (1 + (a : Int), ckey n c a) = keyM (1 + (b : Int), ckey n c b) from e)).1
  omega
theorem ent_val {n x : Int} {c : Clm} {r i : Nat} : valV ((List.range r).map (cEnt n c)) (keyM (1 + (i : Int), x)) = if i < r ∧ ckey n c i = x then some (.int (cval n c i)) else none := by
  by_cases h : i < r ∧ ckey n c i = x
  · rw [if_pos h, ← h.2]
    refine valV_mem (i := i) ent_nd ?_
    rw [List.getElem?_map, List.getElem?_range h.1]
    rfl
  · rw [if_neg h]
    refine valV_none fun p hp e => h ?_
    obtain ⟨j, hj, rfl⟩ := List.mem_map.mp hp
    have hj := List.mem_range.mp hj
    obtain ⟨z1, z2⟩ := keyM_inj (show keyM (1 + (j : Int), ckey n c j) = keyM (1 + (i : Int), x) from e)
    have : j = i := by omega
    subst this
    exact ⟨hj, z2⟩
/-- whether two claims decide a match differently -/
def difC (n : Int) (a b : Clm) : Bool := (List.range a.2.2).any fun i => decide (i < b.2.2) && (decide (ckey n b i = ckey n a i) && decide (cval n b i ≠ cval n a i))
theorem dif_decs {n : Int} {a b : Clm} (ha : 1 ≤ a.2.2) (hb : 1 ≤ b.2.2) : (decs n a.2.1 a.1 a.2.2).any (difT (decs n b.2.1 b.1 b.2.2)) = difC n a b := by
  rw [decs_ent ha, decs_ent hb, List.any_map]
  unfold difC
  refine congrArg (fun f => (List.range a.2.2).any f) (funext fun i => ?_)
  show difT _ (cEnt n a i) = _
  unfold difT
  rw [show (cEnt n a i).1 = keyM (1 + (i : Int), ckey n a i) from rfl, ent_val]
  by_cases h : i < b.2.2 ∧ ckey n b i = ckey n a i
  · rw [if_pos h, decide_eq_true h.1, decide_eq_true h.2, Bool.true_and, Bool.true_and]
    show decide (V.int (cval n b i) ≠ V.int (cval n a i)) = _
    exact decide_eq_decide.mpr ⟨fun z e => z (by rw [e]), fun z e => z (V.int.inj e)⟩
  · rw [if_neg h]
    show false = _
    by_cases h1 : i < b.2.2
    · have h2 : ¬ ckey n b i = ckey n a i := fun z => h ⟨h1, z⟩
      rw [decide_eq_false h2, Bool.false_and, Bool.and_false]
    · rw [decide_eq_false h1, Bool.false_and]
/-! ### small cups: all results, as the law plays them -/
def q2 (k : Int) : Int := 2 ^ k.toNat
theorem q2_eq (k : Int) : p2 k = q2 k := by unfold p2 q2; rfl
def brF : Nat → List Int
  | 0 => [1]
  | d + 1 => (brF d).flatMap fun w => [w, 2 * ((brF d).length : Int) + 1 - w]
def lapF (d n t : Int) : Int := 1 + d - (([1, 2, 4, 8, 16].filter fun z : Int => decide (z < n - t)).length : Int)
def stepS (d : Nat) (t : Nat) (s : List Int × List Int) : List (List Int × List Int) :=
  [(s.1.drop 2 ++ [s.1.getD 0 0], s.2.set (s.1.getD 1 0 - 1).toNat (lapF d s.2.length t)), (s.1.drop 2 ++ [s.1.getD 1 0], s.2.set (s.1.getD 0 0 - 1).toNat (lapF d s.2.length t))]
def statesF (d : Nat) : Nat → List (List Int × List Int)
  | 0 => [(brF d, List.replicate (2 ^ d) ((d : Int) + 1))]
  | t + 1 => (statesF d t).flatMap (stepS d t)
@[irreducible] def outsF (d : Nat) : List (List Int) := (statesF d (2 ^ d - 1)).map (·.2)
/-- every state's queue and ends are of the right size -/
@[irreducible] def sizeOk (d : Nat) : Bool := (List.range (2 ^ d)).all fun t => (statesF d t).all fun s => (s.1.length == 2 ^ d - t) && (s.2.length == 2 ^ d) && s.1.all fun w => decide (1 ≤ w) && decide (w ≤ 2 ^ d)
theorem size1 : sizeOk 1 = true := by decide +kernel
theorem size2 : sizeOk 2 = true := by decide +kernel
theorem size3 : sizeOk 3 = true := by decide +kernel
/-- whether a claim is true of a result, by the ends of its seeds -/
def truE (e : List Int) (c : Clm) : Bool := if c.1 = "won" then decide ((c.2.2 : Int) < e.getD (c.2.1 - 1).toNat 0) else decide (e.getD (c.2.1 - 1).toNat 0 = (c.2.2 : Int))
/-- the half that wins block j of level t -/
@[irreducible] def wonH (d : Nat) (e : List Int) (t : Nat) (j : Int) : Int :=
  match (List.range (2 ^ d)).find? fun s : Nat => decide (blk (q2 ((d : Int) - t)) (1 + (s : Int)) = j) && decide ((t : Int) < e.getD s 0) with
  | some s => blk (q2 ((d : Int) - t + 1)) (1 + (s : Int))
  | none => 0
def ckeyQ (n : Int) (c : Clm) (i : Nat) : Int := blk (q2 (n - (1 + (i : Int)))) c.2.1
def othQ (n t s : Int) : Int := q2 (n - t + 1) + 1 - blk (q2 (n - t + 1)) s
def cvalQ (n : Int) (s : Int) (last : Bool) (i : Nat) : Int := if last then othQ n ((i + 1 : Nat) : Int) s else blk (q2 (n - (1 + (i : Int)) + 1)) s
theorem ckey_q {n : Int} {c : Clm} {i : Nat} : ckey n c i = ckeyQ n c i := by unfold ckey ckeyQ; rw [q2_eq]
theorem cval_q {n : Int} {c : Clm} {i : Nat} : cval n c i = cvalQ n c.2.1 (decide (c.1 = "out" ∧ i + 1 = c.2.2)) i := by
  unfold cval cvalQ oth othQ
  by_cases h : c.1 = "out" ∧ i + 1 = c.2.2
  · rw [if_pos h, decide_eq_true h, if_pos rfl, q2_eq]
  · rw [if_neg h, decide_eq_false h, if_neg Bool.false_ne_true, q2_eq]
/-- (T) claims are true of a result exactly if it decides as they say; o: whether the claim says out -/
@[irreducible] def truthB (d : Nat) : Bool := (outsF d).all fun e => (List.range (2 ^ d)).all fun s : Nat => (List.range d).all fun r : Nat => [false, true].all fun o =>
  (if o then decide (e.getD s 0 = ((r + 1 : Nat) : Int)) else decide (((r + 1 : Nat) : Int) < e.getD s 0)) ==
    (List.range (r + 1)).all fun i : Nat => decide (wonH d e (i + 1) (blk (q2 ((d : Int) - (1 + (i : Int)))) (1 + (s : Int))) = cvalQ d (1 + (s : Int)) (o && (i == r)) i)
theorem truth1 : truthB 1 = true := by decide +kernel
theorem truth2 : truthB 2 = true := by decide +kernel
theorem truth3 : truthB 3 = true := by decide +kernel
/-- (S) every choice of halves is some result -/
@[irreducible] def matchL (d : Nat) : List (Nat × Int) := (List.range d).flatMap fun t : Nat => (List.range (2 ^ (d - (t + 1)))).map fun j : Nat => (t + 1, 1 + (j : Int))
def codeF (d : Nat) (e : List Int) : List Bool := (matchL d).map fun m => decide (wonH d e m.1 m.2 ≠ m.2)
def allBits : Nat → List (List Bool)
  | 0 => [[]]
  | n + 1 => (allBits n).flatMap fun l => [false :: l, true :: l]
@[irreducible] def surjB (d : Nat) : Bool := (fun cs : List (List Bool) => (allBits (matchL d).length).all fun bs => cs.contains bs) ((outsF d).map (codeF d))
@[irreducible] def halfB (d : Nat) : Bool := (outsF d).all fun e => (matchL d).all fun m => decide (wonH d e m.1 m.2 = m.2) || decide (wonH d e m.1 m.2 = q2 ((d : Int) - m.1 + 1) + 1 - m.2)
theorem surj1 : surjB 1 = true := by decide +kernel
theorem surj2 : surjB 2 = true := by decide +kernel
theorem surj3 : surjB 3 = true := by decide +kernel
theorem half1 : halfB 1 = true := by decide +kernel
theorem half2 : halfB 2 = true := by decide +kernel
theorem half3 : halfB 3 = true := by decide +kernel
theorem allBits_mem : ∀ l : List Bool, l ∈ allBits l.length
  | [] => by simp [allBits]
  | b :: l => by
    rw [List.length_cons]
    unfold allBits
    refine List.mem_flatMap.mpr ⟨l, allBits_mem l, ?_⟩
    cases b <;> simp
theorem small_d {d : Nat} (h : 1 ≤ d ∧ d ≤ 3) : sizeOk d = true ∧ truthB d = true ∧ surjB d = true ∧ halfB d = true := by
  have : d = 1 ∨ d = 2 ∨ d = 3 := by omega
  rcases this with rfl | rfl | rfl
  · exact ⟨size1, truth1, surj1, half1⟩
  · exact ⟨size2, truth2, surj2, half2⟩
  · exact ⟨size3, truth3, surj3, half3⟩
theorem match_mem {d i : Nat} {x : Int} (hi : i < d) (hx : 1 ≤ x ∧ x ≤ p2 ((d : Int) - (1 + (i : Int)))) : (i + 1, x) ∈ matchL d := by
  unfold matchL
  refine List.mem_flatMap.mpr ⟨i, List.mem_range.mpr hi, List.mem_map.mpr ⟨(x - 1).toNat, List.mem_range.mpr ?_, ?_⟩⟩
  · have e := p2_sub (s := d) (d := i + 1) (by omega)
    rw [show (d : Int) - (1 + (i : Int)) = (d : Int) - ((i + 1 : Nat) : Int) by omega, e] at hx
    omega
  · rw [show 1 + (((x - 1).toNat : Nat) : Int) = x by omega]
theorem ckey_range {n : Int} {c : Clm} {i : Nat} : 1 ≤ ckey n c i ∧ ckey n c i ≤ p2 (n - (1 + (i : Int))) := blk_range (p2_pos _)
theorem cval_half {n : Int} {c : Clm} {i : Nat} (hi : (i : Int) < n) (hs : 1 ≤ c.2.1) : cval n c i = ckey n c i ∨ cval n c i = q2 (n - ((i + 1 : Nat) : Int) + 1) + 1 - ckey n c i := by
  have e : p2 (n - (1 + (i : Int)) + 1) = 2 * p2 (n - (1 + (i : Int))) := p2_succ (by omega)
  have e2 : n - ((i + 1 : Nat) : Int) + 1 = n - (1 + (i : Int)) + 1 := by omega
  have b := blk_below (m := p2 (n - (1 + (i : Int)))) (s := c.2.1) (p2_pos _) hs
  rw [← q2_eq, e2]
  unfold cval ckey
  by_cases h : c.1 = "out" ∧ i + 1 = c.2.2
  · rw [if_pos h]
    unfold oth
    rw [e2, e]
    omega
  · rw [if_neg h, e]
    omega
theorem wonH_or {d : Nat} {e : List Int} {m : Nat × Int} (hd : 1 ≤ d ∧ d ≤ 3) (he : e ∈ outsF d) (hm : m ∈ matchL d) : wonH d e m.1 m.2 = m.2 ∨ wonH d e m.1 m.2 = q2 ((d : Int) - m.1 + 1) + 1 - m.2 := by
  have h := (small_d hd).2.2.2
  unfold halfB at h
  have z := List.all_eq_true.mp (List.all_eq_true.mp h e he) m hm
  simpa using z
theorem truE_iff {d : Nat} {e : List Int} {c : Clm} (hd : 1 ≤ d ∧ d ≤ 3) (he : e ∈ outsF d) (hc : ClmOk (d : Int) c) : truE e c = true ↔ ∀ i, i < c.2.2 → wonH d e (i + 1) (ckey d c i) = cval d c i := by
  obtain ⟨w, s, r⟩ := c
  obtain ⟨hw, ⟨s1, s2⟩, r1, r2⟩ := hc
  have hw : w = "won" ∨ w = "out" := hw
  have s1 : 1 ≤ s := s1
  have s2 : s ≤ p2 (d : Int) := s2
  have r1 : 1 ≤ r := r1
  have r2 : (r : Int) ≤ (d : Int) := r2
  rw [p2_nat] at s2
  have h := (small_d hd).2.1
  unfold truthB at h
  have z := List.all_eq_true.mp (List.all_eq_true.mp (List.all_eq_true.mp (List.all_eq_true.mp h e he) (s - 1).toNat (List.mem_range.mpr (by omega))) (r - 1) (List.mem_range.mpr (by omega))) (decide (w = "out")) (by cases decide (w = "out") <;> simp)
  have z := beq_iff_eq.mp z
  have es : 1 + (((s - 1).toNat : Nat) : Int) = s := by omega
  have er : r - 1 + 1 = r := by omega
  rw [es, er] at z
  have l : truE e (w, s, r) = (if decide (w = "out") = true then decide (e.getD (s - 1).toNat 0 = (r : Int)) else decide ((r : Int) < e.getD (s - 1).toNat 0)) := by
    unfold truE
    rcases hw with rfl | rfl
    · rw [if_pos rfl, if_neg (by decide)]
    · rw [if_neg (show ¬ ("out" : Str) = "won" by decide), if_pos (by decide)]
  rw [l, z, List.all_eq_true]
  have val : ∀ i : Nat, cval (d : Int) (w, s, r) i = cvalQ d s (decide (w = "out") && (i == r - 1)) i := fun i => by
    rw [cval_q]
    refine congrArg (fun b => cvalQ (d : Int) s b i) ?_
    show decide (w = "out" ∧ i + 1 = r) = _
    by_cases o : w = "out"
    · rw [decide_eq_true o, Bool.true_and]
      by_cases k : i + 1 = r
      · rw [decide_eq_true ⟨o, k⟩]
        exact (beq_iff_eq.mpr (by omega)).symm
      · rw [decide_eq_false fun y => k y.2]
        exact (beq_eq_false_iff_ne.mpr (by omega)).symm
    · rw [decide_eq_false o, decide_eq_false fun y => o y.1, Bool.false_and]
  constructor
  · intro a i hi
    have hi : i < r := hi
    have q := of_decide_eq_true (a i (List.mem_range.mpr hi))
    rw [val, ckey_q]
    exact q
  · intro a i hi
    have hi := List.mem_range.mp hi
    have q := a i hi
    rw [val, ckey_q] at q
    exact decide_eq_true q
theorem difC_false {n : Int} {a b : Clm} : difC n a b = false ↔ ∀ i, i < a.2.2 → i < b.2.2 → ckey n b i = ckey n a i → cval n b i = cval n a i := by
  unfold difC
  rw [List.any_eq_false]
  constructor
  · intro h i h1 h2 h3
    have z := h i (List.mem_range.mpr h1)
    simp only [Bool.and_eq_true, decide_eq_true_eq, not_and] at z
    exact Classical.byContradiction fun k => z h2 h3 k
  · intro h i h1
    simp only [Bool.and_eq_true, decide_eq_true_eq, not_and]
    intro h2 h3 k
    exact k (h i (List.mem_range.mp h1) h2 h3)
theorem difC_self {n : Int} {a : Clm} : difC n a a = false := difC_false.mpr fun _ _ _ _ => rfl
theorem difC_sym {n : Int} {a b : Clm} (h : difC n a b = false) : difC n b a = false := difC_false.mpr fun i h1 h2 h3 => (difC_false.mp h i h2 h1 h3.symm).symm
/-- the choice that claims make of a match, or the better half -/
def pickB (d : Nat) (cs : List Clm) (m : Nat × Int) : Bool := match cs.find? fun c => decide (1 ≤ m.1) && decide (m.1 ≤ c.2.2) && decide (ckey d c (m.1 - 1) = m.2) with
  | some c => decide (cval d c (m.1 - 1) ≠ m.2)
  | none => false
theorem joint {d : Nat} {cs : List Clm} (hd : 1 ≤ d ∧ d ≤ 3) (hok : ∀ c ∈ cs, ClmOk (d : Int) c) (hp : ∀ a ∈ cs, ∀ b ∈ cs, difC d a b = false) : ∃ e ∈ outsF d, ∀ c ∈ cs, truE e c = true := by
  have h := (small_d hd).2.2.1
  unfold surjB at h
  have h1 := List.all_eq_true.mp h ((matchL d).map (pickB d cs)) (by
    have := allBits_mem ((matchL d).map (pickB d cs))
    rwa [List.length_map] at this)
  have h2 : (matchL d).map (pickB d cs) ∈ (outsF d).map (codeF d) := List.contains_iff_mem.mp h1
  obtain ⟨e, he, ec⟩ := List.mem_map.mp h2
  refine ⟨e, he, fun c hc => (truE_iff hd he (hok c hc)).mpr fun i hi => ?_⟩
  obtain ⟨_, ⟨s1, _⟩, r1, r2⟩ := hok c hc
  have hid : i < d := by omega
  have hm := match_mem (x := ckey d c i) hid ckey_range
  have at_ : decide (wonH d e (i + 1) (ckey d c i) ≠ ckey d c i) = pickB d cs (i + 1, ckey d c i) := by
    unfold codeF at ec
    exact List.map_inj_left.mp ec _ hm
  have pk : pickB d cs (i + 1, ckey d c i) = decide (cval d c i ≠ ckey d c i) := by
    unfold pickB
    cases q : cs.find? fun b => decide (1 ≤ i + 1) && decide (i + 1 ≤ b.2.2) && decide (ckey d b (i + 1 - 1) = ckey d c i) with
    | none =>
      have := List.find?_eq_none.mp q c hc
      refine absurd ?_ this
      rw [decide_eq_true (show 1 ≤ i + 1 by omega), decide_eq_true (show i + 1 ≤ c.2.2 from hi), decide_eq_true (show ckey d c (i + 1 - 1) = ckey d c i from rfl)]
      rfl
    | some b =>
      have hb := List.mem_of_find?_eq_some q
      have kb := List.find?_some q
      simp only [Bool.and_eq_true, decide_eq_true_eq] at kb
      have v := difC_false.mp (hp c hc b hb) i hi (by omega) kb.2
      show decide (cval d b (i + 1 - 1) ≠ ckey d c i) = _
      rw [show i + 1 - 1 = i by omega, v]
  rw [pk] at at_
  have z := decide_eq_decide.mp at_
  have w1 := wonH_or hd he hm
  have w2 := cval_half (n := (d : Int)) (c := c) (i := i) (by omega) s1
  have w1 : wonH d e (i + 1) (ckey d c i) = ckey d c i ∨ wonH d e (i + 1) (ckey d c i) = q2 ((d : Int) - ((i + 1 : Nat) : Int) + 1) + 1 - ckey d c i := w1
  rcases w1 with a | a <;> rcases w2 with b | b
  · rw [a, b]
  · by_cases k : cval d c i = ckey d c i
    · rw [a, k]
    · exact absurd a (z.mpr k)
  · by_cases k : wonH d e (i + 1) (ckey d c i) = ckey d c i
    · rw [k, b]
    · exact absurd b (z.mp k)
  · rw [a, b]
theorem two_true {d : Nat} {a b : Clm} (hd : 1 ≤ d ∧ d ≤ 3) (ha : ClmOk (d : Int) a) (hb : ClmOk (d : Int) b) : (∃ e ∈ outsF d, truE e a = true ∧ truE e b = true) ↔ difC d a b = false := by
  constructor
  · rintro ⟨e, he, h1, h2⟩
    refine difC_false.mpr fun i i1 i2 k => ?_
    have v1 := (truE_iff hd he ha).mp h1 i i1
    have v2 := (truE_iff hd he hb).mp h2 i i2
    rw [k] at v2
    rw [← v1, ← v2]
  · intro h
    obtain ⟨e, he, q⟩ := joint (cs := [a, b]) hd (fun c hc => by
      simp only [List.mem_cons, List.not_mem_nil, or_false] at hc
      rcases hc with rfl | rfl <;> assumption) (fun x hx y hy => by
      simp only [List.mem_cons, List.not_mem_nil, or_false] at hx hy
      rcases hx with rfl | rfl <;> rcases hy with rfl | rfl
      · exact difC_self
      · exact h
      · exact difC_sym h
      · exact difC_self)
    exact ⟨e, he, q a (by simp), q b (by simp)⟩
/-! ### the first clash of two -/
def FirstC (P : Nat → Nat → Bool) (n : Nat) : Option (Nat × Nat) → Prop
  | none => ∀ j, j < n → ∀ i, i < j → P i j = false
  | some (i, j) => (i < j ∧ j < n) ∧ P i j = true ∧ (∀ j', j' < j → ∀ i', i' < j' → P i' j' = false) ∧ ∀ i', i' < i → P i' j = false
theorem FirstC.uniq {P : Nat → Nat → Bool} {n : Nat} {a b : Option (Nat × Nat)} (ha : FirstC P n a) (hb : FirstC P n b) : a = b := by
  match a, b, ha, hb with
  | none, none, _, _ => rfl
  | none, some (i, j), ha, hb =>
    have := ha j hb.1.2 i hb.1.1
    rw [hb.2.1] at this
    cases this
  | some (i, j), none, ha, hb =>
    have := hb j ha.1.2 i ha.1.1
    rw [ha.2.1] at this
    cases this
  | some (i, j), some (i', j'), ha, hb =>
    have e : j = j' := by
      rcases Nat.lt_trichotomy j j' with h | h | h
      · have := hb.2.2.1 j h i ha.1.1
        rw [ha.2.1] at this
        cases this
      · exact h
      · have := ha.2.2.1 j' h i' hb.1.1
        rw [hb.2.1] at this
        cases this
    subst e
    have e : i = i' := by
      rcases Nat.lt_trichotomy i i' with h | h | h
      · have := hb.2.2.2 i h
        rw [ha.2.1] at this
        cases this
      · exact h
      · have := ha.2.2.2 i' h
        rw [hb.2.1] at this
        cases this
    subst e
    rfl
end SC

set_option Elab.async false
set_option linter.all false
set_option maxRecDepth 100000
set_option maxHeartbeats 4000000
/-! Comprehensions by an invariant, over a tuple or a list; calls f(e, *y). -/
namespace SC
open PySem PySem.Spec PyProof.Rows L2 StX
section
variable {K : PySem.W.Frag} {σ : L2.St} {H : Hp} {Q : VK} {te : TE} {vs : List Nat} {j : Nat} {tl : TE} {g : TG} {tt : TT}
theorem w_lcT (k : tl σ H fun x H1 => ∃ a, x = .ref a ∧ (∃ xs, SqT K H1 a xs) ∧ LcB (Itt K a) g tt te vs σ H1 Q) : tLc (iTup K tl) g tt te vs σ H Q := k
theorem w_lctI {a : Addr} {xs : List V} (hs : SqT K H a xs) (J : Nat → List V → Addr → Hp → Prop) (hz : xs.length ≤ 1000000) (hw : ∀ x, wipe ((wipe σ vs).set j (some x)) vs = wipe σ vs)
    (hl : ∀ i ys p H', J i ys p H' → H' p = some (.lst ys) → SqT K H' a xs)
    (h0 : ∀ p H', Sm H H' → H p = none → H' p = some (.lst []) → J 0 [] p H')
    (he : ∀ (i : Nat) x ys p H', xs[i]? = some x → H p = none → ys.length = i → J i ys p H' → H' p = some (.lst ys) → ∀ R : VK, (∀ y H2, H2 p = some (.lst ys) → J (i + 1) (ys ++ [y]) p (L2.upd H2 p (.lst (ys ++ [y]))) → R y H2) → te ((wipe σ vs).set j (some x)) H' R)
    (k : ∀ ys p H', H p = none → ys.length = xs.length → J xs.length ys p H' → H' p = some (.lst ys) → Q (.ref p) H') :
    ∃ b, V.ref a = .ref b ∧ (∃ xs, SqT K H b xs) ∧ LcB (Itt K b) (gName j) tYes te vs σ H Q := by
  refine ⟨a, rfl, ⟨xs, hs⟩, fun D hD => ?_⟩
  refine lc_tup (xs := xs) (fun i H' => ∃ ys, J i ys D H' ∧ H' D = some (.lst ys) ∧ ys.length = i) ⟨[], h0 D _ (same_upd hD) hD upd_same, upd_same, rfl⟩ (fun i H' _ ⟨ys, hJ, hx, _⟩ => hl i ys D H' hJ hx) (fun i x H' hi ⟨ys, hJ, hx, hl'⟩ => ?_) (fun H' ⟨ys, hJ, hx, hl'⟩ => k ys D H' hD hl' hJ hx)
  show wipe ((wipe σ vs).set j (some x)) vs = wipe σ vs ∧ te ((wipe σ vs).set j (some x)) H' _
  refine ⟨hw _, he i x ys D H' hi hD hl' hJ hx _ fun y H2 h2 hJ2 => ⟨ys, h2, ?_, ys ++ [y], hJ2, upd_same, by rw [List.length_append, hl']; rfl⟩⟩
  have := (List.getElem?_eq_some_iff.mp hi).1
  exact Nat.lt_of_lt_of_le (show _ < 1000000 by omega) (by decide)
theorem w_lclI {a : Addr} {xs : List V} (hs : SqL K H a xs) (J : Nat → List V → Addr → Hp → Prop) (hz : xs.length ≤ 1000000) (hw : ∀ x, wipe ((wipe σ vs).set j (some x)) vs = wipe σ vs)
    (hl : ∀ i ys p H', J i ys p H' → H' p = some (.lst ys) → SqL K H' a xs)
    (h0 : ∀ p H', Sm H H' → H p = none → H' p = some (.lst []) → J 0 [] p H')
    (he : ∀ (i : Nat) x ys p H', xs[i]? = some x → H p = none → ys.length = i → J i ys p H' → H' p = some (.lst ys) → ∀ R : VK, (∀ y H2, H2 p = some (.lst ys) → J (i + 1) (ys ++ [y]) p (L2.upd H2 p (.lst (ys ++ [y]))) → R y H2) → te ((wipe σ vs).set j (some x)) H' R)
    (k : ∀ ys p H', H p = none → ys.length = xs.length → J xs.length ys p H' → H' p = some (.lst ys) → Q (.ref p) H') :
    ∃ b, V.ref a = .ref b ∧ (∃ xs, SqL K H b xs) ∧ LcB (Itl K b) (gName j) tYes te vs σ H Q := by
  refine ⟨a, rfl, ⟨xs, hs⟩, fun D hD => ?_⟩
  refine lc_list (xs := xs) (fun i H' => ∃ ys, J i ys D H' ∧ H' D = some (.lst ys) ∧ ys.length = i) ⟨[], h0 D _ (same_upd hD) hD upd_same, upd_same, rfl⟩ (fun i H' _ ⟨ys, hJ, hx, _⟩ => hl i ys D H' hJ hx) (fun i x H' hi ⟨ys, hJ, hx, hl'⟩ => ?_) (fun H' ⟨ys, hJ, hx, hl'⟩ => k ys D H' hD hl' hJ hx)
  show wipe ((wipe σ vs).set j (some x)) vs = wipe σ vs ∧ te ((wipe σ vs).set j (some x)) H' _
  refine ⟨hw _, he i x ys D H' hi hD hl' hJ hx _ fun y H2 h2 hJ2 => ⟨ys, h2, ?_, ys ++ [y], hJ2, upd_same, by rw [List.length_append, hl']; rfl⟩⟩
  have := (List.getElem?_eq_some_iff.mp hi).1
  exact Nat.lt_of_lt_of_le (show _ < 1000000 by omega) (by decide)
end
section
variable {X : Cx} {CX : CXT} {k : Nat} {f : Addr} {sp : Sp} {E : XK} {x : Str} {p pos : Pos} {e : Expr} {es : List Expr} {t : TA}
theorem pe_callR2 (F : FnR X.prog X.w X.K X.mg X.base CX k f sp) (hr : Room k X.A) (hg : Gl X x) (hm : X.mg x = some (.ref f)) (hk : PySem.W.keepIn X.K (.ref f) = true) (hx : Passes CX X E) (ha : PA X (e :: es) t) (hd : (x == ("__debug__" : Str)) = false := by decide)
    (he : starEach (e :: es) X.env = (false, eval e X.env) :: starEach es X.env := by rfl) (hst : (backTo pos (starEach es X.env)).any (·.1) = true := by rfl) :
    PE X (.Call (.Name x p) (e :: es) [] pos) (tCallR sp E t) := StX.pe_callS2 F hr hk hg hm hx ha hd he hst
end
theorem w_eq0 (ns : List Int) {K : PySem.W.Frag} {H : Hp} {Q : VK} {p q : Addr} (h1 : SqL K H p (ns.map V.int)) (h2 : H q = some (.lst [])) (k : Q (.bl (decide (ns = []))) H) : rEqD K (.ref p) (.ref q) H Q := by
  refine ⟨_, _, .lst h1 (dp_ints ns), .lst (.inl (.inl h2)) .nil, shaped_ints ns, shaped_ints [], ?_⟩
  cases ns with
  | nil =>
    rw [show PyData.eqv (.list (([] : List Int).map PyData.int)) (.list []) = true from eqv_ints []]
    simpa using k
  | cons n r =>
    have e : PyData.eqv (.list ((n :: r).map PyData.int)) (.list []) = false := by rfl
    rw [e]
    simpa using k
theorem w_eq0D {K : PySem.W.Frag} {H : Hp} {Q : VK} {p q : Addr} (ds : List PyData) (h1 : Dp K H (.ref p) (.list ds)) (h2 : H q = some (.lst [])) (sh : SeqAt.shaped (.list ds) = true) (k : Q (.bl (decide (ds = []))) H) : rEqD K (.ref p) (.ref q) H Q := by
  refine ⟨_, _, h1, .lst (.inl (.inl h2)) .nil, sh, shaped_ints [], ?_⟩
  cases ds with
  | nil =>
    rw [show PyData.eqv (.list ([] : List PyData)) (.list []) = true from eqv_ints []]
    simpa using k
  | cons n r =>
    have e : PyData.eqv (.list (n :: r)) (.list []) = false := by rfl
    rw [e]
    simpa using k
theorem cut_drop {xs : List V} {n : Nat} : cutV xs (some (n : Int)) none = xs.drop n := by
  unfold cutV
  rw [HT.sIx_nat]
  have e0 : HT.sIx xs.length xs.length none = xs.length := rfl
  rw [e0]
  by_cases h : n ≤ xs.length
  · rw [Nat.min_eq_left h, List.take_of_length_le (by rw [List.length_drop]; omega)]
  · rw [Nat.min_eq_right (by omega), List.drop_eq_nil_of_le (by omega), List.drop_eq_nil_of_le (by omega)]
    simp
theorem cut_takeN {xs : List V} {n : Nat} : cutV xs none (some (n : Int)) = xs.take n := by
  by_cases h : n ≤ xs.length
  · exact cut_take h
  · unfold cutV
    rw [HT.sIx_nat]
    have e0 : HT.sIx xs.length 0 none = 0 := rfl
    rw [e0, Nat.min_eq_right (by omega), List.drop_zero, Nat.sub_zero, List.take_length, List.take_of_length_le (by omega)]
theorem rV_take {ps : List (Addr × Clm)} {n : Nat} : (rV ps).take n = rV (ps.take n) := List.map_take.symm
theorem rV_drop {ps : List (Addr × Clm)} {n : Nat} : (rV ps).drop n = rV (ps.drop n) := List.map_drop.symm
theorem rV_app {ps qs : List (Addr × Clm)} : rV ps ++ rV qs = rV (ps ++ qs) := List.map_append.symm
theorem rV_rep {ps : List (Addr × Clm)} : ∀ n : Nat, (List.replicate n (rV ps)).flatten = rV (List.replicate n ps).flatten
  | 0 => rfl
  | n + 1 => by rw [List.replicate_succ, List.flatten_cons, rV_rep n, rV_app, List.replicate_succ, List.flatten_cons]
theorem rep_mem {α : Type} {ps : List α} {x : α} : ∀ n : Nat, x ∈ (List.replicate n ps).flatten → x ∈ ps
  | 0, h => by simp at h
  | n + 1, h => by
    rw [List.replicate_succ, List.flatten_cons] at h
    exact (List.mem_append.mp h).elim id (rep_mem n)
theorem rep_len {α : Type} {ps : List α} : ∀ n : Nat, (List.replicate n ps).flatten.length = n * ps.length
  | 0 => by simp
  | n + 1 => by rw [List.replicate_succ, List.flatten_cons, List.length_append, rep_len n, Nat.succ_mul]; omega
theorem good_cls3 {s n : Nat} {ps : List (Addr × Clm)} (hs : 1 ≤ s ∧ s ≤ 6) (hok : ∀ p ∈ ps, ClmOk (s : Int) p.2) (hn : ps.length ≤ n) : Good (64 * n) 2 (.list (ps.map fun p => cD p.2)) :=
  good_list (w := 63) (k := 1) (fun d hd => by
    obtain ⟨p, hp, rfl⟩ := List.mem_map.mp hd
    have ok := hok p hp
    have P2 := p2_nat s
    have lim : 2 ^ s ≤ 2 ^ 6 := Nat.pow_le_pow_right (by decide) hs.2
    exact good_clm ok (by omega) (by have := ok.2.1.2; omega)) (by rw [List.length_map]; exact hn)
theorem mapD {α β : Type} (ps : List α) (f : α → β) (d : α) : (List.range ps.length).map (fun i => f (ps.getD i d)) = ps.map f := by
  apply List.ext_getElem
  · simp
  · intro i h1 h2
    simp [List.getD_eq_getElem?_getD, show i < ps.length by simpa using h2]
theorem brF_len : ∀ d : Nat, (brF d).length = 2 ^ d
  | 0 => rfl
  | d + 1 => by
    have ih := brF_len d
    unfold brF
    have : ∀ l : List Int, (l.flatMap fun w => [w, 2 * ((brF d).length : Int) + 1 - w]).length = 2 * l.length := fun l => by
      induction l with
      | nil => rfl
      | cons x r ih => rw [List.flatMap_cons, List.length_append, ih, List.length_cons]; simp; omega
    rw [this, ih, Nat.pow_succ]
    omega
theorem flat_take {α β : Type} {xs : List α} {f : α → List β} {i : Nat} {x : α} (h : xs[i]? = some x) : (xs.take (i + 1)).flatMap f = (xs.take i).flatMap f ++ f x := by
  rw [List.take_add_one, h, List.flatMap_append]
  simp
/-- states of a cup that is played: tuples of a queue and the ends -/
def StAt (H : Hp) (a : Addr) (s : List Int × List Int) : Prop := ∃ q e : Addr, H a = some (.tup [.ref q, .ref e]) ∧ H q = some (.lst (s.1.map V.int)) ∧ H e = some (.lst (s.2.map V.int))
theorem StAt.go {H H' : Hp} {a : Addr} {s : List Int × List Int} (h : StAt H a s) (e : Sm H H') : StAt H' a s := by
  obtain ⟨q, b, h1, h2, h3⟩ := h
  exact ⟨q, b, e _ _ h1, e _ _ h2, e _ _ h3⟩
def Sts (H : Hp) (ads : List Addr) (ss : List (List Int × List Int)) : Prop := ads.length = ss.length ∧ ∀ (j : Nat) a s, ads[j]? = some a → ss[j]? = some s → StAt H a s
theorem Sts.go {H H' : Hp} {ads : List Addr} {ss : List (List Int × List Int)} (h : Sts H ads ss) (e : Sm H H') : Sts H' ads ss := ⟨h.1, fun j a s h1 h2 => (h.2 j a s h1 h2).go e⟩
theorem Sts.nil {H : Hp} : Sts H [] [] := ⟨rfl, fun j a s h => by simp at h⟩
theorem Sts.snoc {H : Hp} {ads : List Addr} {ss : List (List Int × List Int)} {a : Addr} {s : List Int × List Int} (h : Sts H ads ss) (x : StAt H a s) : Sts H (ads ++ [a]) (ss ++ [s]) := by
  refine ⟨by rw [List.length_append, List.length_append, h.1]; rfl, fun j b u h1 h2 => ?_⟩
  by_cases hj : j < ads.length
  · rw [List.getElem?_append_left hj] at h1
    rw [List.getElem?_append_left (by rw [← h.1]; exact hj)] at h2
    exact h.2 j b u h1 h2
  · rw [List.getElem?_append_right (by omega)] at h1
    rw [List.getElem?_append_right (by rw [← h.1]; omega), ← h.1] at h2
    have e : j - ads.length = 0 := by
      have := (List.getElem?_eq_some_iff.mp h1).1
      simp at this
      omega
    rw [e] at h1 h2
    cases h1
    cases h2
    exact x
/-- .. clear of G, a list that grows -/
def StG (G : Addr) (H : Hp) (a : Addr) (s : List Int × List Int) : Prop := ∃ q e : Addr, H a = some (.tup [.ref q, .ref e]) ∧ H q = some (.lst (s.1.map V.int)) ∧ H e = some (.lst (s.2.map V.int)) ∧ a ≠ G ∧ q ≠ G ∧ e ≠ G
theorem StG.kp {G : Addr} {H H' : Hp} {a : Addr} {s : List Int × List Int} (h : StG G H a s) (e : Kp G H H') : StG G H' a s := by
  obtain ⟨q, b, h1, h2, h3, n1, n2, n3⟩ := h
  exact ⟨q, b, e _ _ n1 h1, e _ _ n2 h2, e _ _ n3 h3, n1, n2, n3⟩
def StsG (G : Addr) (H : Hp) (ads : List Addr) (ss : List (List Int × List Int)) : Prop := ads.length = ss.length ∧ ∀ (j : Nat) a s, ads[j]? = some a → ss[j]? = some s → StG G H a s
theorem StsG.kp {G : Addr} {H H' : Hp} {ads : List Addr} {ss : List (List Int × List Int)} (h : StsG G H ads ss) (e : Kp G H H') : StsG G H' ads ss := ⟨h.1, fun j a s h1 h2 => (h.2 j a s h1 h2).kp e⟩
theorem StsG.drop {G : Addr} {H : Hp} {ads : List Addr} {ss : List (List Int × List Int)} (h : StsG G H ads ss) : Sts H ads ss := ⟨h.1, fun j a s h1 h2 => by
  obtain ⟨q, b, g1, g2, g3, _⟩ := h.2 j a s h1 h2
  exact ⟨q, b, g1, g2, g3⟩⟩
theorem Sts.clear {G : Addr} {H : Hp} {ads : List Addr} {ss : List (List Int × List Int)} (h : Sts H ads ss) (hG : H G = none) : StsG G H ads ss := ⟨h.1, fun j a s h1 h2 => by
  obtain ⟨q, b, g1, g2, g3⟩ := h.2 j a s h1 h2
  exact ⟨q, b, g1, g2, g3, ne_of_none g1 hG, ne_of_none g2 hG, ne_of_none g3 hG⟩⟩
theorem StsG.nil {G : Addr} {H : Hp} : StsG G H [] [] := ⟨rfl, fun j a s h => by simp at h⟩
theorem StsG.snoc {G : Addr} {H : Hp} {ads : List Addr} {ss : List (List Int × List Int)} {a : Addr} {s : List Int × List Int} (h : StsG G H ads ss) (x : StG G H a s) : StsG G H (ads ++ [a]) (ss ++ [s]) := by
  refine ⟨by rw [List.length_append, List.length_append, h.1]; rfl, fun j b u h1 h2 => ?_⟩
  by_cases hj : j < ads.length
  · rw [List.getElem?_append_left hj] at h1
    rw [List.getElem?_append_left (by rw [← h.1]; exact hj)] at h2
    exact h.2 j b u h1 h2
  · rw [List.getElem?_append_right (by omega)] at h1
    rw [List.getElem?_append_right (by rw [← h.1]; omega), ← h.1] at h2
    have e : j - ads.length = 0 := by
      have := (List.getElem?_eq_some_iff.mp h1).1
      simp at this
      omega
    rw [e] at h1 h2
    cases h1
    cases h2
    exact x
theorem flat_len {f : Int → Int} (l : List Int) : (l.flatMap fun w => [w, f w]).length = 2 * l.length := by
  induction l with
  | nil => rfl
  | cons x r ih => rw [List.flatMap_cons, List.length_append, ih, List.length_cons]; simp; omega
theorem statesF_zero {d : Nat} : statesF d 0 = [(brF d, List.replicate (2 ^ d) ((d : Int) + 1))] := rfl
theorem statesF_succ {d t : Nat} : statesF d (t + 1) = (statesF d t).flatMap (stepS d t) := rfl
theorem states_len {d : Nat} : ∀ t : Nat, (statesF d t).length = 2 ^ t
  | 0 => by rw [statesF_zero]; rfl
  | t + 1 => by
    rw [statesF_succ]
    have : ∀ l : List (List Int × List Int), (l.flatMap (stepS d t)).length = 2 * l.length := fun l => by
      induction l with
      | nil => rfl
      | cons x r ih => rw [List.flatMap_cons, List.length_append, ih, List.length_cons]; simp [stepS]; omega
    rw [this, states_len t, Nat.pow_succ]
    omega
theorem state_ok {d t j : Nat} {s : List Int × List Int} (hd : 1 ≤ d ∧ d ≤ 3) (ht : t < 2 ^ d) (h : (statesF d t)[j]? = some s) : s.1.length = 2 ^ d - t ∧ s.2.length = 2 ^ d ∧ ∀ w ∈ s.1, 1 ≤ w ∧ w ≤ ((2 ^ d : Nat) : Int) := by
  have z := (small_d hd).1
  unfold sizeOk at z
  have y := List.all_eq_true.mp (List.all_eq_true.mp z t (List.mem_range.mpr ht)) s (List.mem_of_getElem? h)
  simp only [Bool.and_eq_true, beq_iff_eq, List.all_eq_true, decide_eq_true_eq] at y
  refine ⟨y.1.1, y.1.2, fun w hw => ?_⟩
  have := y.2 w hw
  exact ⟨this.1, by push_cast; exact this.2⟩
section
variable {K : PySem.W.Frag} {σ : L2.St} {H : Hp} {Q : VK} {te : TE} {vs : List Nat} {j : Nat} {g : TG} {tt : TT}
/-- over a list, any target -/
theorem w_lclG {a : Addr} {xs : List V} (f : Nat → V) (hs : SqL K H a xs) (hz : xs.length ≤ 1000000)
    (he : ∀ (i : Nat) x H', xs[i]? = some x → Sm H H' → ∀ R : VK, (∀ H2, Sm H' H2 → R (f i) H2) → g x (wipe σ vs) H' fun σ2 H2 => wipe σ2 vs = wipe σ vs ∧ te σ2 H2 R)
    (k : ∀ p H', Sm H H' → H p = none → H' p = some (.lst ((List.range xs.length).map f)) → Q (.ref p) H') :
    ∃ b, V.ref a = .ref b ∧ (∃ xs, SqL K H b xs) ∧ LcB (Itl K b) g tYes te vs σ H Q := by
  refine ⟨a, rfl, ⟨xs, hs⟩, fun D hD => ?_⟩
  refine lc_list (xs := xs) (fun i H' => Sm H H' ∧ H' D = some (.lst ((List.range i).map f))) ⟨same_upd hD, upd_same⟩ (fun i H' _ p => p.1.seq hs) (fun i x H' hi p => ?_) (fun H' p => k D H' p.1 hD p.2)
  show g x (wipe σ vs) H' fun σ2 H2 => wipe σ2 vs = wipe σ vs ∧ te σ2 H2 _
  refine he i x H' hi p.1 _ fun H2 s2 => ⟨_, s2 _ _ p.2, ?_, sm_upd (p.1.trans s2) hD, ?_⟩
  · rw [List.length_map, List.length_range]
    have := (List.getElem?_eq_some_iff.mp hi).1
    exact Nat.lt_of_lt_of_le (show _ < 1000000 by omega) (by decide)
  · rw [upd_same, List.range_succ, List.map_append]
    rfl
/-- over a list with a test, by places -/
theorem w_lclN {a : Addr} {xs : List V} (pf : Nat → Bool) (f : Nat → V) (hs : SqL K H a xs) (hz : xs.length ≤ 1000000) (hw : ∀ x, wipe ((wipe σ vs).set j (some x)) vs = wipe σ vs)
    (ht : ∀ (i : Nat) x H', xs[i]? = some x → Sm H H' → ∀ R : Bool → Hp → Prop, (∀ H2, Sm H' H2 → R (pf i) H2) → tt ((wipe σ vs).set j (some x)) H' R)
    (he : ∀ (i : Nat) x H', xs[i]? = some x → pf i = true → Sm H H' → ∀ R : VK, (∀ H2, Sm H' H2 → R (f i) H2) → te ((wipe σ vs).set j (some x)) H' R)
    (k : ∀ p H', Sm H H' → H p = none → H' p = some (.lst (((List.range xs.length).filter pf).map f)) → Q (.ref p) H') :
    ∃ b, V.ref a = .ref b ∧ (∃ xs, SqL K H b xs) ∧ LcB (Itl K b) (gName j) tt te vs σ H Q := by
  refine ⟨a, rfl, ⟨xs, hs⟩, fun D hD => ?_⟩
  refine lc_list (xs := xs) (fun i H' => Sm H H' ∧ H' D = some (.lst (((List.range i).filter pf).map f))) ⟨same_upd hD, upd_same⟩ (fun i H' _ p => p.1.seq hs) (fun i x H' hi p => ?_) (fun H' p => k D H' p.1 hD p.2)
  show wipe ((wipe σ vs).set j (some x)) vs = wipe σ vs ∧ tt ((wipe σ vs).set j (some x)) H' _
  have li := (List.getElem?_eq_some_iff.mp hi).1
  refine ⟨hw _, ht i x H' hi p.1 _ fun H2 s2 => ?_⟩
  rw [List.range_succ, List.filter_append, List.filter_cons, List.filter_nil]
  by_cases z : pf i = true
  · rw [if_pos z, if_pos z]
    refine he i x H2 hi z (p.1.trans s2) _ fun H3 s3 => ⟨_, s3 _ _ (s2 _ _ p.2), ?_, sm_upd ((p.1.trans s2).trans s3) hD, ?_⟩
    · rw [List.length_map]
      have h1 := List.length_filter_le pf (List.range i)
      rw [List.length_range] at h1
      exact Nat.lt_of_lt_of_le (show _ < 1000000 by omega) (by decide)
    · rw [upd_same, List.map_append]
      rfl
  · rw [if_neg z, if_neg z, List.append_nil]
    exact ⟨p.1.trans s2, s2 _ _ p.2⟩
end
/-- ints of a list below c -/
def ltV (c : Int) : V → Bool
  | .int z => decide (z < c)
  | _ => false
theorem ltV_len (zs : List Int) (c : Int) : (((zs.map V.int).filter (ltV c)).map fun _ => V.int 1).length = (zs.filter fun z => decide (z < c)).length := by
  rw [List.length_map, List.filter_map, List.length_map]
  rfl
theorem step_len {d t : Nat} (l : List (List Int × List Int)) : (l.flatMap (stepS d t)).length = 2 * l.length := by
  induction l with
  | nil => rfl
  | cons x r ih => rw [List.flatMap_cons, List.length_append, ih, List.length_cons]; simp [stepS]; omega
/-- the ends' address in a state's tuple -/
def eOf (H : Hp) (a : Addr) : Addr := match H a with
  | some (.tup [_, .ref e]) => e
  | _ => 0
theorem outs_eq {d : Nat} : outsF d = (statesF d (2 ^ d - 1)).map (·.2) := by unfold outsF; rfl
/-! ### rows of ends, filtered -/
def Rws (H : Hp) (ads : List Addr) (es : List (List Int)) : Prop := ads.length = es.length ∧ ∀ (j : Nat) a e, ads[j]? = some a → es[j]? = some e → H a = some (.lst (e.map V.int))
theorem Rws.go {H H' : Hp} {ads : List Addr} {es : List (List Int)} (r : Rws H ads es) (s : Sm H H') : Rws H' ads es := ⟨r.1, fun j a e h1 h2 => s _ _ (r.2 j a e h1 h2)⟩
theorem filt_ids {es : List (List Int)} (P : List Int → Bool) : es.filter P = ((List.range es.length).filter fun i => P (es.getD i [])).map fun i => es.getD i [] := by
  rw [filter_range es (fun e => e) P []]
  simp
theorem Rws.filter {H : Hp} {ads : List Addr} {es : List (List Int)} (r : Rws H ads es) (P : List Int → Bool) : Rws H (((List.range ads.length).filter fun i => P (es.getD i [])).map fun i => ads.getD i 0) (es.filter P) := by
  rw [filt_ids P, r.1]
  refine ⟨by rw [List.length_map, List.length_map], fun j a e h1 h2 => ?_⟩
  rw [List.getElem?_map] at h1 h2
  obtain ⟨i, hi, rfl⟩ := Option.map_eq_some_iff.mp h1
  rw [hi] at h2
  cases h2
  have hm := List.mem_of_getElem? hi
  rw [List.mem_filter, List.mem_range] at hm
  refine r.2 i _ _ ?_ ?_
  · rw [List.getD_eq_getElem?_getD, List.getElem?_eq_getElem (by rw [r.1]; exact hm.1)]
    rfl
  · show es[i]? = some (es.getD i [])
    rw [List.getD_eq_getElem?_getD, List.getElem?_eq_getElem hm.1]
    rfl
theorem filt_nil {β : Type} {es : List (List Int)} (P : List Int → Bool) (g : Nat → β) : ((((List.range es.length).filter fun i => P (es.getD i [])).map g) = []) ↔ es.any P = false := by
  have e : (es.filter P = []) ↔ es.any P = false := by
    rw [List.filter_eq_nil_iff, List.any_eq_false]
  rw [← e, filt_ids P, List.map_eq_nil_iff, List.map_eq_nil_iff]
theorem Rws.dp {K : PySem.W.Frag} {H : Hp} : ∀ {ads : List Addr} {es : List (List Int)}, Rws H ads es → DpAll K H (ads.map V.ref) (es.map fun e => .list (e.map PyData.int))
  | [], [], _ => .nil
  | a :: ads, e :: es, r => .cons (.lst (.inl (.inl (r.2 0 a e rfl rfl))) (dp_ints e)) (Rws.dp ⟨by have := r.1; simpa using this, fun j b u h1 h2 => r.2 (j + 1) b u h1 h2⟩)
  | [], _ :: _, r => by have := r.1; simp at this
  | _ :: _, [], r => by have := r.1; simp at this
theorem cl_refs {H : Hp} {ps : List (Addr × Clm)} (c : Cl H ps) : RefsTo H (ps.map (·.1)) ((ps.map (·.2)).map cV) := by
  refine ⟨by rw [List.length_map, List.length_map, List.length_map], fun j a v h1 h2 => ?_⟩
  rw [List.getElem?_map] at h1 h2
  rw [List.getElem?_map] at h2
  obtain ⟨p, hp, rfl⟩ := Option.map_eq_some_iff.mp h1
  rw [hp] at h2
  cases h2
  exact c p (List.mem_of_getElem? hp)
theorem lay_rows : ∀ es : List (List Int), PyData.canLayAll0 (es.map fun e => PyData.list (e.map PyData.int)) = true
  | [] => rfl
  | e :: es => by
    have h1 := lay_ints e
    have ih := lay_rows es
    simp only [List.map_cons, PyData.canLayAll0, PyData.canLay0, h1, ih, Bool.and_self]
theorem dep_rows : ∀ es : List (List Int), PyData.depthAll (es.map fun e => PyData.list (e.map PyData.int)) ≤ 5
  | [] => by simp [PyData.depthAll]
  | e :: es => by
    have h1 := dep_ints e
    have ih := dep_rows es
    simp only [List.map_cons, PyData.depthAll, PyData.depth]
    omega
theorem shaped_rows (es : List (List Int)) : SeqAt.shaped (.list (es.map fun e => PyData.list (e.map PyData.int))) = true := by
  unfold SeqAt.shaped
  have h1 := lay_rows es
  have h2 := dep_rows es
  rw [Bool.and_eq_true]
  refine ⟨by simpa only [PyData.canLay0] using h1, decide_eq_true ?_⟩
  simp only [PyData.depth]
  omega
/-! ### bools, Nones, ints, tuples of two ints: the same -/
section
variable {K : PySem.W.Frag} {H : Hp} {Q : VK} {p a : Addr}
theorem w_isiT_t {xs : List V} (ha : H a = some (.tup xs)) (h : H p = some (.tup [.ty "list", .ty "tuple"])) (k : Q (.bl true) H) : rIsiT K [.ref a, .ref p] H Q :=
  ⟨_, _, _, _, _, true, rfl, h, .cons (.ty _) (.cons (.ty _) .nil), .base (.tup ha), kitAny_cons (kit_ty (b := "list") (r := false) (by decide +kernel)) (fun _ => kitAny_cons (kit_ty (b := "tuple") (r := true) (by decide +kernel)) (fun z => nomatch z) (fun _ => rfl)) (fun z => nomatch z), k⟩
theorem w_isi_tl {xs : List V} (ha : H a = some (.tup xs)) (k : Q (.bl false) H) : rIsi K [.ref a, .ty "list"] H Q := ⟨_, _, _, _, false, rfl, .ty _, .base (.tup ha), kit_ty (by decide +kernel), k⟩
end
def SmV (H : Hp) (u v : V) : Prop := (∃ b, u = .bl b ∧ v = .bl b) ∨ (u = .non ∧ v = .non) ∨ ∃ (p q : Addr) (i j : Int), u = .ref p ∧ v = .ref q ∧ H p = some (.tup [.int i, .int j]) ∧ H q = some (.tup [.int i, .int j])
theorem SmV.go {H H' : Hp} {u v : V} (h : SmV H u v) (e : Sm H H') : SmV H' u v := by
  rcases h with h | h | ⟨p, q, i, j, h1, h2, h3, h4⟩
  · exact .inl h
  · exact .inr (.inl h)
  · exact .inr (.inr ⟨p, q, i, j, h1, h2, e _ _ h3, e _ _ h4⟩)
def SpSm0 : Sp := fun vs H Q _ => ∃ i : Int, vs = [.int i, .int i] ∧ ∀ H', Sm H H' → Q (.bl true) H'
def SpSm1 : Sp := fun vs H Q _ => ∃ u v : V, vs = [u, v] ∧ SmV H u v ∧ ∀ H', Sm H H' → Q (.bl true) H'
def SpSm2 : Sp := fun vs H Q _ => ∃ (p q : Addr) (xs ys : List V), vs = [.ref p, .ref q] ∧ H p = some (.lst xs) ∧ H q = some (.lst ys) ∧ xs.length = ys.length ∧ ys.length ≤ 1000 ∧ (∀ (i : Nat) u v, xs[i]? = some u → ys[i]? = some v → SmV H u v) ∧ ∀ H', Sm H H' → Q (.bl true) H'
end SC

set_option Elab.async false
set_option linter.all false
set_option maxRecDepth 100000
set_option maxHeartbeats 4000000
/-! Small cups: how many results satisfy claims that fit. -/
namespace SC
open PySem PySem.Spec PyProof.Rows L2 StX
/-- the codes of all results are all lists of bits, each once -/
@[irreducible] def permB (d : Nat) : Bool := ((outsF d).map (codeF d)).isPerm (allBits (matchL d).length)
theorem perm1 : permB 1 = true := by decide +kernel
theorem perm2 : permB 2 = true := by decide +kernel
theorem perm3 : permB 3 = true := by decide +kernel
theorem codes_perm {d : Nat} (hd : 1 ≤ d ∧ d ≤ 3) : ((outsF d).map (codeF d)).Perm (allBits (matchL d).length) := by
  have h : permB d = true := by
    have : d = 1 ∨ d = 2 ∨ d = 3 := by omega
    rcases this with rfl | rfl | rfl
    · exact perm1
    · exact perm2
    · exact perm3
  unfold permB at h
  exact List.isPerm_iff.mp h
def agree (o : Option Bool) (b : Bool) : Bool := match o with
  | none => true
  | some x => x == b
def fits : List (Option Bool) → List Bool → Bool
  | [], _ => true
  | _ :: _, [] => false
  | o :: os, b :: bs => agree o b && fits os bs
theorem fits_map {α : Type} (p : α → Option Bool) (q : α → Bool) : ∀ L : List α, fits (L.map p) (L.map q) = L.all fun m => agree (p m) (q m)
  | [] => rfl
  | m :: L => by
    have ih := fits_map p q L
    rw [List.map_cons, List.map_cons, List.all_cons, ← ih]
    rfl
theorem count_step (o : Option Bool) (os : List (Option Bool)) : ∀ L : List (List Bool), (L.flatMap fun l => [false :: l, true :: l]).countP (fits (o :: os)) = (if o.isNone = true then 2 else 1) * L.countP (fits os)
  | [] => by simp
  | l :: L => by
    have ih := count_step o os L
    have e1 : fits (o :: os) (false :: l) = (agree o false && fits os l) := rfl
    have e2 : fits (o :: os) (true :: l) = (agree o true && fits os l) := rfl
    have e3 : (l :: L).countP (fits os) = L.countP (fits os) + if fits os l = true then 1 else 0 := List.countP_cons
    have e4 : List.countP (fits (o :: os)) [false :: l, true :: l] = (if o.isNone = true then 2 else 1) * (if fits os l = true then 1 else 0) := by
      rw [List.countP_cons, List.countP_cons, List.countP_nil, e1, e2]
      cases fits os l with
      | false => simp
      | true =>
        match o with
        | none => rfl
        | some true => rfl
        | some false => rfl
    rw [List.flatMap_cons, List.countP_append, ih, e3, e4, Nat.mul_add, Nat.add_comm]
theorem count_fits : ∀ os : List (Option Bool), (allBits os.length).countP (fits os) = 2 ^ (os.countP Option.isNone)
  | [] => by simp [allBits, fits]
  | o :: os => by
    have ih := count_fits os
    rw [List.length_cons]
    unfold allBits
    rw [count_step, ih, List.countP_cons]
    by_cases h : o.isNone = true
    · rw [if_pos h, if_pos h, Nat.pow_succ, Nat.mul_comm]
    · rw [if_neg h, if_neg h, Nat.one_mul, Nat.add_zero]
/-- what claims say of a match, if they decide it -/
def pickO (d : Nat) (cs : List Clm) (m : Nat × Int) : Option Bool := (cs.find? fun c => decide (1 ≤ m.1) && decide (m.1 ≤ c.2.2) && decide (ckey d c (m.1 - 1) = m.2)).map fun c => decide (cval d c (m.1 - 1) ≠ m.2)
theorem sat_fits {d : Nat} {cs : List Clm} {e : List Int} (hd : 1 ≤ d ∧ d ≤ 3) (hok : ∀ c ∈ cs, ClmOk (d : Int) c) (hp : ∀ a ∈ cs, ∀ b ∈ cs, difC d a b = false) (he : e ∈ outsF d) : cs.all (truE e) = fits ((matchL d).map (pickO d cs)) (codeF d e) := by
  unfold codeF
  rw [fits_map, Bool.eq_iff_iff, List.all_eq_true, List.all_eq_true]
  constructor
  · intro h m hm
    cases q : cs.find? fun c => decide (1 ≤ m.1) && decide (m.1 ≤ c.2.2) && decide (ckey d c (m.1 - 1) = m.2) with
    | none =>
      unfold pickO
      rw [q]
      rfl
    | some c =>
      have hc := List.mem_of_find?_eq_some q
      have kb := List.find?_some q
      simp only [Bool.and_eq_true, decide_eq_true_eq] at kb
      have v := (truE_iff hd he (hok c hc)).mp (h c hc) (m.1 - 1) (by omega)
      rw [show m.1 - 1 + 1 = m.1 by omega, kb.2] at v
      unfold pickO
      rw [q, v]
      show (decide (cval d c (m.1 - 1) ≠ m.2) == decide (cval d c (m.1 - 1) ≠ m.2)) = true
      exact beq_self_eq_true _
  · intro h c hc
    refine (truE_iff hd he (hok c hc)).mpr fun i hi => ?_
    obtain ⟨_, ⟨s1, _⟩, r1, r2⟩ := hok c hc
    have hid : i < d := by omega
    have hm := match_mem (x := ckey d c i) hid ckey_range
    have at_ := h _ hm
    have pk : pickO d cs (i + 1, ckey d c i) = some (decide (cval d c i ≠ ckey d c i)) := by
      unfold pickO
      cases q : cs.find? fun b => decide (1 ≤ i + 1) && decide (i + 1 ≤ b.2.2) && decide (ckey d b (i + 1 - 1) = ckey d c i) with
      | none =>
        have := List.find?_eq_none.mp q c hc
        refine absurd ?_ this
        rw [decide_eq_true (show 1 ≤ i + 1 by omega), decide_eq_true (show i + 1 ≤ c.2.2 from hi), decide_eq_true (show ckey d c (i + 1 - 1) = ckey d c i from rfl)]
        rfl
      | some b =>
        have hb := List.mem_of_find?_eq_some q
        have kb := List.find?_some q
        simp only [Bool.and_eq_true, decide_eq_true_eq] at kb
        have v := difC_false.mp (hp c hc b hb) i hi (by omega) kb.2
        show some (decide (cval d b (i + 1 - 1) ≠ ckey d c i)) = _
        rw [show i + 1 - 1 = i by omega, v]
    rw [pk] at at_
    have z := decide_eq_decide.mp (beq_iff_eq.mp at_)
    have w1 := wonH_or hd he hm
    have w2 := cval_half (n := (d : Int)) (c := c) (i := i) (by omega) s1
    have w1 : wonH d e (i + 1) (ckey d c i) = ckey d c i ∨ wonH d e (i + 1) (ckey d c i) = q2 ((d : Int) - ((i + 1 : Nat) : Int) + 1) + 1 - ckey d c i := w1
    have z : cval d c i ≠ ckey d c i ↔ wonH d e (i + 1) (ckey d c i) ≠ ckey d c i := z
    rcases w1 with a | a <;> rcases w2 with b | b
    · rw [a, b]
    · by_cases k : cval d c i = ckey d c i
      · rw [a, k]
      · exact absurd a (z.mp k)
    · by_cases k : wonH d e (i + 1) (ckey d c i) = ckey d c i
      · rw [k, b]
      · exact absurd b (z.mpr k)
    · rw [a, b]
/-- results that satisfy claims that fit: two for each match that they leave -/
theorem count_outs {d : Nat} {cs : List Clm} (hd : 1 ≤ d ∧ d ≤ 3) (hok : ∀ c ∈ cs, ClmOk (d : Int) c) (hp : ∀ a ∈ cs, ∀ b ∈ cs, difC d a b = false) : ((outsF d).filter fun e => cs.all (truE e)).length = 2 ^ ((matchL d).countP fun m => (pickO d cs m).isNone) := by
  rw [← List.countP_eq_length_filter]
  have e1 : (outsF d).countP (fun e => cs.all (truE e)) = (outsF d).countP (fun e => fits ((matchL d).map (pickO d cs)) (codeF d e)) := List.countP_congr fun e he => by rw [sat_fits hd hok hp he]
  have e2 := (codes_perm hd).countP_eq (fits ((matchL d).map (pickO d cs)))
  rw [List.countP_map] at e2
  have e3 := count_fits ((matchL d).map (pickO d cs))
  rw [List.length_map, List.countP_map] at e3
  rw [e1]
  exact (e2.trans e3)
/-! ### a dict of decided matches, counted -/
theorem match_len {d : Nat} (hd : 1 ≤ d ∧ d ≤ 3) : (matchL d).length = 2 ^ d - 1 := by
  have : d = 1 ∨ d = 2 ∨ d = 3 := by omega
  rcases this with rfl | rfl | rfl <;> decide +kernel
theorem match_nd {d : Nat} (hd : 1 ≤ d ∧ d ≤ 3) : (matchL d).Nodup := by
  have : d = 1 ∨ d = 2 ∨ d = 3 := by omega
  rcases this with rfl | rfl | rfl <;> decide +kernel
theorem keys_count {d : Nat} {A : List (List Key × V)} {D : Nat × Int → Bool} (hd : 1 ≤ d ∧ d ≤ 3) (nd : (A.map (·.1)).Nodup) (hk : ∀ k, k ∈ A.map (·.1) ↔ ∃ m ∈ matchL d, D m = true ∧ k = keyM ((m.1 : Int), m.2)) : A.length = (matchL d).countP D := by
  have n2 : (((matchL d).filter D).map fun m => keyM ((m.1 : Int), m.2)).Nodup := by
    refine List.Pairwise.map _ (fun a b (hab : a ≠ b) e => hab ?_) ((match_nd hd).filter D)
    obtain ⟨z1, z2⟩ := keyM_inj e
    exact Prod.ext (by omega) z2
  have p := (List.perm_ext_iff_of_nodup nd n2).mpr fun k => by
    rw [hk, List.mem_map]
    constructor
    · rintro ⟨m, hm, h1, h2⟩
      exact ⟨m, List.mem_filter.mpr ⟨hm, h1⟩, h2.symm⟩
    · rintro ⟨m, hm, h2⟩
      exact ⟨m, (List.mem_filter.mp hm).1, (List.mem_filter.mp hm).2, h2.symm⟩
  have l := p.length_eq
  rw [List.length_map, List.length_map, ← List.countP_eq_length_filter] at l
  exact l
theorem open_count {d : Nat} (cs : List Clm) (hd : 1 ≤ d ∧ d ≤ 3) : ((matchL d).countP fun m => (pickO d cs m).isNone) = 2 ^ d - 1 - (matchL d).countP fun m => (pickO d cs m).isSome := by
  have h := List.length_eq_countP_add_countP (fun m => (pickO d cs m).isSome) (l := matchL d)
  rw [match_len hd] at h
  have e : ((matchL d).countP fun m => (pickO d cs m).isNone) = (matchL d).countP fun m => decide ¬ (pickO d cs m).isSome = true := List.countP_congr fun m _ => by
    cases pickO d cs m <;> simp
  rw [e]
  omega
theorem code_of {d : Nat} (hd : 1 ≤ d ∧ d ≤ 3) (g : Nat × Int → Bool) : ∃ e ∈ outsF d, ∀ m ∈ matchL d, decide (wonH d e m.1 m.2 ≠ m.2) = g m := by
  have h := (small_d hd).2.2.1
  unfold surjB at h
  have h1 := List.all_eq_true.mp h ((matchL d).map g) (by
    have := allBits_mem ((matchL d).map g)
    rwa [List.length_map] at this)
  have h2 : (matchL d).map g ∈ (outsF d).map (codeF d) := List.contains_iff_mem.mp h1
  obtain ⟨e, he, ec⟩ := List.mem_map.mp h2
  refine ⟨e, he, fun m hm => ?_⟩
  unfold codeF at ec
  exact List.map_inj_left.mp ec m hm
/-- claims that fit imply one exactly if they decide all of its matches as it does -/
theorem follows_iff {d : Nat} {cs : List Clm} {c : Clm} (hd : 1 ≤ d ∧ d ≤ 3) (hok : ∀ c ∈ cs, ClmOk (d : Int) c) (hp : ∀ a ∈ cs, ∀ b ∈ cs, difC d a b = false) (hc : ClmOk (d : Int) c) :
    (∀ e ∈ outsF d, cs.all (truE e) = true → truE e c = true) ↔ ∀ i, i < c.2.2 → pickO d cs (i + 1, ckey d c i) = some (decide (cval d c i ≠ ckey d c i)) := by
  obtain ⟨_, ⟨s1, _⟩, r1, r2⟩ := id hc
  constructor
  · intro h i hi
    have hm := match_mem (x := ckey d c i) (show i < d by omega) ckey_range
    refine Classical.byContradiction fun k => ?_
    obtain ⟨e, he, hg⟩ := code_of hd fun m => match pickO d cs m with
      | some b => b
      | none => if m = (i + 1, ckey d c i) then !decide (cval d c i ≠ ckey d c i) else false
    have sat : cs.all (truE e) = true := by
      rw [sat_fits hd hok hp he]
      unfold codeF
      rw [fits_map, List.all_eq_true]
      intro m hm'
      rw [hg m hm']
      cases pickO d cs m with
      | none => rfl
      | some b => exact beq_self_eq_true b
    have t := (truE_iff hd he hc).mp (h e he sat) i hi
    have g := hg _ hm
    dsimp only at g
    rw [t] at g
    cases q : pickO d cs (i + 1, ckey d c i) with
    | none =>
      rw [q] at g
      dsimp only at g
      rw [if_pos rfl] at g
      revert g
      cases decide (cval d c i ≠ ckey d c i) <;> intro g <;> cases g
    | some b =>
      rw [q] at g k
      dsimp only at g
      exact k (by rw [g])
  · intro h e he sat
    refine (truE_iff hd he hc).mpr fun i hi => ?_
    have hm := match_mem (x := ckey d c i) (show i < d by omega) ckey_range
    rw [sat_fits hd hok hp he] at sat
    unfold codeF at sat
    rw [fits_map, List.all_eq_true] at sat
    have at_ := sat _ hm
    rw [h i hi] at at_
    have z := decide_eq_decide.mp (beq_iff_eq.mp at_)
    have z : cval d c i ≠ ckey d c i ↔ wonH d e (i + 1) (ckey d c i) ≠ ckey d c i := z
    have w1 := wonH_or hd he hm
    have w2 := cval_half (n := (d : Int)) (c := c) (i := i) (by omega) s1
    have w1 : wonH d e (i + 1) (ckey d c i) = ckey d c i ∨ wonH d e (i + 1) (ckey d c i) = q2 ((d : Int) - ((i + 1 : Nat) : Int) + 1) + 1 - ckey d c i := w1
    rcases w1 with a | a <;> rcases w2 with b | b
    · rw [a, b]
    · by_cases k : cval d c i = ckey d c i
      · rw [a, k]
      · exact absurd a (z.mp k)
    · by_cases k : wonH d e (i + 1) (ckey d c i) = ckey d c i
      · rw [k, b]
      · exact absurd b (z.mpr k)
    · rw [a, b]
/-- whether claims decide a match -/
theorem pick_some {d i : Nat} {x : Int} {cs : List Clm} : (pickO d cs (i + 1, x)).isSome = cs.any fun c => decide (i < c.2.2) && decide (ckey d c i = x) := by
  unfold pickO
  rw [Option.isSome_map, List.isSome_find?]
  refine congrArg (fun f => cs.any f) (funext fun c => ?_)
  show (decide (1 ≤ i + 1) && decide (i + 1 ≤ c.2.2) && decide (ckey d c (i + 1 - 1) = x)) = _
  rw [decide_eq_true (show 1 ≤ i + 1 by omega), Bool.true_and]
  rfl
end SC

set_option Elab.async false
set_option linter.all false
set_option maxRecDepth 100000
set_option maxHeartbeats 4000000
/-! Star defs that raise, a for over a dict's keys, the matches that claims decide. -/
namespace SC
open PySem PySem.Spec PyProof.Rows L2 StX
section
variable {P : Program} {w : World} {K : PySem.W.Frag} {mg : Str → Option Value} {base : Heap}
theorem okStarX {x qual : Str} {st : Stmt} {f : Addr} {fd : FuncData} {N ps : List Str} {pv : Str} {k : Nat} {sp : Sp} (F : Fun K x qual st f fd) (S : FnScope N (ps ++ [pv]) (defScope st))
    (hb : ∀ (kV doc pm : Value) (an : Option Addr) (cdv ct : Value) (us rest : List Value), us.length = ps.length → bindArgs (PySem.W.fnOf x qual (defArgs st) (defBody st) (defScope st) .none kV doc pm an cdv ct) ⟨us ++ rest, []⟩ = (newTuple rest >>= fun t => pure (ps.zip us ++ [(pv, t)])))
    (hbody : ∀ (cdv : Value) (A : Around) (outer : List Env) (s : Shared) (H : Hp) (vs : List V) (Q : VK) (E : XK), Room k (A.deeper (envOfC qual (defScope st) s.heap.objs.size f cdv)) → sp vs H Q E →
      ∃ t, PSs (cxOf (L2.CX P w) P w K mg base N qual (defScope st) f cdv A outer s H E) (defBody st) t ∧ t { nx := fun _ H' => Q .non H', rt := Q } (start N vs) H) : FnR P w K mg base (L2.CX P w) (k + 1) f (spStar ps.length sp) := by
  obtain ⟨oc, od, kV, doc, pm, an, cdv, ct, osl, rfl, lk, hcd⟩ := F.ex
  exact fn_star lk hcd S cxUp (hb kV doc pm an cdv ct) fun A outer s H vs Q E hr hsp => hbody cdv A outer s H vs Q E hr hsp
theorem okStarKX {x qual : Str} {st : Stmt} {f : Addr} {fd : FuncData} {N ps ks : List Str} {pv : Str} {k : Nat} {sp : Sp} (idx : List Nat) (hi : idx.length = ps.length) (F : Fun K x qual st f fd) (S : FnScope N (ps ++ [pv]) (defScope st))
    (hb : ∀ (kV doc pm : Value) (an : Option Addr) (cdv ct : Value) (ws : List Value), ws.length = ks.length → bindArgs (PySem.W.fnOf x qual (defArgs st) (defBody st) (defScope st) .none kV doc pm an cdv ct) ⟨[], ks.zip ws⟩ = (newTuple [] >>= fun t => pure (ps.zip (pickBy .none idx [] ws) ++ [(pv, t)])))
    (hbody : ∀ (cdv : Value) (A : Around) (outer : List Env) (s : Shared) (H : Hp) (vs : List V) (Q : VK) (E : XK), Room k (A.deeper (envOfC qual (defScope st) s.heap.objs.size f cdv)) → sp vs H Q E →
      ∃ t, PSs (cxOf (L2.CX P w) P w K mg base N qual (defScope st) f cdv A outer s H E) (defBody st) t ∧ t { nx := fun _ H' => Q .non H', rt := Q } (start N vs) H) : FnRk P w K mg base (L2.CX P w) (k + 1) f ks (spStarK idx sp) := by
  obtain ⟨oc, od, kV, doc, pm, an, cdv, ct, osl, rfl, lk, hcd⟩ := F.ex
  intro A outer s H ws zs Q E hr e0 r hl hsp
  have hn : H s.heap.objs.size = Option.none := e0.hok.fresh (Nat.le_refl _)
  refine run_bnd lk hcd S hr e0 (G := fun xs H2 => ∃ p, H p = Option.none ∧ xs = pickBy .non idx [] zs ++ [V.ref p] ∧ H2 = upd H p (.tup [])) (fun A' Ex Q' h => ?_) fun s2 H2 xs ⟨p, hp, ex, eH⟩ hr' => ?_
  · rw [hb kV doc pm an cdv ct ws (by rw [← r.length]; exact hl)]
    refine wpAny_bind (wpAny_newTuple (wpAny_pure ?_) (Nat.zero_le _))
    have new : ObjOk P w (upd H s.heap.objs.size (.tup [])) (s.heap.push ({ cls := .type "tuple", data := .seq ([] : List Value).toArray } : Obj)) s.heap.objs.size (.tup []) := ⟨Nat.zero_le _, [], .nil, ⟨_, Heap.get?_push_size _ rfl, rfl, _, rfl⟩⟩
    have un := un_laid (fs := frs outer) (s := s) (o := ({ cls := .type "tuple", data := .seq ([] : List Value).toArray } : Obj)) (u := .tup []) hn
    have r1 : Vals (pickBy .non idx [] zs) (pickBy .none idx [] ws) := vals_pick .nil r idx
    have l1 : (pickBy .none idx [] ws).length = ps.length := by rw [← hi]; simp [pickBy]
    have z := h _ _ (pickBy .non idx [] zs ++ [V.ref s.heap.objs.size]) (pickBy .none idx [] ws ++ [Value.ref s.heap.objs.size]) (env0_laid e0 new) un rfl (fun e s' => cxUp outer s H _ _ E e s' un (fun b o q => Heap.get?_push_of_some _ q) rfl) (r1.append (.cons rfl .nil))
      (by rw [List.length_append, List.length_append, r1.length, l1] <;> rfl) ⟨_, hn, rfl, rfl⟩
    rw [List.zip_append l1.symm] at z
    exact z
  · subst ex eH
    exact hbody cdv A outer s2 _ _ Q E hr' (hsp p hp)
end
section
variable {X : Cx} {CX : CXT} {k : Nat} {f : Addr} {ks : List Str} {sp : Sp} {E : L2.St → XK} {x : Str} {p pos : Pos} {e : Expr} {es : List Expr} {t tk : TA}
theorem run_fnRS {pins : List (Addr × Obj)} {σ : L2.St} {H : Hp} {s : Shared} {Q : VK} {us : List Value} {vs : List V} (F : FnR X.prog X.w X.K X.mg X.base CX k f sp) (hr : Room k X.A) (hx : PassesAt CX X σ (E σ)) (I : Inv X pins σ H s) (r : Vals vs us) (h : sp vs H Q (E σ)) :
    codeAny (model X.prog X.w) X.A (.call (.ref f) ⟨us, []⟩) (fun r s' => match r with | .ok (.ret v) => EP X pins σ Q v s' | .ok _ => False | .error e => X.xe e s') s := by
  refine codeAny_mono (F X.A X.stack s H us vs Q (E σ) hr I.env0 r h) fun r s' hq => ?_
  cases r with
  | error e => exact hx pins H s e s' I hq
  | ok fl =>
    cases fl with
    | ret u => exact I.after hq
    | next => exact False.elim hq
    | brk => exact False.elim hq
    | cont => exact False.elim hq
def tCallRS (sp : Sp) (E : L2.St → XK) (t : TA) : TE := fun σ H Q => t σ H fun vs H1 => sp vs H1 Q (E σ)
theorem pe_callRS (F : FnR X.prog X.w X.K X.mg X.base CX k f sp) (hr : Room k X.A) (hg : Gl X x) (hm : X.mg x = some (.ref f)) (hk : PySem.W.keepIn X.K (.ref f) = true) (hx : ∀ σ, PassesAt CX X σ (E σ))
    (ha : PA X (e :: es) t) (hdb : (x == ("__debug__" : Str)) = false := by decide) (he : starEach (e :: es) X.env = (false, eval e X.env) :: starEach es X.env := by rfl) (hpl : (backTo pos (starEach es X.env)).any (·.1) = false := by rfl) :
    PE X (.Call (.Name x p) (e :: es) [] pos) (tCallRS sp E t) := by
  refine ⟨fun pins s σ H Q I h => ?_⟩
  refine wpAny_Call_Name_kw (ld_glob I hg hm ?_ hdb)
  refine PySem.W.callWith_K (h₀ := X.base) I.ok.mod.kin hk (thn (ha.run pos pins s σ H _ I h) fun us s1 ⟨vs, H1, I1, r, q⟩ => ⟨I1.kIn, ?_⟩) he hpl
  exact wpAny_call (run_fnRS F hr (hx σ) I1 r q)
/-- f(e, .., *y), f may raise -/
theorem pe_callR2S (F : FnR X.prog X.w X.K X.mg X.base CX k f sp) (hr : Room k X.A) (hg : Gl X x) (hm : X.mg x = some (.ref f)) (hk : PySem.W.keepIn X.K (.ref f) = true) (hx : ∀ σ, PassesAt CX X σ (E σ)) (ha : PA X (e :: es) t) (hd : (x == ("__debug__" : Str)) = false := by decide)
    (he : starEach (e :: es) X.env = (false, eval e X.env) :: starEach es X.env := by rfl) (hst : (backTo pos (starEach es X.env)).any (·.1) = true := by rfl) :
    PE X (.Call (.Name x p) (e :: es) [] pos) (tCallRS sp E t) := by
  refine ⟨fun pins s σ H Q I h => ?_⟩
  refine wpAny_Call_Name_kw (ld_glob I hg hm ?_ hd)
  refine PySem.W.callWith_S2 (h₀ := X.base) I.ok.mod.kin hk (thn (ha.run pos pins s σ H _ I h) fun us s1 ⟨vs, H1, I1, r, q⟩ => ⟨I1.kIn, ?_⟩) he hst
  exact wpAny_call (run_fnRS F hr (hx σ) I1 r q)
theorem w_callRS {σ : L2.St} {H : Hp} {Q : VK} (k : t σ H fun vs H1 => sp vs H1 Q (E σ)) : tCallRS sp E t σ H Q := k
end
/-! ### for k in d, d a dict with tuple keys -/
theorem w_forK {σ : L2.St} {H : Hp} {D : Ends} {tb : TS} {g : TG} {n : Nat} {d : Addr} {kvs : List (List Key × V)} (hv : σ[n]? = some (some (.ref d))) (hd : H d = some (.dT kvs)) (Pv : Nat → L2.St → Hp → Prop)
    (h0 : Pv 0 σ H)
    (hs : ∀ (od : Obj) (i : Nat) (k : List Key) (v : V) (q : Addr) (σ' : L2.St) (H' H0 : Hp), kvs[i]? = some (k, v) → H' d = some (.dT kvs) → Pv i σ' H' → H0 = L2.upd H' d (.frz od (.dT kvs)) → H0 q = some (.tup (k.map kV)) →
      ∀ D' : Ends, (∀ σ2 H2, H2 d = some (.frz od (.dT kvs)) → Pv (i + 1) σ2 (L2.upd H2 d (.dT kvs)) → D'.nx σ2 H2) → (∀ σ2 H2, H2 d = some (.frz od (.dT kvs)) → Pv (i + 1) σ2 (L2.upd H2 d (.dT kvs)) → D'.ct σ2 H2) → (∀ v H2, H2 d = some (.frz od (.dT kvs)) → D.rt v (L2.upd H2 d (.dT kvs)) → D'.rt v H2) →
      g (.ref q) σ' H0 fun σ2 H2 => tb D' σ2 H2)
    (he : ∀ σ' H', H' d = some (.dT kvs) → Pv kvs.length σ' H' → D.nx σ' H') : tLock (tFor (iKeys (tVar n)) g tb) D σ H := by
  refine ⟨d, _, hd, True.intro, fun od => ?_⟩
  refine ⟨_, hv, d, od, rfl, .inr ⟨kvs, upd_same, ?_⟩⟩
  have back : ∀ H' : Hp, H' d = some (.frz od (.dT kvs)) → L2.upd (L2.upd H' d (.dT kvs)) d (.frz od (.dT kvs)) = H' := fun H' h => by
    funext b
    by_cases c : b = d
    · subst c; rw [upd_same, h]
    · rw [upd_ne c, upd_ne c]
  have fore : L2.upd (L2.upd H d (.frz od (.dT kvs))) d (.dT kvs) = H := by
    funext b
    by_cases c : b = d
    · subst c; rw [upd_same, hd]
    · rw [upd_ne c, upd_ne c]
  refine ⟨fun i m σ' H' => m = kvs.length - i ∧ i ≤ kvs.length ∧ H' d = some (.frz od (.dT kvs)) ∧ Pv i σ' (L2.upd H' d (.dT kvs)), ⟨_, rfl, Nat.zero_le _, upd_same, by rw [fore]; exact h0⟩, ?_⟩
  rintro i m σ' H' ⟨rfl, hi, at1, p⟩
  by_cases hlt : i < kvs.length
  · refine .inr ⟨⟨at1, hlt⟩, fun σ2 H2 => H2 d = some (.frz od (.dT kvs)) ∧ Pv (i + 1) σ2 (L2.upd H2 d (.dT kvs)), fun σ2 H2 h2 => ⟨_, ?_, rfl, hlt, h2.1, h2.2⟩, fun x H3 y => ?_⟩
    · omega
    · obtain ⟨rfl, kk, v, q, hx, rfl, hq⟩ := y
      exact hs od i kk v q σ' _ H3 hx upd_same p (back _ at1).symm hq _ (fun σ2 H2 a b => ⟨a, b⟩) (fun σ2 H2 a b => ⟨a, b⟩) (fun v H2 a b => ⟨a, b⟩)
  · have e : i = kvs.length := by omega
    subst e
    exact .inl ⟨⟨at1, Nat.le_refl _⟩, at1, he _ _ upd_same p⟩
theorem w_dnewT {σ : L2.St} {H : Hp} {Q : VK} (k : ∀ p H', Sm H H' → H p = none → H' p = some (.dT []) → Q (.ref p) H') : tDNewT σ H Q := fun p hp => k p _ (same_upd hp) hp upd_same
theorem w_lenDT {H : Hp} {Q : VK} {a : Addr} {kvs : List (List Key × V)} (e : H a = some (.dT kvs)) (k : Q (.int ((kvs.length : Nat) : Int)) H) : rLenT [.ref a] H Q := ⟨a, kvs, rfl, e, k⟩
theorem unlock_upd {H : Hp} {d A : Addr} {u x f : HO} (hd : H d = some u) (n : A ≠ d) : L2.upd (L2.upd (L2.upd H d f) A x) d u = L2.upd H A x := by
  funext b
  by_cases c : b = d
  · subst c
    rw [upd_same, upd_ne (Ne.symm n), hd]
  · rw [upd_ne c]
    by_cases c2 : b = A
    · subst c2
      rw [upd_same, upd_same]
    · rw [upd_ne c2, upd_ne c2, upd_ne c]
theorem unlock {H : Hp} {d : Addr} {u f : HO} (hd : H d = some u) : L2.upd (L2.upd H d f) d u = H := by
  funext b
  by_cases c : b = d
  · subst c; rw [upd_same, hd]
  · rw [upd_ne c, upd_ne c]
/-! ### what claims decide together -/
abbrev dC (n : Int) (c : Clm) : List (List Key × V) := decs n c.2.1 c.1 c.2.2
def addD (ks a told : List (List Key × V)) : List (List Key × V) := told.foldl (fun a e => if (valV ks e.1).isSome = true then a else putK a e.1 e.2) a
def mergeC (n : Int) (ks : List (List Key × V)) (cs : List Clm) : List (List Key × V) := cs.foldl (fun a c => addD ks a (dC n c)) []
theorem addD_snoc {ks a told : List (List Key × V)} {e : List Key × V} : addD ks a (told ++ [e]) = if (valV ks e.1).isSome = true then addD ks a told else putK (addD ks a told) e.1 e.2 := by
  unfold addD
  rw [List.foldl_append]
  rfl
theorem addD_len {ks : List (List Key × V)} : ∀ (told a : List (List Key × V)), (addD ks a told).length ≤ a.length + told.length
  | [], a => by simp [addD]
  | e :: r, a => by
    have ih := addD_len (ks := ks) r (if (valV ks e.1).isSome = true then a else putK a e.1 e.2)
    have h : (if (valV ks e.1).isSome = true then a else putK a e.1 e.2).length ≤ a.length + 1 := by
      split
      · omega
      · exact length_putK _ _ _
    show (addD ks (if (valV ks e.1).isSome = true then a else putK a e.1 e.2) r).length ≤ _
    rw [List.length_cons]
    omega
theorem addD_int {ks : List (List Key × V)} : ∀ (told a : List (List Key × V)), IntD a → IntD told → IntD (addD ks a told)
  | [], a, h, _ => h
  | e :: r, a, h, ht => by
    refine addD_int (ks := ks) r _ ?_ fun p hp => ht p (List.mem_cons_of_mem _ hp)
    dsimp only
    split
    · exact h
    · obtain ⟨z, hz⟩ := ht e List.mem_cons_self
      rw [hz]
      exact h.put
theorem addD_nd {ks : List (List Key × V)} : ∀ (told a : List (List Key × V)), (a.map (·.1)).Nodup → ((addD ks a told).map (·.1)).Nodup
  | [], a, h => h
  | e :: r, a, h => by
    refine addD_nd (ks := ks) r _ ?_
    dsimp only
    split
    · exact h
    · exact nodup_put h
theorem addD_val {ks : List (List Key × V)} {k : List Key} : ∀ (told a : List (List Key × V)), (told.map (·.1)).Nodup → valV (addD ks a told) k = if (valV ks k).isSome = true then valV a k else match valV told k with | some v => some v | none => valV a k
  | [], a, _ => by
    show valV a k = _
    split <;> rfl
  | e :: r, a, h => by
    rw [List.map_cons, List.nodup_cons] at h
    have ih := addD_val (ks := ks) (k := k) r (if (valV ks e.1).isSome = true then a else putK a e.1 e.2) h.2
    show valV (addD ks (if (valV ks e.1).isSome = true then a else putK a e.1 e.2) r) k = _
    rw [ih]
    by_cases c : e.1 = k
    · have n : valV r k = none := valV_none fun p hp z => h.1 (by rw [c, ← z]; exact List.mem_map.mpr ⟨p, hp, rfl⟩)
      rw [valV_pos c, n]
      by_cases q : (valV ks k).isSome = true
      · rw [if_pos q, if_pos q, c, if_pos q]
      · rw [if_neg q, if_neg q, c, if_neg q]
        show valV (putK a k e.2) k = _
        rw [valV_put, if_pos rfl]
    · rw [valV_neg c]
      have z : valV (if (valV ks e.1).isSome = true then a else putK a e.1 e.2) k = valV a k := by
        split
        · rfl
        · rw [valV_put, if_neg fun z => c z.symm]
      rw [z]
theorem val_mem {A : List (List Key × V)} {k : List Key} {v : V} (h : valV A k = some v) : (k, v) ∈ A := by
  unfold valV at h
  obtain ⟨p, hp, rfl⟩ := Option.map_eq_some_iff.mp h
  have m := List.mem_of_find?_eq_some hp
  have e : p.1 = k := by
    have z := List.find?_some hp
    simpa using z
  rw [← e]
  exact m
theorem mem_val {A : List (List Key × V)} {k : List Key} {v : V} (nd : (A.map (·.1)).Nodup) (h : (k, v) ∈ A) : valV A k = some v := by
  obtain ⟨i, hi⟩ := List.getElem?_of_mem h
  exact valV_mem nd hi
theorem dif_any {A B : List (List Key × V)} (nd : (A.map (·.1)).Nodup) : A.any (difT B) = false ↔ ∀ k v v', valV A k = some v → valV B k = some v' → v = v' := by
  rw [List.any_eq_false]
  constructor
  · intro h k v v' h1 h2
    have z := h (k, v) (val_mem h1)
    unfold difT at z
    rw [h2] at z
    simp at z
    exact z.symm
  · rintro h ⟨k, v⟩ hm z
    unfold difT at z
    cases q : valV B k with
    | none => rw [q] at z; simp at z
    | some v' =>
      rw [q] at z
      have := h k v v' (mem_val nd hm) q
      subst this
      simp at z
theorem con_allD {A B : List (List Key × V)} (nd : (A.map (·.1)).Nodup) : A.all (conT B) = true ↔ ∀ k v, valV A k = some v → valV B k = some v := by
  rw [List.all_eq_true]
  constructor
  · intro h k v h1
    have z := h (k, v) (val_mem h1)
    unfold conT at z
    cases q : valV B k with
    | none => rw [q] at z; simp at z
    | some v' =>
      rw [q] at z
      simp at z
      rw [z]
  · rintro h ⟨k, v⟩ hm
    unfold conT
    rw [h k v (mem_val nd hm)]
    simp
theorem pair_val {n : Int} {a b : Clm} (ha : 1 ≤ a.2.2) (hb : 1 ≤ b.2.2) : difC n a b = false ↔ ∀ k v v', valV (dC n a) k = some v → valV (dC n b) k = some v' → v = v' := by
  rw [← dif_decs ha hb]
  exact dif_any decs_nd
theorem fold_val {n : Int} {ks : List (List Key × V)} : ∀ (cs : List Clm) (a : List (List Key × V)), (∀ c ∈ cs, 1 ≤ c.2.2) → (∀ x ∈ cs, ∀ y ∈ cs, difC n x y = false) → (∀ c ∈ cs, ∀ k v v', valV a k = some v → valV (dC n c) k = some v' → v = v') →
    ∀ k v, valV (cs.foldl (fun a c => addD ks a (dC n c)) a) k = some v ↔ valV a k = some v ∨ (valV ks k = none ∧ ∃ c ∈ cs, valV (dC n c) k = some v)
  | [], a, _, _, _, k, v => by simp
  | c :: r, a, h1, hp, ha, k, v => by
    have h1c := h1 c List.mem_cons_self
    have ad : ∀ k, valV (addD ks a (dC n c)) k = if (valV ks k).isSome = true then valV a k else match valV (dC n c) k with | some v => some v | none => valV a k := fun k => addD_val _ _ decs_nd
    have ih := fold_val (n := n) (ks := ks) r (addD ks a (dC n c)) (fun x hx => h1 x (List.mem_cons_of_mem _ hx)) (fun x hx y hy => hp x (List.mem_cons_of_mem _ hx) y (List.mem_cons_of_mem _ hy)) (fun x hx k v v' q1 q2 => by
      rw [ad] at q1
      split at q1
      · exact ha x (List.mem_cons_of_mem _ hx) k v v' q1 q2
      · cases q : valV (dC n c) k with
        | none => rw [q] at q1; exact ha x (List.mem_cons_of_mem _ hx) k v v' q1 q2
        | some u =>
          rw [q] at q1
          cases q1
          exact (pair_val h1c (h1 x (List.mem_cons_of_mem _ hx))).mp (hp c List.mem_cons_self x (List.mem_cons_of_mem _ hx)) k _ _ q q2) k v
    show valV (r.foldl (fun a c => addD ks a (dC n c)) (addD ks a (dC n c))) k = some v ↔ _
    rw [ih, ad]
    cases qk : valV ks k with
    | some u =>
      rw [if_pos (show (some u).isSome = true from rfl)]
      constructor
      · rintro (h | ⟨h, _⟩)
        · exact .inl h
        · cases h
      · rintro (h | ⟨h, _⟩)
        · exact .inl h
        · cases h
    | none =>
      rw [if_neg (by simp)]
      cases qc : valV (dC n c) k with
      | none =>
        constructor
        · rintro (h | ⟨_, x, hx, h⟩)
          · exact .inl h
          · exact .inr ⟨rfl, x, List.mem_cons_of_mem _ hx, h⟩
        · rintro (h | ⟨_, x, hx, h⟩)
          · exact .inl h
          · rcases List.mem_cons.mp hx with e | hx
            · rw [e, qc] at h; cases h
            · exact .inr ⟨rfl, x, hx, h⟩
      | some u =>
        constructor
        · rintro (h | ⟨_, x, hx, h⟩)
          · cases h
            exact .inr ⟨rfl, c, List.mem_cons_self, qc⟩
          · exact .inr ⟨rfl, x, List.mem_cons_of_mem _ hx, h⟩
        · rintro (h | ⟨_, x, hx, h⟩)
          · exact .inl (by rw [ha c List.mem_cons_self k v u h qc])
          · rcases List.mem_cons.mp hx with e | hx
            · rw [e, qc] at h; exact .inl h
            · exact .inr ⟨rfl, x, hx, h⟩
theorem merge_val {n : Int} {ks : List (List Key × V)} {cs : List Clm} (h1 : ∀ c ∈ cs, 1 ≤ c.2.2) (hp : ∀ x ∈ cs, ∀ y ∈ cs, difC n x y = false) {k : List Key} {v : V} : valV (mergeC n ks cs) k = some v ↔ valV ks k = none ∧ ∃ c ∈ cs, valV (dC n c) k = some v := by
  have h := fold_val (n := n) (ks := ks) cs [] h1 hp (fun _ _ k v v' q => by cases q) k v
  unfold mergeC
  rw [h]
  constructor
  · rintro (q | q)
    · cases q
    · exact q
  · exact .inr
theorem merge_snoc {n : Int} {ks : List (List Key × V)} {cs : List Clm} {c : Clm} : mergeC n ks (cs ++ [c]) = addD ks (mergeC n ks cs) (dC n c) := by
  unfold mergeC
  rw [List.foldl_append]
  rfl
theorem fold_int {n : Int} {ks : List (List Key × V)} : ∀ (cs : List Clm) (a : List (List Key × V)), IntD a → IntD (cs.foldl (fun a c => addD ks a (dC n c)) a)
  | [], _, h => h
  | c :: r, a, h => fold_int r _ (addD_int _ _ h decs_int)
theorem merge_int {n : Int} {ks : List (List Key × V)} {cs : List Clm} : IntD (mergeC n ks cs) := fold_int cs [] fun p hp => by cases hp
theorem fold_nd {n : Int} {ks : List (List Key × V)} : ∀ (cs : List Clm) (a : List (List Key × V)), (a.map (·.1)).Nodup → ((cs.foldl (fun a c => addD ks a (dC n c)) a).map (·.1)).Nodup
  | [], _, h => h
  | c :: r, a, h => fold_nd r _ (addD_nd _ _ h)
theorem merge_nd {n : Int} {ks : List (List Key × V)} {cs : List Clm} : ((mergeC n ks cs).map (·.1)).Nodup := fold_nd cs [] (by simp)
theorem dC_len {n : Int} {c : Clm} (h : 1 ≤ c.2.2) : (dC n c).length = c.2.2 := by
  unfold dC
  rw [decs_ent h, List.length_map, List.length_range]
theorem fold_len {n : Int} {ks : List (List Key × V)} : ∀ (cs : List Clm) (a : List (List Key × V)), (∀ c ∈ cs, 1 ≤ c.2.2 ∧ c.2.2 ≤ 100) → (cs.foldl (fun a c => addD ks a (dC n c)) a).length ≤ a.length + 100 * cs.length
  | [], a, _ => by simp
  | c :: r, a, h => by
    have ih := fold_len (n := n) (ks := ks) r (addD ks a (dC n c)) fun x hx => h x (List.mem_cons_of_mem _ hx)
    have l := addD_len (ks := ks) (dC n c) a
    have hc := h c List.mem_cons_self
    rw [dC_len hc.1] at l
    rw [List.length_cons]
    show (r.foldl (fun a c => addD ks a (dC n c)) (addD ks a (dC n c))).length ≤ _
    omega
theorem merge_len {n : Int} {ks : List (List Key × V)} {cs : List Clm} (h : ∀ c ∈ cs, 1 ≤ c.2.2 ∧ c.2.2 ≤ 100) : (mergeC n ks cs).length ≤ 100 * cs.length := by
  have := fold_len (n := n) (ks := ks) cs [] h
  simpa [mergeC] using this
/-- claims fit: with what is decided, and with one another -/
def Fit (n : Int) (ks : List (List Key × V)) (cs : List Clm) : Prop := (∀ c ∈ cs, (dC n c).any (difT ks) = false) ∧ ∀ a ∈ cs, ∀ b ∈ cs, difC n a b = false
theorem Fit.mono {n : Int} {ks : List (List Key × V)} {cs ds : List Clm} (h : Fit n ks cs) (hs : ∀ c ∈ ds, c ∈ cs) : Fit n ks ds := ⟨fun c hc => h.1 c (hs c hc), fun a ha b hb => h.2 a (hs a ha) b (hs b hb)⟩
theorem fit_nil {n : Int} {ks : List (List Key × V)} : Fit n ks [] := And.intro (fun _ h => absurd h List.not_mem_nil) (fun _ h => absurd h List.not_mem_nil)
theorem fit_step {n : Int} {ks : List (List Key × V)} {cs : List Clm} {c : Clm} (h : Fit n ks cs) (h1 : ∀ c ∈ cs, 1 ≤ c.2.2) (hc : 1 ≤ c.2.2) : Fit n ks (cs ++ [c]) ↔ (dC n c).any (difT ks) = false ∧ (dC n c).any (difT (mergeC n ks cs)) = false := by
  constructor
  · intro f
    have a := f.1 c (by simp)
    refine ⟨a, (dif_any decs_nd).mpr fun k v v' q1 q2 => ?_⟩
    obtain ⟨_, b, hb, q3⟩ := (merge_val h1 h.2).mp q2
    exact (pair_val hc (h1 b hb)).mp (f.2 c (by simp) b (by simp [hb])) k v v' q1 q3
  · rintro ⟨a, m⟩
    have cb : ∀ b ∈ cs, difC n c b = false := fun b hb => (pair_val hc (h1 b hb)).mpr fun k v v' q1 q2 => by
      cases qk : valV ks k with
      | some u =>
        have z1 := (dif_any decs_nd).mp a k v u q1 qk
        have z2 := (dif_any decs_nd).mp (h.1 b hb) k v' u q2 qk
        rw [z1, z2]
      | none => exact (dif_any decs_nd).mp m k v v' q1 ((merge_val h1 h.2).mpr ⟨qk, b, hb, q2⟩)
    refine ⟨fun x hx => ?_, fun x hx y hy => ?_⟩
    · rcases List.mem_append.mp hx with hx | hx
      · exact h.1 x hx
      · rw [List.mem_singleton.mp hx]; exact a
    · rcases List.mem_append.mp hx with hx | hx <;> rcases List.mem_append.mp hy with hy | hy
      · exact h.2 x hx y hy
      · rw [List.mem_singleton.mp hy]; exact difC_sym (cb x hx)
      · rw [List.mem_singleton.mp hx]; exact cb y hy
      · rw [List.mem_singleton.mp hx, List.mem_singleton.mp hy]; exact difC_self
theorem fit0 {n : Int} {cs : List Clm} : Fit n [] cs ↔ ∀ a ∈ cs, ∀ b ∈ cs, difC n a b = false := by
  refine ⟨fun h => h.2, fun h => ⟨fun c _ => ?_, h⟩⟩
  rw [List.any_eq_false]
  intro p _ z
  unfold difT at z
  rw [valV_nil] at z
  simp at z
/-! ### in small cups -/
theorem ent_key {d : Nat} {c : Clm} {k : List Key} {v : V} (h : 1 ≤ c.2.2) : valV (dC (d : Int) c) k = some v ↔ ∃ i, i < c.2.2 ∧ k = keyM (1 + (i : Int), ckey d c i) ∧ v = .int (cval d c i) := by
  unfold dC
  rw [decs_ent h]
  constructor
  · intro q
    obtain ⟨i, hi, e⟩ := List.mem_map.mp (val_mem q)
    have e1 := congrArg Prod.fst e
    have e2 := congrArg Prod.snd e
    exact ⟨i, List.mem_range.mp hi, e1.symm, e2.symm⟩
  · rintro ⟨i, hi, rfl, rfl⟩
    rw [ent_val, if_pos ⟨hi, rfl⟩]
theorem pick_iff {d i : Nat} {x : Int} {cs : List Clm} {b : Bool} (hp : ∀ a ∈ cs, ∀ b ∈ cs, difC d a b = false) : pickO d cs (i + 1, x) = some b ↔ ∃ c ∈ cs, i < c.2.2 ∧ ckey d c i = x ∧ b = decide (cval d c i ≠ x) := by
  unfold pickO
  constructor
  · intro h
    obtain ⟨c, hc, rfl⟩ := Option.map_eq_some_iff.mp h
    have kb := List.find?_some hc
    simp only [Bool.and_eq_true, decide_eq_true_eq] at kb
    exact ⟨c, List.mem_of_find?_eq_some hc, by omega, kb.2, rfl⟩
  · rintro ⟨c, hc, hi, hx, rfl⟩
    cases q : cs.find? fun b => decide (1 ≤ ((i + 1, x) : Nat × Int).1) && decide (((i + 1, x) : Nat × Int).1 ≤ b.2.2) && decide (ckey d b (((i + 1, x) : Nat × Int).1 - 1) = ((i + 1, x) : Nat × Int).2) with
    | none =>
      have := List.find?_eq_none.mp q c hc
      refine absurd ?_ this
      simp only [Bool.and_eq_true, decide_eq_true_eq]
      exact ⟨⟨by omega, hi⟩, hx⟩
    | some e =>
      have he := List.mem_of_find?_eq_some q
      have kb := List.find?_some q
      simp only [Bool.and_eq_true, decide_eq_true_eq] at kb
      have v := difC_false.mp (hp c hc e he) i hi (by omega) (by rw [hx]; exact kb.2)
      show some (decide (cval d e i ≠ x)) = _
      rw [v]
theorem merge_count {d : Nat} {cs : List Clm} (hd : 1 ≤ d ∧ d ≤ 3) (hok : ∀ c ∈ cs, ClmOk (d : Int) c) (hp : ∀ a ∈ cs, ∀ b ∈ cs, difC d a b = false) : (mergeC (d : Int) [] cs).length = (matchL d).countP fun m => (pickO d cs m).isSome := by
  have h1 : ∀ c ∈ cs, 1 ≤ c.2.2 := fun c hc => (hok c hc).2.2.1
  refine keys_count hd merge_nd fun k => ?_
  constructor
  · intro hk
    obtain ⟨⟨k', v⟩, hm, rfl⟩ := List.mem_map.mp hk
    obtain ⟨_, c, hc, q⟩ := (merge_val h1 hp).mp (mem_val merge_nd hm)
    obtain ⟨i, hi, rfl, rfl⟩ := (ent_key (h1 c hc)).mp q
    have r2 : (c.2.2 : Int) ≤ (d : Int) := (hok c hc).2.2.2
    refine ⟨(i + 1, ckey d c i), match_mem (by omega) ckey_range, ?_, ?_⟩
    · rw [(pick_iff hp).mpr ⟨c, hc, hi, rfl, rfl⟩]
      rfl
    · show keyM (1 + (i : Int), ckey d c i) = keyM (((i + 1 : Nat) : Int), ckey d c i)
      rw [show ((i + 1 : Nat) : Int) = 1 + (i : Int) by omega]
  · rintro ⟨⟨t, x⟩, hm, hs, rfl⟩
    obtain ⟨b, hb⟩ := Option.isSome_iff_exists.mp hs
    have t1 : 1 ≤ t := by
      unfold matchL at hm
      obtain ⟨j, _, hm⟩ := List.mem_flatMap.mp hm
      obtain ⟨_, _, e⟩ := List.mem_map.mp hm
      have := congrArg Prod.fst e
      simp only at this
      omega
    obtain ⟨i, rfl⟩ : ∃ i, t = i + 1 := ⟨t - 1, by omega⟩
    obtain ⟨c, hc, hi, hx, _⟩ := (pick_iff hp).mp hb
    have q : valV (mergeC (d : Int) [] cs) (keyM (((i + 1 : Nat) : Int), x)) = some (.int (cval d c i)) := (merge_val h1 hp).mpr ⟨rfl, c, hc, (ent_key (h1 c hc)).mpr ⟨i, hi, by rw [hx, show ((i + 1 : Nat) : Int) = 1 + (i : Int) by omega], rfl⟩⟩
    exact List.mem_map.mpr ⟨_, val_mem q, rfl⟩
theorem merge_holds {d : Nat} {cs : List Clm} {c : Clm} (hd : 1 ≤ d ∧ d ≤ 3) (hok : ∀ c ∈ cs, ClmOk (d : Int) c) (hp : ∀ a ∈ cs, ∀ b ∈ cs, difC d a b = false) (hc : ClmOk (d : Int) c) :
    (dC (d : Int) c).all (conT (mergeC (d : Int) [] cs)) = true ↔ ∀ i, i < c.2.2 → pickO d cs (i + 1, ckey d c i) = some (decide (cval d c i ≠ ckey d c i)) := by
  have h1 : ∀ c ∈ cs, 1 ≤ c.2.2 := fun c hc => (hok c hc).2.2.1
  have c1 : 1 ≤ c.2.2 := hc.2.2.1
  have r2 : (c.2.2 : Int) ≤ (d : Int) := hc.2.2.2
  rw [con_allD decs_nd]
  constructor
  · intro h i hi
    have q := h _ _ ((ent_key c1).mpr ⟨i, hi, rfl, rfl⟩)
    obtain ⟨_, b, hb, q⟩ := (merge_val h1 hp).mp q
    obtain ⟨j, hj, ek, ev⟩ := (ent_key (h1 b hb)).mp q
    obtain ⟨z1, z2⟩ := keyM_inj ek
    have : j = i := by omega
    subst this
    refine (pick_iff hp).mpr ⟨b, hb, hj, z2.symm, ?_⟩
    rw [V.int.inj ev]
  · intro h k v q
    obtain ⟨i, hi, rfl, rfl⟩ := (ent_key c1).mp q
    obtain ⟨b, hb, hj, hx, e⟩ := (pick_iff hp).mp (h i hi)
    have w1 := cval_half (n := (d : Int)) (c := c) (i := i) (by omega) hc.2.1.1
    have w2 := cval_half (n := (d : Int)) (c := b) (i := i) (by omega) (hok b hb).2.1.1
    rw [hx] at w2
    have z : cval d c i ≠ ckey d c i ↔ cval d b i ≠ ckey d c i := decide_eq_decide.mp e
    have ev : cval d b i = cval d c i := by
      by_cases k : cval d c i = ckey d c i
      · have k2 : cval d b i = ckey d c i := Classical.byContradiction fun x => (z.mpr x) k
        rw [k, k2]
      · have k2 := z.mp k
        rcases w1 with a | a
        · exact absurd a k
        · rcases w2 with b | b
          · exact absurd b k2
          · rw [a, b]
    exact (merge_val h1 hp).mpr ⟨rfl, b, hb, (ent_key (h1 b hb)).mpr ⟨i, hj, by rw [hx], by rw [ev]⟩⟩
/-- every result has a seed that lost in the first round -/
@[irreducible] def onesB (d : Nat) : Bool := (outsF d).all fun e => (brF d).any fun s => decide (e.getD (s - 1).toNat 0 = 1)
theorem ones1 : onesB 1 = true := by decide +kernel
theorem ones2 : onesB 2 = true := by decide +kernel
theorem ones3 : onesB 3 = true := by decide +kernel
theorem outs_one {d : Nat} {e : List Int} (hd : 1 ≤ d ∧ d ≤ 3) (he : e ∈ outsF d) : ∃ s ∈ brF d, e.getD (s - 1).toNat 0 = 1 := by
  have h : onesB d = true := by
    have : d = 1 ∨ d = 2 ∨ d = 3 := by omega
    rcases this with rfl | rfl | rfl
    · exact ones1
    · exact ones2
    · exact ones3
  unfold onesB at h
  obtain ⟨s, hs, z⟩ := List.any_eq_true.mp (List.all_eq_true.mp h e he)
  exact ⟨s, hs, of_decide_eq_true z⟩
theorem br_mem {d : Nat} {s : Int} (hd : 1 ≤ d ∧ d ≤ 3) (h : s ∈ brF d) : 1 ≤ s ∧ s ≤ ((2 ^ d : Nat) : Int) := (state_ok hd (t := 0) (j := 0) (s := (brF d, List.replicate (2 ^ d) ((d : Int) + 1))) (Nat.two_pow_pos d) rfl).2.2 s h
theorem outs_pos {d : Nat} (hd : 1 ≤ d ∧ d ≤ 3) : 1 ≤ (outsF d).length := by
  rw [outs_eq, List.length_map, states_len]
  exact Nat.two_pow_pos _
/-- seeds that lost in the first round, among values -/
def oneV (e : List Int) : V → Bool
  | .int s => decide (e.getD (s - 1).toNat 0 = 1)
  | _ => false
theorem one_pick {d : Nat} {e : List Int} (hd : 1 ≤ d ∧ d ≤ 3) (he : e ∈ outsF d) : ∃ s rest, ((((brF d).map V.int).filter (oneV e)).map fun x => x) = V.int s :: rest ∧ s ∈ brF d := by
  obtain ⟨s, hs, h1⟩ := outs_one hd he
  have hm : V.int s ∈ ((brF d).map V.int).filter (oneV e) := List.mem_filter.mpr ⟨List.mem_map.mpr ⟨s, hs, rfl⟩, decide_eq_true h1⟩
  rw [List.map_id'']
  · cases q : ((brF d).map V.int).filter (oneV e) with
    | nil => rw [q] at hm; cases hm
    | cons x r =>
      have hx : x ∈ ((brF d).map V.int).filter (oneV e) := by rw [q]; exact List.mem_cons_self
      obtain ⟨y, hy, rfl⟩ := List.mem_map.mp (List.mem_filter.mp hx).1
      exact ⟨y, r, rfl, hy⟩
  · intro x; rfl
theorem w_neBc {H : Hp} {Q : VK} {a b c : Bool} (h : (!decide (a = b)) = c) (k : Q (.bl c) H) : rNe (.bl a) (.bl b) H Q := ⟨rfl, by
  have e : (!decide (V.bl a = V.bl b)) = c := by rw [← h]; simp
  rw [e]; exact k⟩
/-- claims that some result satisfies fit -/
theorem fit_sat {d : Nat} {cs : List Clm} {e : List Int} (hd : 1 ≤ d ∧ d ≤ 3) (hok : ∀ c ∈ cs, ClmOk (d : Int) c) (he : e ∈ outsF d) (h : cs.all (truE e) = true) : Fit (d : Int) [] cs := by
  rw [List.all_eq_true] at h
  exact fit0.mpr fun a ha b hb => (two_true hd (hok a ha) (hok b hb)).mp ⟨e, he, h a ha, h b hb⟩
theorem open_num {d : Nat} {cs : List Clm} (hd : 1 ≤ d ∧ d ≤ 3) (hok : ∀ c ∈ cs, ClmOk (d : Int) c) (f : Fit (d : Int) [] cs) : ∃ M : Nat, M ≤ 7 ∧ p2 (d : Int) - 1 - ((mergeC (d : Int) [] cs).length : Int) = (M : Int) ∧ ((outsF d).filter fun e => cs.all (truE e)).length = 2 ^ M := by
  refine ⟨_, ?_, ?_, count_outs hd hok f.2⟩
  · have h := List.countP_le_length (p := fun m => (pickO d cs m).isNone) (l := matchL d)
    rw [match_len hd] at h
    have : 2 ^ d ≤ 2 ^ 3 := Nat.pow_le_pow_right (by decide) hd.2
    omega
  · have h := List.length_eq_countP_add_countP (fun m => (pickO d cs m).isSome) (l := matchL d)
    rw [match_len hd] at h
    have := Nat.two_pow_pos d
    rw [open_count cs hd, merge_count hd hok f.2, p2_nat]
    omega
theorem fol_all {d : Nat} {cs : List Clm} {c : Clm} (hd : 1 ≤ d ∧ d ≤ 3) (hok : ∀ c ∈ cs, ClmOk (d : Int) c) (f : Fit (d : Int) [] cs) (hc : ClmOk (d : Int) c) : (dC (d : Int) c).all (conT (mergeC (d : Int) [] cs)) = ((outsF d).filter fun e => cs.all (truE e)).all fun e => truE e c := by
  rw [Bool.eq_iff_iff, merge_holds hd hok f.2 hc, ← follows_iff hd hok f.2 hc, List.all_eq_true]
  constructor
  · intro h e he
    exact h e (List.mem_filter.mp he).1 (List.mem_filter.mp he).2
  · intro h e he ha
    exact h e (List.mem_filter.mpr ⟨he, ha⟩)
theorem none_not {fs : List (List Int)} {c : Clm} : decide ((((List.range fs.length).filter fun k => !truE (fs.getD k []) c).map fun _ => (1 : Int)) = []) = fs.all fun e => truE e c := by
  rw [Bool.eq_iff_iff, decide_eq_true_iff, List.map_eq_nil_iff, List.filter_eq_nil_iff, List.all_eq_true]
  constructor
  · intro h e he
    obtain ⟨i, hi, rfl⟩ := List.getElem_of_mem he
    have z := h i (List.mem_range.mpr hi)
    rw [List.getD_eq_getElem?_getD, List.getElem?_eq_getElem hi] at z
    simpa using z
  · intro h i hi
    have hi := List.mem_range.mp hi
    rw [List.getD_eq_getElem?_getD, List.getElem?_eq_getElem hi]
    have := h _ (List.getElem_mem hi)
    simp [this]
end SC

set_option Elab.async false
set_option linter.all false
set_option maxRecDepth 100000
set_option maxHeartbeats 4000000
/-! What claims leave open, by the set of them; the ends of a seed divide the results. -/
namespace SC
open PySem PySem.Spec PyProof.Rows L2 StX
theorem Fit.congr {n : Int} {cs ds : List Clm} (h : ∀ c, c ∈ cs ↔ c ∈ ds) : Fit n [] cs ↔ Fit n [] ds := ⟨fun f => f.mono fun c hc => (h c).mpr hc, fun f => f.mono fun c hc => (h c).mp hc⟩
theorem key_in {A : List (List Key × V)} {k : List Key} (nd : (A.map (·.1)).Nodup) : k ∈ A.map (·.1) ↔ ∃ v, valV A k = some v := by
  constructor
  · intro h
    obtain ⟨⟨k', v⟩, hp, rfl⟩ := List.mem_map.mp h
    exact ⟨v, mem_val nd hp⟩
  · rintro ⟨v, h⟩
    exact List.mem_map.mpr ⟨_, val_mem h, rfl⟩
theorem merge_len_eq {n : Int} {cs ds : List Clm} (h1 : ∀ c ∈ cs, 1 ≤ c.2.2) (f : Fit n [] cs) (h : ∀ c, c ∈ cs ↔ c ∈ ds) : (mergeC n [] cs).length = (mergeC n [] ds).length := by
  have g := (Fit.congr h).mp f
  have p := (List.perm_ext_iff_of_nodup (merge_nd (n := n) (ks := []) (cs := cs)) (merge_nd (n := n) (ks := []) (cs := ds))).mpr fun k => by
    rw [key_in merge_nd, key_in merge_nd]
    refine exists_congr fun v => ?_
    rw [merge_val h1 f.2, merge_val (fun c hc => h1 c ((h c).mpr hc)) g.2]
    exact and_congr_right fun _ => exists_congr fun c => and_congr_left fun _ => h c
  have l := p.length_eq
  rwa [List.length_map, List.length_map] at l
open Classical in
/-- what is left open, where claims fit -/
noncomputable def leftO (n : Int) (cs : List Clm) : Option Int := if Fit n [] cs then some (p2 n - 1 - ((mergeC n [] cs).length : Int)) else none
def optV : Option Int → V
  | some x => .int x
  | none => .non
theorem left_yes {n : Int} {cs : List Clm} (f : Fit n [] cs) : leftO n cs = some (p2 n - 1 - ((mergeC n [] cs).length : Int)) := by
  classical
  exact if_pos f
theorem left_no {n : Int} {cs : List Clm} (f : ¬ Fit n [] cs) : leftO n cs = none := by
  classical
  exact if_neg f
theorem left_congr {n : Int} {cs ds : List Clm} (h1 : ∀ c ∈ cs, 1 ≤ c.2.2) (h : ∀ c, c ∈ cs ↔ c ∈ ds) : leftO n cs = leftO n ds := by
  by_cases f : Fit n [] cs
  · rw [left_yes f, left_yes ((Fit.congr h).mp f), merge_len_eq h1 f h]
  · rw [left_no f, left_no fun g => f ((Fit.congr h).mpr g)]
/-! ### one claim more -/
theorem addD_count : ∀ (told a : List (List Key × V)), (told.map (·.1)).Nodup → (addD [] a told).length = a.length + told.countP (fun e => (valV a e.1).isNone)
  | [], a, _ => by simp [addD]
  | e :: r, a, h => by
    rw [List.map_cons, List.nodup_cons] at h
    have ih := addD_count r (putK a e.1 e.2) h.2
    show (addD [] (putK a e.1 e.2) r).length = _
    rw [ih, List.countP_cons]
    have c : r.countP (fun x => (valV (putK a e.1 e.2) x.1).isNone) = r.countP fun x => (valV a x.1).isNone := List.countP_congr fun x hx => by
      rw [valV_put, if_neg fun z => h.1 (by rw [← z]; exact List.mem_map.mpr ⟨x, hx, rfl⟩)]
    rw [c]
    cases q : valV a e.1 with
    | none =>
      rw [putK_new _ q, List.length_append]
      simp
      omega
    | some v =>
      have l : (putK a e.1 e.2).length = a.length := by
        unfold putK
        rw [valV_any, q, if_pos (show (some v).isSome = true from rfl), List.length_map]
      rw [l]
      simp
/-- of the i-th round's match of a seed: nothing is said, or which half wins it -/
def said (n : Int) (cs : List Clm) (s : Int) (i : Nat) : Option V := valV (mergeC n [] cs) (keyM (1 + (i : Int), ckey n ("won", s, 1) i))
theorem ckey_seed {n s : Int} {w w' : Str} {r r' i : Nat} : ckey n (w, s, r) i = ckey n (w', s, r') i := rfl
theorem one_more {n : Int} {cs : List Clm} {c : Clm} (h1 : ∀ c ∈ cs, 1 ≤ c.2.2) (f : Fit n [] cs) (hc : 1 ≤ c.2.2) : Fit n [] (cs ++ [c]) ↔ ∀ i, i < c.2.2 → ∀ v, said n cs c.2.1 i = some v → v = .int (cval n c i) := by
  rw [fit_step f h1 hc]
  constructor
  · rintro ⟨_, h⟩ i hi v hv
    have h := (dif_any decs_nd).mp h
    refine (h _ _ v ?_ hv).symm
    rw [decs_ent hc, ent_val, if_pos ⟨hi, rfl⟩]
  · intro h
    refine ⟨?_, (dif_any decs_nd).mpr fun k v v' q1 q2 => ?_⟩
    · rw [List.any_eq_false]
      intro p _ z
      unfold difT at z
      rw [valV_nil] at z
      simp at z
    · unfold dC at q1
      rw [decs_ent hc] at q1
      obtain ⟨i, hi, e⟩ := List.mem_map.mp (val_mem q1)
      have e1 := congrArg Prod.fst e
      have e2 := congrArg Prod.snd e
      have e1 : k = keyM (1 + (i : Int), ckey n c i) := e1.symm
      have e2 : v = .int (cval n c i) := e2.symm
      subst e1 e2
      exact (h i (List.mem_range.mp hi) v' q2).symm
theorem more_len {n : Int} {cs : List Clm} {c : Clm} (hc : 1 ≤ c.2.2) : (mergeC n [] (cs ++ [c])).length = (mergeC n [] cs).length + (List.range c.2.2).countP fun i => (said n cs c.2.1 i).isNone := by
  rw [merge_snoc, addD_count _ _ decs_nd]
  congr 1
  rw [decs_ent hc, List.countP_map]
  rfl
theorem won_out : ¬ ("won" : Str) = "out" := by decide
/-! ### the ends of a seed -/
def oneAt (d : Nat) (who : Int) (s : Nat) : Clm := if s < d then (("out", who, s + 1) : Clm) else (("won", who, d) : Clm)
theorem one_len {d s : Nat} {who : Int} (hd : 1 ≤ d) : 1 ≤ (oneAt d who s).2.2 := by
  unfold oneAt
  split
  · show 1 ≤ s + 1
    omega
  · exact hd
section
variable {d : Nat} {who : Int} {cs : List Clm}
/-- undecided among the first s matches -/
def freeN (n : Int) (cs : List Clm) (who : Int) (s : Nat) : Nat := (List.range s).countP fun i => (said n cs who i).isNone
theorem freeN_succ {n : Int} {s : Nat} : freeN n cs who (s + 1) = freeN n cs who s + if (said n cs who s).isNone = true then 1 else 0 := by
  unfold freeN
  rw [List.range_succ, List.countP_append, List.countP_cons, List.countP_nil, Nat.zero_add]
/-- the seed may have won the first s matches -/
def mayW (d : Nat) (cs : List Clm) (who : Int) (s : Nat) : Prop := ∀ i, i < s → ∀ v, said d cs who i = some v → v = .int (blk (p2 ((d : Int) - (1 + (i : Int)) + 1)) who)
theorem mayW_succ {s : Nat} : mayW d cs who (s + 1) ↔ mayW d cs who s ∧ ∀ v, said d cs who s = some v → v = .int (blk (p2 ((d : Int) - (1 + (s : Int)) + 1)) who) := by
  constructor
  · intro h
    exact ⟨fun i hi => h i (by omega), h s (by omega)⟩
  · rintro ⟨h1, h2⟩ i hi
    by_cases c : i = s
    · subst c; exact h2
    · exact h1 i (by omega)
theorem fit_out {s : Nat} (h1 : ∀ c ∈ cs, 1 ≤ c.2.2) (f : Fit (d : Int) [] cs) (hs : s < d) : Fit (d : Int) [] (cs ++ [oneAt d who s]) ↔ mayW d cs who s ∧ ∀ v, said d cs who s = some v → v = .int (oth d ((s + 1 : Nat) : Int) who) := by
  have e : oneAt d who s = (("out", who, s + 1) : Clm) := if_pos hs
  rw [one_more h1 f (by rw [e]; show 1 ≤ s + 1; omega), e]
  have cv : ∀ i, i < s → cval (d : Int) ("out", who, s + 1) i = blk (p2 ((d : Int) - (1 + (i : Int)) + 1)) who := fun i hi => if_neg fun z => by have : i + 1 = s + 1 := z.2; omega
  have cl : cval (d : Int) ("out", who, s + 1) s = oth d ((s + 1 : Nat) : Int) who := if_pos ⟨rfl, rfl⟩
  constructor
  · intro h
    refine ⟨fun i hi v hv => ?_, fun v hv => ?_⟩
    · rw [h i (show i < s + 1 by omega) v hv, cv i hi]
    · rw [h s (show s < s + 1 by omega) v hv, cl]
  · rintro ⟨a, b⟩ i hi v hv
    have hi : i < s + 1 := hi
    by_cases c : i = s
    · subst c
      rw [b v hv, cl]
    · rw [a i (by omega) v hv, cv i (by omega)]
theorem fit_won (hd : 1 ≤ d) (h1 : ∀ c ∈ cs, 1 ≤ c.2.2) (f : Fit (d : Int) [] cs) : Fit (d : Int) [] (cs ++ [oneAt d who d]) ↔ mayW d cs who d := by
  have e : oneAt d who d = (("won", who, d) : Clm) := if_neg (Nat.lt_irrefl d)
  rw [one_more h1 f (by rw [e]; exact hd), e]
  have cv : ∀ i, cval (d : Int) ("won", who, d) i = blk (p2 ((d : Int) - (1 + (i : Int)) + 1)) who := fun i => if_neg fun z => won_out z.1
  constructor
  · intro h i hi v hv
    rw [h i hi v hv, cv]
  · intro h i hi v hv
    rw [h i hi v hv, cv]
theorem oth_ne {n : Int} {i : Nat} {who : Int} (hi : (i : Int) < n) : oth n ((i + 1 : Nat) : Int) who ≠ blk (p2 (n - (1 + (i : Int)) + 1)) who := by
  intro z
  unfold oth at z
  rw [show n - ((i + 1 : Nat) : Int) + 1 = n - (1 + (i : Int)) + 1 by omega] at z
  have e : p2 (n - (1 + (i : Int)) + 1) = 2 * p2 (n - (1 + (i : Int))) := p2_succ (by omega)
  rw [e] at z
  omega
/-- what is said of a match of the seed is one of its two halves -/
theorem said_or {i : Nat} {v : V} (h1 : ∀ c ∈ cs, ClmOk (d : Int) c) (f : Fit (d : Int) [] cs) (hi : i < d) (hw : 1 ≤ who) (h : said d cs who i = some v) : v = .int (blk (p2 ((d : Int) - (1 + (i : Int)) + 1)) who) ∨ v = .int (oth d ((i + 1 : Nat) : Int) who) := by
  have o1 : ∀ c ∈ cs, 1 ≤ c.2.2 := fun c hc => (h1 c hc).2.2.1
  unfold said at h
  obtain ⟨_, c, hc, q⟩ := (merge_val o1 f.2).mp h
  obtain ⟨j, hj, ek, rfl⟩ := (ent_key (o1 c hc)).mp q
  obtain ⟨z1, z2⟩ := keyM_inj ek
  have : j = i := by omega
  subst this
  have w1 := cval_half (n := (d : Int)) (c := c) (i := j) (by omega) (h1 c hc).2.1.1
  have w2 := cval_half (n := (d : Int)) (c := ("won", who, 1)) (i := j) (by omega) hw
  have w3 : cval (d : Int) ("won", who, 1) j = blk (p2 ((d : Int) - (1 + (j : Int)) + 1)) who := if_neg fun z => won_out z.1
  rw [w3, ← q2_eq] at w2
  rw [← z2, ← q2_eq] at w1
  have eo : oth (d : Int) ((j + 1 : Nat) : Int) who = p2 ((d : Int) - ((j + 1 : Nat) : Int) + 1) + 1 - blk (p2 ((d : Int) - (1 + (j : Int)) + 1)) who := by
    unfold oth
    rw [show (d : Int) - ((j + 1 : Nat) : Int) + 1 = (d : Int) - (1 + (j : Int)) + 1 by omega]
  rw [eo]
  generalize ckey (d : Int) ("won", who, 1) j = x at *
  generalize cval (d : Int) c j = y at *
  generalize blk (p2 ((d : Int) - (1 + (j : Int)) + 1)) who = b at *
  generalize p2 ((d : Int) - ((j + 1 : Nat) : Int) + 1) = m at *
  by_cases c : y = b
  · exact .inl (by rw [c])
  · refine .inr ?_
    have : y = m + 1 - b := by omega
    rw [this]
theorem end_out {s : Nat} (h1 : ∀ c ∈ cs, 1 ≤ c.2.2) (hs : s < d) (f2 : Fit (d : Int) [] (cs ++ [oneAt d who s])) : leftO d (cs ++ [oneAt d who s]) = some (p2 (d : Int) - 1 - ((mergeC (d : Int) [] cs).length : Int) - (freeN d cs who (s + 1) : Int)) := by
  have e : oneAt d who s = (("out", who, s + 1) : Clm) := if_pos hs
  rw [left_yes f2, more_len (one_len (by omega)), e]
  congr 1
  show _ - (((_ + freeN d cs who (s + 1) : Nat)) : Int) = _
  omega
theorem end_won (hd : 1 ≤ d) (h1 : ∀ c ∈ cs, 1 ≤ c.2.2) (f2 : Fit (d : Int) [] (cs ++ [oneAt d who d])) : leftO d (cs ++ [oneAt d who d]) = some (p2 (d : Int) - 1 - ((mergeC (d : Int) [] cs).length : Int) - (freeN d cs who d : Int)) := by
  have e : oneAt d who d = (("won", who, d) : Clm) := if_neg (Nat.lt_irrefl d)
  rw [left_yes f2, more_len (one_len (by omega)), e]
  congr 1
  show _ - (((_ + freeN d cs who d : Nat)) : Int) = _
  omega
theorem freeN_le {n : Int} {s : Nat} : freeN n cs who s ≤ s := by
  have := List.countP_le_length (p := fun i => (said n cs who i).isNone) (l := List.range s)
  rwa [List.length_range] at this
/-- an end's number, if it may come about -/
theorem end_bd {s : Nat} {x : Int} (hd : 1 ≤ d) (h1 : ∀ c ∈ cs, 1 ≤ c.2.2) (hs : s ≤ d) (h : leftO d (cs ++ [oneAt d who s]) = some x) : x ≤ p2 (d : Int) - 1 - ((mergeC (d : Int) [] cs).length : Int) ∧ p2 (d : Int) - 1 - ((mergeC (d : Int) [] cs).length : Int) - d ≤ x := by
  have f2 : Fit (d : Int) [] (cs ++ [oneAt d who s]) := Classical.byContradiction fun g => by rw [left_no g] at h; cases h
  by_cases c : s < d
  · rw [end_out h1 c f2] at h
    have := Option.some.inj h
    have := freeN_le (n := (d : Int)) (cs := cs) (who := who) (s := s + 1)
    omega
  · have : s = d := by omega
    subst this
    rw [end_won hd h1 f2] at h
    have := Option.some.inj h
    have := freeN_le (n := (s : Int)) (cs := cs) (who := who) (s := s)
    omega
theorem end_may {s : Nat} (hd : 1 ≤ d) (h1 : ∀ c ∈ cs, 1 ≤ c.2.2) (f : Fit (d : Int) [] cs) (hs : s ≤ d) (h : ¬ mayW d cs who s) : leftO d (cs ++ [oneAt d who s]) = none := by
  refine left_no fun g => h ?_
  by_cases c : s < d
  · exact ((fit_out h1 f c).mp g).1
  · have : s = d := by omega
    subst this
    exact (fit_won hd h1 f).mp g
theorem ends_sum {low : Int} (hd : 1 ≤ d) (ho : ∀ c ∈ cs, ClmOk (d : Int) c) (f : Fit (d : Int) [] cs) (hw : 1 ≤ who) : ∀ (k s : Nat), s + k = d → mayW d cs who s → (∀ e, s ≤ e → e ≤ d → ∀ x, leftO d (cs ++ [oneAt d who e]) = some x → low ≤ x) →
    low ≤ p2 (d : Int) - 1 - ((mergeC (d : Int) [] cs).length : Int) - (freeN d cs who s : Int) →
    (((List.range' s (k + 1)).filterMap fun e => leftO d (cs ++ [oneAt d who e])).map fun x => p2 (x - low)).sum = p2 (p2 (d : Int) - 1 - ((mergeC (d : Int) [] cs).length : Int) - (freeN d cs who s : Int) - low)
  | 0, s, hk, hm, hl, h0 => by
    have : s = d := by omega
    subst this
    have o1 : ∀ c ∈ cs, 1 ≤ c.2.2 := fun c hc => (ho c hc).2.2.1
    have f2 := (fit_won hd o1 f).mpr hm
    rw [show List.range' s (0 + 1) = [s] from rfl, List.filterMap_cons, end_won hd o1 f2]
    simp
  | k + 1, s, hk, hm, hl, h0 => by
    have o1 : ∀ c ∈ cs, 1 ≤ c.2.2 := fun c hc => (ho c hc).2.2.1
    have hs : s < d := by omega
    have fs := freeN_succ (n := (d : Int)) (cs := cs) (who := who) (s := s)
    have ih := ends_sum (low := low) hd ho f hw k (s + 1) (by omega)
    rw [List.range'_succ, List.filterMap_cons]
    cases q : said d cs who s with
    | none =>
      rw [q] at fs
      have fs : freeN d cs who (s + 1) = freeN d cs who s + 1 := fs
      have f2 : Fit (d : Int) [] (cs ++ [oneAt d who s]) := (fit_out o1 f hs).mpr ⟨hm, fun v hv => by rw [q] at hv; cases hv⟩
      have eo := end_out (who := who) o1 hs f2
      have lo := hl s (Nat.le_refl _) (by omega) _ eo
      have ih := ih (mayW_succ.mpr ⟨hm, fun v hv => by rw [q] at hv; cases hv⟩) (fun e h1 h2 => hl e (by omega) h2) (by omega)
      rw [eo, List.map_cons, List.sum_cons, ih, fs]
      generalize p2 (d : Int) - 1 - ((mergeC (d : Int) [] cs).length : Int) = L at *
      have e1 : L - (freeN d cs who s : Int) - low = (L - ((freeN d cs who s + 1 : Nat) : Int) - low) + 1 := by omega
      rw [e1, p2_succ (by omega)]
      omega
    | some v =>
      rw [q] at fs
      have fs : freeN d cs who (s + 1) = freeN d cs who s := fs
      rcases said_or ho f hs hw q with e | e
      · have nf : leftO d (cs ++ [oneAt d who s]) = none := left_no fun g => by
          have z := ((fit_out o1 f hs).mp g).2 v q
          rw [e] at z
          exact oth_ne (n := (d : Int)) (i := s) (who := who) (by omega) (V.int.inj z).symm
        have ih := ih (mayW_succ.mpr ⟨hm, fun v' hv => by rw [q] at hv; cases hv; exact e⟩) (fun e h1 h2 => hl e (by omega) h2) (by rw [fs]; exact h0)
        rw [nf]
        show (((List.range' (s + 1) (k + 1)).filterMap _).map _).sum = _
        rw [ih, fs]
      · have f2 : Fit (d : Int) [] (cs ++ [oneAt d who s]) := (fit_out o1 f hs).mpr ⟨hm, fun v' hv => by rw [q] at hv; cases hv; exact e⟩
        have eo := end_out (who := who) o1 hs f2
        have nm : ¬ mayW d cs who (s + 1) := fun z => by
          have z := (mayW_succ.mp z).2 v q
          rw [e] at z
          exact oth_ne (n := (d : Int)) (i := s) (who := who) (by omega) (V.int.inj z)
        have rest : (List.range' (s + 1) (k + 1)).filterMap (fun e => leftO d (cs ++ [oneAt d who e])) = [] := by
          rw [List.filterMap_eq_nil_iff]
          intro e he
          have he := List.mem_range'_1.mp he
          exact end_may hd o1 f (by omega) fun z => nm fun i hi => z i (by omega)
        rw [eo, rest, fs]
        simp
end
/-- what follows adds nothing -/
theorem follows_left {n : Int} {cs : List Clm} {c : Clm} (h1 : ∀ c ∈ cs, 1 ≤ c.2.2) (f : Fit n [] cs) (hc : 1 ≤ c.2.2) : (dC n c).all (conT (mergeC n [] cs)) = decide (leftO n (cs ++ [c]) = leftO n cs) := by
  have hcon : (dC n c).all (conT (mergeC n [] cs)) = true ↔ ∀ i, i < c.2.2 → said n cs c.2.1 i = some (.int (cval n c i)) := by
    rw [con_allD decs_nd, decs_ent hc]
    constructor
    · intro h i hi
      refine h _ _ ?_
      rw [ent_val, if_pos ⟨hi, rfl⟩]
    · intro h k v q
      obtain ⟨i, hi, e⟩ := List.mem_map.mp (val_mem q)
      have e1 : k = keyM (1 + (i : Int), ckey n c i) := (congrArg Prod.fst e).symm
      have e2 : v = .int (cval n c i) := (congrArg Prod.snd e).symm
      subst e1 e2
      exact h i (List.mem_range.mp hi)
  rw [Bool.eq_iff_iff, hcon, decide_eq_true_iff]
  constructor
  · intro h
    have f2 : Fit n [] (cs ++ [c]) := (one_more h1 f hc).mpr fun i hi v hv => by rw [h i hi] at hv; exact (Option.some.inj hv).symm
    have z : (List.range c.2.2).countP (fun i => (said n cs c.2.1 i).isNone) = 0 := by
      rw [List.countP_eq_zero]
      intro i hi
      rw [h i (List.mem_range.mp hi)]
      simp
    rw [left_yes f2, left_yes f, more_len hc, z, Nat.add_zero]
  · intro h i hi
    have f2 : Fit n [] (cs ++ [c]) := Classical.byContradiction fun g => by rw [left_no g, left_yes f] at h; cases h
    rw [left_yes f2, left_yes f, more_len hc] at h
    have z : (List.range c.2.2).countP (fun i => (said n cs c.2.1 i).isNone) = 0 := by
      have := Option.some.inj h
      omega
    rw [List.countP_eq_zero] at z
    have z := z i (List.mem_range.mpr hi)
    cases q : said n cs c.2.1 i with
    | none => rw [q] at z; simp at z
    | some v => rw [(one_more h1 f hc).mp f2 i hi v q]
end SC

set_option Elab.async false
set_option linter.all false
set_option maxRecDepth 100000
set_option maxHeartbeats 4000000
/-! Eight claims of some; claims that fit, by the first clash; lists of what is left. -/
namespace SC
open PySem PySem.Spec PyProof.Rows L2 StX
def padF {α : Type} (ps : List α) : List α := (ps ++ (List.replicate 8 (ps.take 1)).flatten).take 8
theorem padF_map {α β : Type} (f : α → β) (ps : List α) : padF (ps.map f) = (padF ps).map f := by
  unfold padF
  rw [List.map_take, List.map_append, List.map_flatten, List.map_replicate, List.map_take]
theorem padF_nil {α : Type} : padF ([] : List α) = [] := by simp [padF]
theorem flat1 {α : Type} (p : α) : ∀ n : Nat, (List.replicate n [p]).flatten = List.replicate n p
  | 0 => rfl
  | n + 1 => by
    rw [List.replicate_succ, List.flatten_cons, flat1 p n]
    rfl
theorem padF_cons {α : Type} {p : α} {ps : List α} : padF (p :: ps) = ((p :: ps) ++ List.replicate 8 p).take 8 := by
  unfold padF
  rw [show (p :: ps).take 1 = [p] by simp, flat1]
theorem padF_len {α : Type} {ps : List α} (h : 1 ≤ ps.length) : (padF ps).length = 8 := by
  match ps, h with
  | p :: r, _ =>
    rw [padF_cons, List.length_take, List.length_append, List.length_replicate]
    omega
theorem padF_mem {α : Type} {ps : List α} (h : ps.length ≤ 8) (x : α) : x ∈ padF ps ↔ x ∈ ps := by
  match ps, h with
  | [], _ => rw [padF_nil]
  | p :: r, h =>
    rw [padF_cons, List.take_append, List.take_of_length_le h]
    constructor
    · intro hx
      rcases List.mem_append.mp hx with hx | hx
      · exact hx
      · have := List.eq_of_mem_replicate (List.mem_of_mem_take hx)
        rw [this]
        exact List.mem_cons_self
    · intro hx
      exact List.mem_append_left _ hx
theorem eight {α : Type} {l : List α} (h : l.length = 8) : ∃ a b c d e f g i, l = [a, b, c, d, e, f, g, i] := by
  match l, h with
  | [a, b, c, d, e, f, g, i], _ => exact ⟨a, b, c, d, e, f, g, i, rfl⟩
theorem lay_cls {n : Int} : ∀ {ps : List (Addr × Clm)}, (∀ p ∈ ps, ClmOk n p.2) → PyData.canLayAll0 (ps.map fun p => cD p.2) = true ∧ PyData.depthAll (ps.map fun p => cD p.2) ≤ 5
  | [], _ => ⟨rfl, by simp [PyData.depthAll]⟩
  | p :: r, h => by
    obtain ⟨i1, i2⟩ := lay_cls (ps := r) fun q hq => h q (List.mem_cons_of_mem _ hq)
    have hw := (h p List.mem_cons_self).1
    have l1 : (cD p.2).canLay0 = true := by
      unfold cD
      rcases hw with e | e <;> rw [e] <;> simp only [PyData.canLay0, PyData.canLayAll0] <;> decide +kernel
    have d1 : (cD p.2).depth ≤ 3 := by
      unfold cD
      simp [PyData.depth, PyData.depthAll]
    rw [List.map_cons]
    refine ⟨?_, ?_⟩
    · simp only [PyData.canLayAll0, l1, i1, Bool.and_self]
    · simp only [PyData.depthAll]
      omega
theorem shaped_cls {n : Int} {ps : List (Addr × Clm)} (h : ∀ p ∈ ps, ClmOk n p.2) : SeqAt.shaped (.list (ps.map fun p => cD p.2)) = true := by
  obtain ⟨h1, h2⟩ := lay_cls h
  unfold SeqAt.shaped
  rw [Bool.and_eq_true]
  refine ⟨by simpa only [PyData.canLay0] using h1, decide_eq_true ?_⟩
  simp only [PyData.depth]
  omega
/-- no first clash: the claims fit -/
theorem first_fit {n : Int} {cs : List Clm} {P : Nat → Nat → Bool} {d0 : Clm} {r : Option (Nat × Nat)} (hP : ∀ i j, P i j = difC n (cs.getD i d0) (cs.getD j d0)) (h : FirstC P cs.length r) : decide (r = none) = true ↔ Fit n [] cs := by
  have gm : ∀ i, i < cs.length → cs.getD i d0 ∈ cs := fun i hi => by
    rw [List.getD_eq_getElem?_getD, List.getElem?_eq_getElem hi]
    exact List.getElem_mem hi
  rw [decide_eq_true_iff, fit0]
  match r, h with
  | none, h =>
    refine ⟨fun _ x hx y hy => ?_, fun _ => rfl⟩
    obtain ⟨i, hi, rfl⟩ := List.getElem_of_mem hx
    obtain ⟨j, hj, rfl⟩ := List.getElem_of_mem hy
    have gi : cs.getD i d0 = cs[i] := by rw [List.getD_eq_getElem?_getD, List.getElem?_eq_getElem hi]; rfl
    have gj : cs.getD j d0 = cs[j] := by rw [List.getD_eq_getElem?_getD, List.getElem?_eq_getElem hj]; rfl
    rcases Nat.lt_trichotomy i j with l | l | l
    · have := h j hj i l
      rw [hP, gi, gj] at this
      exact this
    · subst l
      exact difC_self
    · have := h i hi j l
      rw [hP, gi, gj] at this
      exact difC_sym this
  | some (i, j), ⟨h1, h2, _, _⟩ =>
    refine Iff.intro (fun z => nomatch z) fun z => ?_
    have := z _ (gm i (Nat.lt_trans h1.1 h1.2)) _ (gm j h1.2)
    rw [hP, this] at h2
    cases h2
/-- the numbers among what is left -/
def isIV : V → Bool
  | .int _ => true
  | _ => false
theorem numbers (f : Nat → Option Int) : ∀ l : List Nat, (((l.map fun s => optV (f s)).filter isIV).map fun x => x) = (l.filterMap f).map V.int
  | [] => rfl
  | s :: l => by
    have ih := numbers f l
    rw [List.map_cons, List.filterMap_cons]
    cases q : f s with
    | none =>
      show (List.filter isIV (V.non :: _)).map _ = _
      rw [List.filter_cons_of_neg (by simp [isIV])]
      exact ih
    | some x =>
      show (List.filter isIV (V.int x :: _)).map _ = _
      rw [List.filter_cons_of_pos (by rfl), List.map_cons, ih]
      rfl
theorem rev8 {α : Type} {p0 p1 p2 p3 p4 p5 p6 p7 : α} (x : α) : x ∈ [p0, p1, p2, p3, p4, p5, p6, p7] ↔ x ∈ [p7, p6, p5, p4, p3, p2, p1, p0] := (List.mem_reverse (as := [p0, p1, p2, p3, p4, p5, p6, p7])).symm
theorem w_eqO {H : Hp} {Q : VK} {o : Option Int} {x : Int} (k : Q (.bl (decide (o = some x))) H) : rEq (optV o) (.int x) H Q := by
  refine ⟨by cases o <;> rfl, ?_⟩
  have e : decide (optV o = V.int x) = decide (o = some x) := by
    cases o with
    | none => simp [optV]
    | some y => simp [optV]
  rw [e]
  exact k
end SC

set_option Elab.async false
set_option linter.all false
set_option maxRecDepth 100000
set_option maxHeartbeats 4000000
/-! Two claims fit by where their seeds meet; how many matches claims decide, seed by seed. -/
namespace SC
open PySem PySem.Spec PyProof.Rows L2 StX
/-- where two seeds meet -/
@[irreducible] def mt (n a b : Int) : Int := lev n [a, b] a
theorem mt_le {n a b h : Int} (hn : 0 ≤ n) (ha : 1 ≤ a ∧ a ≤ p2 n) (hb : 1 ≤ b ∧ b ≤ p2 n) (l0 : 0 ≤ h) (l1 : h ≤ n) : mt n a b ≤ h ↔ blk (p2 (n - h)) a = blk (p2 (n - h)) b := by
  unfold mt
  exact lev_two hn ha hb l0 l1
theorem mt_range {n a b : Int} (hn : 0 ≤ n) (ha : 1 ≤ a ∧ a ≤ p2 n) (hb : 1 ≤ b ∧ b ≤ p2 n) (h : a ≠ b) : 1 ≤ mt n a b ∧ mt n a b ≤ n := by
  unfold mt
  exact ⟨lev_diff hn ha hb h, (lev_range hn ha.1 ha.2 (ss := [a, b]) fun s hs => by
    simp only [List.mem_cons, List.not_mem_nil, or_false] at hs
    rcases hs with rfl | rfl
    · exact ha
    · exact hb).2⟩
theorem mt_sym {n a b : Int} (hn : 0 ≤ n) (ha : 1 ≤ a ∧ a ≤ p2 n) (hb : 1 ≤ b ∧ b ≤ p2 n) : mt n b a = mt n a b := by
  unfold mt
  exact lev_sym hn ha hb
/-- by halving -/
theorem mt_half {n a b x : Int} {j : Nat} (hn : 0 ≤ n) (ha : 1 ≤ a ∧ a ≤ p2 n) (hb : 1 ≤ b ∧ b ≤ p2 n) (h : a ≠ b) (hx : (if (a - b) % 2 = 0 then a - b else a + b - 1) = x * 2 ^ j) (ho : x % 2 ≠ 0) : mt n a b = n + 1 - (j : Int) := by
  obtain ⟨m1, m2⟩ := mt_range hn ha hb h
  generalize hy : (if (a - b) % 2 = 0 then a - b else a + b - 1) = y at hx
  have ye : y % 2 = 0 := by
    rw [← hy]
    split <;> omega
  have j1 : 1 ≤ j := by
    cases j with
    | zero => rw [Int.pow_zero, Int.mul_one] at hx; omega
    | succ j => omega
  have dv : ∀ k : Nat, (2 : Int) ^ (k + 1) ∣ a - b ∨ (2 : Int) ^ (k + 1) ∣ a + b - 1 ↔ (2 : Int) ^ (k + 1) ∣ y := fun k => by
    have two : ∀ z : Int, (2 : Int) ^ (k + 1) ∣ z → z % 2 = 0 := fun z hz => by
      have : (2 : Int) ∣ z := Int.dvd_trans ⟨2 ^ k, by rw [Int.pow_succ, Int.mul_comm]⟩ hz
      omega
    constructor
    · rintro (q | q)
      · have := two _ q
        rw [← hy, if_pos this]
        exact q
      · have := two _ q
        rw [← hy, if_neg (by omega)]
        exact q
    · intro q
      rw [← hy] at q
      split at q
      · exact .inl q
      · exact .inr q
  have key : ∀ t : Nat, (t : Int) ≤ n → (mt n a b ≤ n - (t : Int) ↔ (2 : Int) ^ (t + 1) ∣ y) := fun t ht => by
    rw [mt_le hn ha hb (by omega) (by omega), show n - (n - (t : Int)) = (t : Int) by omega, blk_eq (p2_pos _), ← dv t]
    have e : 2 * p2 (t : Int) = (2 : Int) ^ (t + 1) := by
      rw [p2_nat, Int.pow_succ, Int.mul_comm]
      push_cast
      rfl
    rw [e]
  have oddp : ¬ (2 : Int) ^ (j + 1) ∣ y := fun ⟨z, hz⟩ => by
    rw [hx, Int.pow_succ] at hz
    have p : (2 : Int) ^ j ≠ 0 := Int.ne_of_gt (Int.pow_pos (by decide))
    have : x = 2 * z := Int.eq_of_mul_eq_mul_right p (by rw [hz, Int.mul_comm ((2 : Int) ^ j) 2, Int.mul_assoc, Int.mul_assoc, Int.mul_comm z])
    omega
  have evp : (2 : Int) ^ (j - 1 + 1) ∣ y := by
    rw [show j - 1 + 1 = j by omega, hx]
    exact ⟨x, Int.mul_comm _ _⟩
  by_cases c : (j : Int) ≤ n + 1
  · have k1 := (key (j - 1) (by omega)).mpr evp
    have e1 : ((j - 1 : Nat) : Int) = (j : Int) - 1 := by omega
    rw [e1] at k1
    by_cases c2 : (j : Int) ≤ n
    · have k2 : ¬ mt n a b ≤ n - (j : Int) := fun z => oddp ((key j c2).mp z)
      omega
    · have : (j : Int) = n + 1 := by omega
      omega
  · exfalso
    obtain ⟨N, hN⟩ := Int.eq_ofNat_of_zero_le hn
    have k1 := (key N (by omega)).mpr (Int.dvd_trans (by
      have e : (2 : Int) ^ (j - 1 + 1) = 2 ^ (N + 1) * 2 ^ (j - 1 - N) := by rw [← Int.pow_add]; congr 1; omega
      exact ⟨_, e⟩) evp)
    omega
/-- the matches that a claim wins -/
def winsC (c : Clm) : Int := (c.2.2 : Int) - if c.1 = "out" then 1 else 0
/-- claims of two seeds clash: both win the match of the two, or both lose it -/
def clashL (n : Int) (a b : Clm) : Bool := decide (mt n a.2.1 b.2.1 ≤ winsC a ∧ mt n a.2.1 b.2.1 ≤ winsC b) || decide (a.1 = "out" ∧ (a.2.2 : Int) = mt n a.2.1 b.2.1 ∧ b.1 = "out" ∧ (b.2.2 : Int) = mt n a.2.1 b.2.1)
theorem key_mt {n : Int} {a b : Clm} {i : Nat} (hn : 0 ≤ n) (ha : 1 ≤ a.2.1 ∧ a.2.1 ≤ p2 n) (hb : 1 ≤ b.2.1 ∧ b.2.1 ≤ p2 n) (hi : (i : Int) < n) : ckey n b i = ckey n a i ↔ mt n a.2.1 b.2.1 ≤ (i : Int) + 1 := by
  rw [mt_le hn ha hb (by omega) (by omega)]
  unfold ckey
  rw [show n - (1 + (i : Int)) = n - ((i : Int) + 1) by omega]
  exact eq_comm
theorem own_half {n s : Int} {i : Nat} (hi : (i : Int) < n) (hs : 1 ≤ s) : blk (p2 (n - (1 + (i : Int)) + 1)) s = blk (p2 (n - (1 + (i : Int)))) s ∨ blk (p2 (n - (1 + (i : Int)) + 1)) s = 2 * p2 (n - (1 + (i : Int))) + 1 - blk (p2 (n - (1 + (i : Int)))) s := by
  rw [p2_succ (by omega)]
  exact blk_below (p2_pos _) hs
theorem dif_other {n : Int} {a b : Clm} (hn : 0 ≤ n) (ha : ClmOk n a) (hb : ClmOk n b) (h : a.2.1 ≠ b.2.1) : difC n a b = clashL n a b := by
  obtain ⟨wa, sa, ra1, ra2⟩ := ha
  obtain ⟨wb, sb, rb1, rb2⟩ := hb
  obtain ⟨m1, m2⟩ := mt_range hn sa sb h
  have own : ∀ i : Nat, (i : Int) < n → (blk (p2 (n - (1 + (i : Int)) + 1)) a.2.1 = blk (p2 (n - (1 + (i : Int)) + 1)) b.2.1 ↔ mt n a.2.1 b.2.1 ≤ (i : Int)) := fun i hi => by
    rw [mt_le hn sa sb (by omega) (by omega), show n - (1 + (i : Int)) + 1 = n - (i : Int) by omega]
  have cv : ∀ (c : Clm) (i : Nat), (i : Int) < n → cval n c i = if c.1 = "out" ∧ i + 1 = c.2.2 then 2 * p2 (n - (1 + (i : Int))) + 1 - blk (p2 (n - (1 + (i : Int)) + 1)) c.2.1 else blk (p2 (n - (1 + (i : Int)) + 1)) c.2.1 := fun c i hi => by
    unfold cval oth
    rw [show n - ((i + 1 : Nat) : Int) + 1 = n - (1 + (i : Int)) + 1 by omega]
    by_cases z : c.1 = "out" ∧ i + 1 = c.2.2
    · rw [if_pos z, if_pos z]
      rw [show p2 (n - (1 + (i : Int)) + 1) + 1 - blk (p2 (n - (1 + (i : Int)) + 1)) c.2.1 = p2 (n - (1 + (i : Int)) + 1) + (1 - blk (p2 (n - (1 + (i : Int)) + 1)) c.2.1) by omega]
      have e : p2 (n - (1 + (i : Int)) + 1) = 2 * p2 (n - (1 + (i : Int))) := p2_succ (by omega)
      omega
    · rw [if_neg z, if_neg z]
  have facts : ∀ i : Nat, (i : Int) < n → mt n a.2.1 b.2.1 ≤ (i : Int) + 1 → (cval n b i ≠ cval n a i ↔ if mt n a.2.1 b.2.1 = (i : Int) + 1 then ((a.1 = "out" ∧ i + 1 = a.2.2) ↔ (b.1 = "out" ∧ i + 1 = b.2.2)) else ¬ ((a.1 = "out" ∧ i + 1 = a.2.2) ↔ (b.1 = "out" ∧ i + 1 = b.2.2))) := fun i hi hm => by
    have k := (key_mt hn sa sb hi).mpr hm
    unfold ckey at k
    have ha := own_half (n := n) hi sa.1
    have hb := own_half (n := n) hi sb.1
    have o := own i hi
    rw [cv a i hi, cv b i hi]
    rw [k] at hb
    generalize blk (p2 (n - (1 + (i : Int)))) a.2.1 = x at *
    generalize p2 (n - (1 + (i : Int))) = m at *
    generalize blk (p2 (n - (1 + (i : Int)) + 1)) a.2.1 = A at *
    generalize blk (p2 (n - (1 + (i : Int)) + 1)) b.2.1 = B at *
    generalize mt n a.2.1 b.2.1 = L at *
    by_cases q : L = (i : Int) + 1
    · rw [if_pos q]
      have nAB : A ≠ B := fun z => by have := o.mp z; omega
      by_cases z1 : a.1 = "out" ∧ i + 1 = a.2.2 <;> by_cases z2 : b.1 = "out" ∧ i + 1 = b.2.2
      · rw [if_pos z1, if_pos z2]
        exact ⟨fun _ => ⟨fun _ => z2, fun _ => z1⟩, fun _ => by omega⟩
      · rw [if_pos z1, if_neg z2]
        exact ⟨fun w => absurd (by omega) w, fun w => absurd (w.mp z1) z2⟩
      · rw [if_neg z1, if_pos z2]
        exact ⟨fun w => absurd (by omega) w, fun w => absurd (w.mpr z2) z1⟩
      · rw [if_neg z1, if_neg z2]
        exact ⟨fun _ => ⟨fun y => absurd y z1, fun y => absurd y z2⟩, fun _ => fun y => nAB y.symm⟩
    · rw [if_neg q]
      have AB : A = B := o.mpr (by omega)
      by_cases z1 : a.1 = "out" ∧ i + 1 = a.2.2 <;> by_cases z2 : b.1 = "out" ∧ i + 1 = b.2.2
      · rw [if_pos z1, if_pos z2]
        exact ⟨fun w => absurd (by omega) w, fun w => absurd ⟨fun _ => z2, fun _ => z1⟩ w⟩
      · rw [if_pos z1, if_neg z2]
        exact ⟨fun _ w => z2 (w.mp z1), fun _ => by omega⟩
      · rw [if_neg z1, if_pos z2]
        exact ⟨fun _ w => z1 (w.mpr z2), fun _ => by omega⟩
      · rw [if_neg z1, if_neg z2]
        exact ⟨fun w => absurd AB.symm w, fun w => absurd ⟨fun y => absurd y z1, fun y => absurd y z2⟩ w⟩
  unfold clashL winsC difC
  rw [Bool.eq_iff_iff, List.any_eq_true, Bool.or_eq_true, decide_eq_true_iff, decide_eq_true_iff]
  constructor
  · rintro ⟨i, hi, z⟩
    have hi := List.mem_range.mp hi
    simp only [Bool.and_eq_true, decide_eq_true_eq] at z
    obtain ⟨z1, z2, z3⟩ := z
    have hm := (key_mt hn sa sb (by omega)).mp z2
    have f := (facts i (by omega) hm).mp z3
    generalize mt n a.2.1 b.2.1 = L at *
    by_cases q : L = (i : Int) + 1
    · rw [if_pos q] at f
      by_cases c : a.1 = "out" ∧ i + 1 = a.2.2
      · have c2 := f.mp c
        exact .inr ⟨c.1, by omega, c2.1, by omega⟩
      · have c2 : ¬ (b.1 = "out" ∧ i + 1 = b.2.2) := fun w => c (f.mpr w)
        refine .inl ⟨?_, ?_⟩
        · split
          · rename_i o
            have : i + 1 ≠ a.2.2 := fun w => c ⟨o, w⟩
            omega
          · omega
        · split
          · rename_i o
            have : i + 1 ≠ b.2.2 := fun w => c2 ⟨o, w⟩
            omega
          · omega
    · refine .inl ⟨?_, ?_⟩ <;> split <;> omega
  · intro z
    obtain ⟨i, hi⟩ : ∃ i : Nat, mt n a.2.1 b.2.1 = (i : Int) + 1 := ⟨(mt n a.2.1 b.2.1 - 1).toNat, by omega⟩
    have ra : (if a.1 = "out" then (1 : Int) else 0) ≥ 0 := by split <;> omega
    have rb : (if b.1 = "out" then (1 : Int) else 0) ≥ 0 := by split <;> omega
    have hia : i < a.2.2 := by omega
    have hib : i < b.2.2 := by omega
    refine ⟨i, List.mem_range.mpr hia, ?_⟩
    simp only [Bool.and_eq_true, decide_eq_true_eq]
    refine ⟨hib, (key_mt hn sa sb (by omega)).mpr (by omega), (facts i (by omega) (by omega)).mpr ?_⟩
    rw [if_pos hi]
    rcases z with ⟨z1, z2⟩ | ⟨z1, z2, z3, z4⟩
    · have n1 : ¬ (a.1 = "out" ∧ i + 1 = a.2.2) := fun w => by rw [if_pos w.1] at z1; omega
      have n2 : ¬ (b.1 = "out" ∧ i + 1 = b.2.2) := fun w => by rw [if_pos w.1] at z2; omega
      exact ⟨fun y => absurd y n1, fun y => absurd y n2⟩
    · exact ⟨fun _ => ⟨z3, by omega⟩, fun _ => ⟨z1, by omega⟩⟩
/-- claims of one seed clash: its one end isn't the other's, or is passed -/
theorem dif_same {n : Int} {a b : Clm} (hn : 0 ≤ n) (ha : ClmOk n a) (hb : ClmOk n b) (h : a.2.1 = b.2.1) : difC n a b = true ↔ (a.1 = "out" ∧ b.1 = "out" ∧ a.2.2 ≠ b.2.2) ∨ (a.1 = "out" ∧ b.1 ≠ "out" ∧ a.2.2 ≤ b.2.2) ∨ (a.1 ≠ "out" ∧ b.1 = "out" ∧ b.2.2 ≤ a.2.2) := by
  obtain ⟨wa, sa, ra1, ra2⟩ := ha
  obtain ⟨wb, sb, rb1, rb2⟩ := hb
  have key : ∀ i, ckey n b i = ckey n a i := fun i => by
    unfold ckey
    rw [h]
  have val : ∀ i : Nat, (i : Int) < n → (cval n b i ≠ cval n a i ↔ ¬ ((a.1 = "out" ∧ i + 1 = a.2.2) ↔ (b.1 = "out" ∧ i + 1 = b.2.2))) := fun i hi => by
    have o := oth_ne (n := n) (i := i) (who := a.2.1) hi
    unfold cval
    rw [← h]
    by_cases z1 : a.1 = "out" ∧ i + 1 = a.2.2 <;> by_cases z2 : b.1 = "out" ∧ i + 1 = b.2.2
    · rw [if_pos z1, if_pos z2]
      exact ⟨fun w => absurd rfl w, fun w => absurd ⟨fun _ => z2, fun _ => z1⟩ w⟩
    · rw [if_pos z1, if_neg z2]
      exact ⟨fun _ w => z2 (w.mp z1), fun _ => o.symm⟩
    · rw [if_neg z1, if_pos z2]
      exact ⟨fun _ w => z1 (w.mpr z2), fun _ => o⟩
    · rw [if_neg z1, if_neg z2]
      exact ⟨fun w => absurd rfl w, fun w => absurd ⟨fun y => absurd y z1, fun y => absurd y z2⟩ w⟩
  unfold difC
  rw [List.any_eq_true]
  constructor
  · rintro ⟨i, hi, z⟩
    have hi := List.mem_range.mp hi
    simp only [Bool.and_eq_true, decide_eq_true_eq] at z
    obtain ⟨z1, z2, z3⟩ := z
    have f := (val i (by omega)).mp z3
    by_cases c : a.1 = "out" <;> by_cases e : b.1 = "out"
    · refine .inl ⟨c, e, fun q => f ⟨fun w => ⟨e, by omega⟩, fun w => ⟨c, by omega⟩⟩⟩
    · refine .inr (.inl ⟨c, e, ?_⟩)
      have : i + 1 = a.2.2 := Classical.byContradiction fun q => f ⟨fun w => absurd w.2 q, fun w => absurd w.1 e⟩
      omega
    · refine .inr (.inr ⟨c, e, ?_⟩)
      have : i + 1 = b.2.2 := Classical.byContradiction fun q => f ⟨fun w => absurd w.1 c, fun w => absurd w.2 q⟩
      omega
    · exact absurd ⟨fun w => absurd w.1 c, fun w => absurd w.1 e⟩ f
  · intro z
    have mk : ∀ i, i < a.2.2 → i < b.2.2 → ¬ ((a.1 = "out" ∧ i + 1 = a.2.2) ↔ (b.1 = "out" ∧ i + 1 = b.2.2)) → ∃ x, x ∈ List.range a.2.2 ∧ (decide (x < b.2.2) && (decide (ckey n b x = ckey n a x) && decide (cval n b x ≠ cval n a x))) = true := fun i h1 h2 h3 => by
      refine ⟨i, List.mem_range.mpr h1, ?_⟩
      simp only [Bool.and_eq_true, decide_eq_true_eq]
      exact ⟨h2, key i, (val i (by omega)).mpr h3⟩
    rcases z with ⟨z1, z2, z3⟩ | ⟨z1, z2, z3⟩ | ⟨z1, z2, z3⟩
    · by_cases c : a.2.2 < b.2.2
      · exact mk (a.2.2 - 1) (by omega) (by omega) fun w => by have := (w.mp ⟨z1, by omega⟩).2; omega
      · exact mk (b.2.2 - 1) (by omega) (by omega) fun w => by have := (w.mpr ⟨z2, by omega⟩).2; omega
    · exact mk (a.2.2 - 1) (by omega) (by omega) fun w => z2 (w.mp ⟨z1, by omega⟩).1
    · exact mk (b.2.2 - 1) (by omega) (by omega) fun w => z1 (w.mpr ⟨z2, by omega⟩).1
/-! ### how many matches claims decide, seed by seed -/
section
variable {n : Int}
theorem fits_seeds {a b : Clm} (hn : 0 ≤ n) (ha : ClmOk n a) (hb : ClmOk n b) (h : a.2.1 ≠ b.2.1) (f : difC n a b = false) : ¬ (mt n a.2.1 b.2.1 < (a.2.2 : Int) ∧ mt n a.2.1 b.2.1 < (b.2.2 : Int)) := by
  rintro ⟨z1, z2⟩
  rw [dif_other hn ha hb h] at f
  unfold clashL winsC at f
  rw [Bool.or_eq_false_iff] at f
  refine absurd (of_decide_eq_false f.1) fun w => w ⟨?_, ?_⟩ <;> split <;> omega
/-- claims decide what the tops of their seeds decide -/
theorem tops_keys {cs ds : List Clm} (hn : 0 ≤ n) (h1 : ∀ c ∈ cs, 1 ≤ c.2.2) (f : Fit n [] cs) (hs : ∀ c ∈ ds, c ∈ cs) (ht : ∀ c ∈ cs, ∃ e ∈ ds, e.2.1 = c.2.1 ∧ c.2.2 ≤ e.2.2) : (mergeC n [] cs).length = (mergeC n [] ds).length := by
  have g : Fit n [] ds := f.mono hs
  have p := (List.perm_ext_iff_of_nodup (merge_nd (n := n) (ks := []) (cs := cs)) (merge_nd (n := n) (ks := []) (cs := ds))).mpr fun k => by
    rw [key_in merge_nd, key_in merge_nd]
    constructor
    · rintro ⟨v, hv⟩
      obtain ⟨_, c, hc, q⟩ := (merge_val h1 f.2).mp hv
      have c1 := h1 c hc
      rw [show dC n c = decs n c.2.1 c.1 c.2.2 from rfl, decs_ent c1] at q
      obtain ⟨i, hi, e⟩ := List.mem_map.mp (val_mem q)
      have hi := List.mem_range.mp hi
      obtain ⟨t, ht1, ht2, ht3⟩ := ht c hc
      have t1 := h1 t (hs t ht1)
      refine ⟨.int (cval n t i), (merge_val (fun c hc => h1 c (hs c hc)) g.2).mpr ⟨rfl, t, ht1, ?_⟩⟩
      have ek : k = keyM (1 + (i : Int), ckey n c i) := (congrArg Prod.fst e).symm
      have ck : ckey n c i = ckey n t i := by
        unfold ckey
        rw [ht2]
      rw [show dC n t = decs n t.2.1 t.1 t.2.2 from rfl, decs_ent t1, ek, ck, ent_val, if_pos ⟨by omega, rfl⟩]
    · rintro ⟨v, hv⟩
      obtain ⟨_, c, hc, q⟩ := (merge_val (fun c hc => h1 c (hs c hc)) g.2).mp hv
      exact ⟨v, (merge_val h1 f.2).mpr ⟨rfl, c, hs c hc, q⟩⟩
  have l := p.length_eq
  rwa [List.length_map, List.length_map] at l
/-- a seed's claim more: of its matches as many are decided already as earlier seeds meet it in -/
theorem shared_count {ts : List Clm} {c : Clm} (hn : 0 ≤ n) (ho : ∀ t ∈ ts, ClmOk n t) (hc : ClmOk n c) (f : Fit n [] (ts ++ [c])) (nd : (ts.map (·.2.1)).Nodup) (hne : ∀ t ∈ ts, t.2.1 ≠ c.2.1) :
    (mergeC n [] (ts ++ [c])).length + (ts.filter fun t => decide (mt n c.2.1 t.2.1 ≤ min (t.2.2 : Int) (c.2.2 : Int))).length = (mergeC n [] ts).length + c.2.2 := by
  have o1 : ∀ t ∈ ts, 1 ≤ t.2.2 := fun t ht => (ho t ht).2.2.1
  have ft : Fit n [] ts := f.mono fun c hc => List.mem_append_left _ hc
  have cr := hc.2.2
  rw [more_len cr.1]
  have rest := List.length_eq_countP_add_countP (fun i => (said n ts c.2.1 i).isNone) (l := List.range c.2.2)
  rw [List.length_range] at rest
  have fitc : ∀ t ∈ ts, ¬ (mt n c.2.1 t.2.1 < (c.2.2 : Int) ∧ mt n c.2.1 t.2.1 < (t.2.2 : Int)) := fun t ht => fits_seeds hn hc (ho t ht) (hne t ht).symm (f.2 c (by simp) t (by simp [ht]))
  have rg : ∀ t ∈ ts, 1 ≤ mt n c.2.1 t.2.1 ∧ mt n c.2.1 t.2.1 ≤ n := fun t ht => mt_range hn hc.2.1 (ho t ht).2.1 (hne t ht).symm
  have sd : ∀ i : Nat, i < c.2.2 → ((said n ts c.2.1 i).isSome = true ↔ ∃ t ∈ ts, mt n c.2.1 t.2.1 = (i : Int) + 1 ∧ mt n c.2.1 t.2.1 ≤ (t.2.2 : Int)) := fun i hi => by
    rw [Option.isSome_iff_exists]
    constructor
    · rintro ⟨v, hv⟩
      obtain ⟨_, t, ht, q⟩ := (merge_val o1 ft.2).mp hv
      rw [show dC n t = decs n t.2.1 t.1 t.2.2 from rfl, decs_ent (o1 t ht)] at q
      rw [ent_val] at q
      split at q
      · rename_i w
        have k := (key_mt (a := (("won", c.2.1, 1) : Clm)) (b := t) hn hc.2.1 (ho t ht).2.1 (by omega)).mp w.2
        have fc := fitc t ht
        refine ⟨t, ht, ?_, ?_⟩
        · have k : mt n c.2.1 t.2.1 ≤ (i : Int) + 1 := k
          omega
        · have k : mt n c.2.1 t.2.1 ≤ (i : Int) + 1 := k
          omega
      · cases q
    · rintro ⟨t, ht, e1, e2⟩
      refine ⟨.int (cval n t i), (merge_val o1 ft.2).mpr ⟨rfl, t, ht, ?_⟩⟩
      rw [show dC n t = decs n t.2.1 t.1 t.2.2 from rfl, decs_ent (o1 t ht), ent_val, if_pos ⟨by omega, (key_mt (a := (("won", c.2.1, 1) : Clm)) (b := t) hn hc.2.1 (ho t ht).2.1 (by omega)).mpr (by show mt n c.2.1 t.2.1 ≤ _; omega)⟩]
  -- earlier seeds that share a match share different ones
  have inj : ∀ t ∈ ts, ∀ u ∈ ts, mt n c.2.1 t.2.1 ≤ min (t.2.2 : Int) (c.2.2 : Int) → mt n c.2.1 u.2.1 ≤ min (u.2.2 : Int) (c.2.2 : Int) → mt n c.2.1 t.2.1 = mt n c.2.1 u.2.1 → t.2.1 = u.2.1 := fun t ht u hu zt zu e => Classical.byContradiction fun ne => by
    obtain ⟨r1, r2⟩ := rg t ht
    have mtu := mt_range hn (ho t ht).2.1 (ho u hu).2.1 ne
    have kt := (mt_le hn hc.2.1 (ho t ht).2.1 (h := mt n c.2.1 t.2.1 - 1) (by omega) (by omega))
    have ku := (mt_le hn hc.2.1 (ho u hu).2.1 (h := mt n c.2.1 t.2.1 - 1) (by omega) (by omega))
    have bt := (mt_le hn hc.2.1 (ho t ht).2.1 (h := mt n c.2.1 t.2.1) (by omega) (by omega)).mp (Int.le_refl _)
    have bu := (mt_le hn hc.2.1 (ho u hu).2.1 (h := mt n c.2.1 t.2.1) (by omega) (by omega)).mp (by omega)
    have tu := (mt_le hn (ho t ht).2.1 (ho u hu).2.1 (h := mt n c.2.1 t.2.1 - 1) (by omega) (by omega))
    have e1 : p2 (n - (mt n c.2.1 t.2.1 - 1)) = 2 * p2 (n - mt n c.2.1 t.2.1) := by
      rw [show n - (mt n c.2.1 t.2.1 - 1) = n - mt n c.2.1 t.2.1 + 1 by omega]
      exact p2_succ (by omega)
    have hc2 := blk_below (p2_pos (n - mt n c.2.1 t.2.1)) hc.2.1.1
    have ht2 := blk_below (p2_pos (n - mt n c.2.1 t.2.1)) (ho t ht).2.1.1
    have hu2 := blk_below (p2_pos (n - mt n c.2.1 t.2.1)) (ho u hu).2.1.1
    rw [← e1] at hc2 ht2 hu2
    rw [← bt] at ht2
    rw [← bu] at hu2
    have same : mt n t.2.1 u.2.1 ≤ mt n c.2.1 t.2.1 - 1 := tu.mpr (by
      have n1 : ¬ blk (p2 (n - (mt n c.2.1 t.2.1 - 1))) c.2.1 = blk (p2 (n - (mt n c.2.1 t.2.1 - 1))) t.2.1 := fun z => by have := kt.mpr z; omega
      have n2 : ¬ blk (p2 (n - (mt n c.2.1 t.2.1 - 1))) c.2.1 = blk (p2 (n - (mt n c.2.1 t.2.1 - 1))) u.2.1 := fun z => by have := ku.mpr z; omega
      omega)
    exact fits_seeds hn (ho t ht) (ho u hu) ne (ft.2 t ht u hu) ⟨by omega, by omega⟩
  have cnt : (ts.filter fun t => decide (mt n c.2.1 t.2.1 ≤ min (t.2.2 : Int) (c.2.2 : Int))).length = (List.range c.2.2).countP fun i => decide ¬ (said n ts c.2.1 i).isNone = true := by
    rw [List.countP_eq_length_filter]
    have n1 : ((ts.filter fun t => decide (mt n c.2.1 t.2.1 ≤ min (t.2.2 : Int) (c.2.2 : Int))).map fun t => (mt n c.2.1 t.2.1 - 1).toNat).Nodup := by
      have nf : (ts.filter fun t => decide (mt n c.2.1 t.2.1 ≤ min (t.2.2 : Int) (c.2.2 : Int))).Pairwise fun t u => t.2.1 ≠ u.2.1 := (List.pairwise_map.mp nd).filter _
      rw [List.Nodup, List.pairwise_map]
      refine nf.imp_of_mem fun {t u} ht hu hne e => hne ?_
      obtain ⟨t1, t2⟩ := List.mem_filter.mp ht
      obtain ⟨u1, u2⟩ := List.mem_filter.mp hu
      have := rg t t1
      have := rg u u1
      exact inj t t1 u u1 (of_decide_eq_true t2) (of_decide_eq_true u2) (by omega)
    have n2 : ((List.range c.2.2).filter fun i => decide ¬ (said n ts c.2.1 i).isNone = true).Nodup := List.nodup_range.filter _
    have p := (List.perm_ext_iff_of_nodup n1 n2).mpr fun i => by
      rw [List.mem_map, List.mem_filter, List.mem_range, decide_eq_true_iff]
      constructor
      · rintro ⟨t, ht, rfl⟩
        obtain ⟨t1, t2⟩ := List.mem_filter.mp ht
        have t2 := of_decide_eq_true t2
        have r := rg t t1
        have hi : (mt n c.2.1 t.2.1 - 1).toNat < c.2.2 := by omega
        refine ⟨hi, fun z => ?_⟩
        have s := (sd _ hi).mpr ⟨t, t1, by omega, by omega⟩
        rw [Option.isNone_iff_eq_none] at z
        rw [z] at s
        cases s
      · rintro ⟨hi, z⟩
        obtain ⟨t, t1, e1, e2⟩ := (sd i hi).mp (by
          cases q : said n ts c.2.1 i with
          | none => rw [q] at z; exact absurd rfl z
          | some v => rfl)
        exact ⟨t, List.mem_filter.mpr ⟨t1, decide_eq_true (by omega)⟩, by omega⟩
    have l := p.length_eq
    rwa [List.length_map] at l
  rw [cnt]
  omega
end
end SC

set_option Elab.async false
set_option linter.all false
set_option maxRecDepth 100000
set_option maxHeartbeats 4000000
/-! A comprehension over a tuple with a test; two claims of one seed. -/
namespace SC
open PySem PySem.Spec PyProof.Rows L2 StX
section
variable {K : PySem.W.Frag} {σ : L2.St} {vs : List Nat} {H : Hp} {Q : VK} {tt : TT} {te : TE} {j : Nat}
theorem w_lctN {a : Addr} {xs : List V} (pf : Nat → Bool) (f : Nat → V) (hs : SqT K H a xs) (hz : xs.length ≤ 1000000) (hw : ∀ x, wipe ((wipe σ vs).set j (some x)) vs = wipe σ vs)
    (ht : ∀ (i : Nat) x H', xs[i]? = some x → Sm H H' → ∀ R : Bool → Hp → Prop, (∀ H2, Sm H' H2 → R (pf i) H2) → tt ((wipe σ vs).set j (some x)) H' R)
    (he : ∀ (i : Nat) x H', xs[i]? = some x → pf i = true → Sm H H' → ∀ R : VK, (∀ H2, Sm H' H2 → R (f i) H2) → te ((wipe σ vs).set j (some x)) H' R)
    (k : ∀ p H', Sm H H' → H p = none → H' p = some (.lst (((List.range xs.length).filter pf).map f)) → Q (.ref p) H') :
    ∃ b, V.ref a = .ref b ∧ (∃ xs, SqT K H b xs) ∧ LcB (Itt K b) (gName j) tt te vs σ H Q := by
  refine ⟨a, rfl, ⟨xs, hs⟩, fun D hD => ?_⟩
  refine lc_tup (xs := xs) (fun i H' => Sm H H' ∧ H' D = some (.lst (((List.range i).filter pf).map f))) ⟨same_upd hD, upd_same⟩ (fun i H' _ p => p.1.seqT hs) (fun i x H' hi p => ?_) (fun H' p => k D H' p.1 hD p.2)
  show wipe ((wipe σ vs).set j (some x)) vs = wipe σ vs ∧ tt ((wipe σ vs).set j (some x)) H' _
  have li := (List.getElem?_eq_some_iff.mp hi).1
  refine ⟨hw _, ht i x H' hi p.1 _ fun H2 s2 => ?_⟩
  rw [List.range_succ, List.filter_append, List.filter_cons, List.filter_nil]
  by_cases z : pf i = true
  · rw [if_pos z, if_pos z]
    refine he i x H2 hi z (p.1.trans s2) _ fun H3 s3 => ⟨_, s3 _ _ (s2 _ _ p.2), ?_, sm_upd ((p.1.trans s2).trans s3) hD, ?_⟩
    · rw [List.length_map]
      have h1 := List.length_filter_le pf (List.range i)
      rw [List.length_range] at h1
      exact Nat.lt_of_lt_of_le (show _ < 1000000 by omega) (by decide)
    · rw [upd_same, List.map_append]
      rfl
  · rw [if_neg z, if_neg z, List.append_nil]
    exact ⟨p.1.trans s2, s2 _ _ p.2⟩
end
theorem perm_two {ms : List Int} {a b : Int} (h : ms.Perm [a, b]) : ∃ x y, ms = [x, y] ∧ ((x = a ∧ y = b) ∨ (x = b ∧ y = a)) := by
  have l := h.length_eq
  match ms, l with
  | [x, y], _ =>
    refine ⟨x, y, rfl, ?_⟩
    have hx : x ∈ [a, b] := h.mem_iff.mp (by simp)
    simp only [List.mem_cons, List.not_mem_nil, or_false] at hx
    rcases hx with rfl | rfl
    · exact .inl ⟨rfl, by have := (List.perm_cons x).mp h; simpa using this⟩
    · refine .inr ⟨rfl, ?_⟩
      have := (List.perm_cons x).mp (h.trans (List.Perm.swap x a []))
      simpa using this
theorem perm_one {ms : List Int} {a : Int} (h : ms.Perm [a]) : ms = [a] := by simpa using h
theorem perm_nil {ms : List Int} (h : ms.Perm []) : ms = [] := by simpa using h
theorem w_min2' {H : Hp} {Q : VK} {i j : Int} (k : Q (.int (min i j)) H) : rMin2 [.int i, .int j] H Q := w_min2 k
theorem out_won : ¬ ("out" : Str) = "won" := by decide
theorem fits_ww {n s : Int} {r r' : Nat} (hn : 0 ≤ n) (ha : ClmOk n (("won", s, r) : Clm)) (hb : ClmOk n (("won", s, r') : Clm)) : (!difC n (("won", s, r) : Clm) (("won", s, r') : Clm)) = true := by
  rw [Bool.not_eq_true', Bool.eq_false_iff]
  intro z
  rcases (dif_same hn ha hb rfl).mp z with ⟨z, _⟩ | ⟨z, _⟩ | ⟨_, z, _⟩ <;> exact won_out z
theorem fits_ow {n s : Int} {r r' : Nat} (hn : 0 ≤ n) (ha : ClmOk n (("out", s, r) : Clm)) (hb : ClmOk n (("won", s, r') : Clm)) : (!difC n (("out", s, r) : Clm) (("won", s, r') : Clm)) = decide ((r' : Int) < (r : Int)) := by
  have h := dif_same hn ha hb rfl
  by_cases c : (r' : Int) < (r : Int)
  · rw [decide_eq_true c, Bool.not_eq_true', Bool.eq_false_iff]
    intro z
    rcases h.mp z with ⟨_, z, _⟩ | ⟨_, _, z⟩ | ⟨z, _⟩
    · exact won_out z
    · have : r ≤ r' := z
      omega
    · exact z rfl
  · rw [decide_eq_false c, h.mpr (.inr (.inl ⟨rfl, won_out, show r ≤ r' by omega⟩))]
    rfl
theorem fits_wo {n s : Int} {r r' : Nat} (hn : 0 ≤ n) (ha : ClmOk n (("won", s, r) : Clm)) (hb : ClmOk n (("out", s, r') : Clm)) : (!difC n (("won", s, r) : Clm) (("out", s, r') : Clm)) = decide ((r : Int) < (r' : Int)) := by
  have h := dif_same hn ha hb rfl
  by_cases c : (r : Int) < (r' : Int)
  · rw [decide_eq_true c, Bool.not_eq_true', Bool.eq_false_iff]
    intro z
    rcases h.mp z with ⟨z, _⟩ | ⟨z, _⟩ | ⟨_, _, z⟩
    · exact won_out z
    · exact won_out z
    · have : r' ≤ r := z
      omega
  · rw [decide_eq_false c, h.mpr (.inr (.inr ⟨won_out, rfl, show r' ≤ r by omega⟩))]
    rfl
theorem fits_oo {n s : Int} {r r' : Nat} (hn : 0 ≤ n) (ha : ClmOk n (("out", s, r) : Clm)) (hb : ClmOk n (("out", s, r') : Clm)) : (!difC n (("out", s, r) : Clm) (("out", s, r') : Clm)) = decide ((r : Int) = (r' : Int)) := by
  have h := dif_same hn ha hb rfl
  by_cases c : (r : Int) = (r' : Int)
  · rw [decide_eq_true c, Bool.not_eq_true', Bool.eq_false_iff]
    intro z
    rcases h.mp z with ⟨_, _, z⟩ | ⟨_, z, _⟩ | ⟨z, _⟩
    · have z : r ≠ r' := z
      omega
    · exact z rfl
    · exact z rfl
  · rw [decide_eq_false c, h.mpr (.inl ⟨rfl, rfl, show r ≠ r' by omega⟩)]
    rfl
theorem filt2 {pf : Nat → Bool} {f : Nat → V} : ((List.range 2).filter pf).map f = (if pf 0 = true then [f 0] else []) ++ (if pf 1 = true then [f 1] else []) := by
  rw [show List.range 2 = [0, 1] from rfl, List.filter_cons, List.filter_cons, List.filter_nil]
  by_cases h0 : pf 0 = true <;> by_cases h1 : pf 1 = true <;> simp [h0, h1]
def twoC (a b : Clm) (i : Nat) : Clm := if i = 0 then a else b
theorem twoC_at {H H' : Hp} {p q : Addr} {a b : Clm} (hp : H p = some (.tup (cV a))) (hq : H q = some (.tup (cV b))) (e : Sm H H') {i : Nat} {x : V} (hx : [V.ref p, V.ref q][i]? = some x) : ∃ r, x = .ref r ∧ H' r = some (.tup (cV (twoC a b i))) := by
  match i, hx with
  | 0, hx => cases hx; exact ⟨p, rfl, e _ _ hp⟩
  | 1, hx => cases hx; exact ⟨q, rfl, e _ _ hq⟩
theorem w_ne4 {K : PySem.W.Frag} {H : Hp} {Q : VK} {p q : Addr} {wa wb : Str} {ra rb L : Int} (ha : wa = "won" ∨ wa = "out") (hb : wb = "won" ∨ wb = "out") (h1 : H p = some (.lst [.str wa, .int ra, .str wb, .int rb])) (h2 : H q = some (.lst [.str "out", .int L, .str "out", .int L])) (k : Q (.bl (!decide (wa = "out" ∧ ra = L ∧ wb = "out" ∧ rb = L))) H) : rNeD K (.ref p) (.ref q) H Q := by
  have sh : ∀ {x y : Str} {i j : Int}, (x = "won" ∨ x = "out") → (y = "won" ∨ y = "out") → SeqAt.shaped (.list [.str x, .int i, .str y, .int j]) = true := fun {x y i j} hx hy => by
    unfold SeqAt.shaped
    rw [Bool.and_eq_true]
    refine ⟨?_, decide_eq_true (by simp [PyData.depth, PyData.depthAll])⟩
    rcases hx with rfl | rfl <;> rcases hy with rfl | rfl <;> simp only [PyData.canLay0, PyData.canLayAll0] <;> decide +kernel
  refine ⟨_, _, .lst (sq_of h1) (.cons (.str _) (.cons (.int _) (.cons (.str _) (.cons (.int _) .nil)))), .lst (sq_of h2) (.cons (.str _) (.cons (.int _) (.cons (.str _) (.cons (.int _) .nil)))), sh ha hb, sh (.inr rfl) (.inr rfl), ?_⟩
  have e : PyData.eqv (.list [.str wa, .int ra, .str wb, .int rb]) (.list [.str "out", .int L, .str "out", .int L]) = decide (wa = "out" ∧ ra = L ∧ wb = "out" ∧ rb = L) := by
    simp only [PyData.eqv, PyData.eqvAll]
    rw [Bool.eq_iff_iff]
    simp
  rw [e]
  exact k
/-! ### the last round of each seed, in a dict -/
def lastOf (kvs : List (Key × V)) (s : Int) : Int := match valV kvs (.inl s) with
  | some (.int x) => x
  | _ => 0
structure Tops (cs : List Clm) (kvs : List (Key × V)) (ks : List Int) : Prop where
  k : kvs.map (·.1) = ks.map Sum.inl
  nd : ks.Nodup
  m : ∀ s, s ∈ ks ↔ ∃ c ∈ cs, c.2.1 = s
  t : ∀ s ∈ ks, ∃ c ∈ cs, c.2.1 = s ∧ valV kvs (.inl s) = some (.int (c.2.2 : Int)) ∧ ∀ e ∈ cs, e.2.1 = s → e.2.2 ≤ c.2.2
theorem Tops.nil : Tops [] [] [] := ⟨rfl, List.nodup_nil, fun s => ⟨fun h => absurd h List.not_mem_nil, fun ⟨c, hc, _⟩ => absurd hc List.not_mem_nil⟩, fun s h => absurd h List.not_mem_nil⟩
theorem Tops.none {cs : List Clm} {kvs : List (Key × V)} {ks : List Int} (h : Tops cs kvs ks) {s : Int} (hs : s ∉ ks) : valV kvs (.inl s) = Option.none := by
  cases q : valV kvs (.inl s) with
  | none => rfl
  | some v =>
    unfold valV at q
    obtain ⟨p, hp, _⟩ := Option.map_eq_some_iff.mp q
    have e : p.1 = Sum.inl s := by simpa using List.find?_some hp
    have hm : p.1 ∈ kvs.map (·.1) := List.mem_map.mpr ⟨p, List.mem_of_find?_eq_some hp, rfl⟩
    rw [h.k, e] at hm
    obtain ⟨x, hx, ex⟩ := List.mem_map.mp hm
    exact absurd (by rw [← Sum.inl.inj ex]; exact hx) hs
theorem Tops.len {cs : List Clm} {kvs : List (Key × V)} {ks : List Int} (h : Tops cs kvs ks) : kvs.length = ks.length := by
  have := congrArg List.length h.k
  rwa [List.length_map, List.length_map] at this
theorem Tops.step {cs : List Clm} {kvs : List (Key × V)} {ks : List Int} (h : Tops cs kvs ks) (c : Clm) : ∃ ks', Tops (cs ++ [c]) (putK kvs (.inl c.2.1) (.int (max (c.2.2 : Int) (lastOf kvs c.2.1)))) ks' ∧ ks'.length ≤ ks.length + 1 := by
  have mem : ∀ s, (∃ e ∈ cs ++ [c], e.2.1 = s) ↔ (∃ e ∈ cs, e.2.1 = s) ∨ c.2.1 = s := fun s => by
    constructor
    · rintro ⟨e, he, z⟩
      rcases List.mem_append.mp he with he | he
      · exact .inl ⟨e, he, z⟩
      · exact .inr (by rw [← List.mem_singleton.mp he]; exact z)
    · rintro (⟨e, he, z⟩ | z)
      · exact ⟨e, List.mem_append_left _ he, z⟩
      · exact ⟨c, by simp, z⟩
  by_cases hs : c.2.1 ∈ ks
  · obtain ⟨t, ht, e1, e2, e3⟩ := h.t _ hs
    have lo : lastOf kvs c.2.1 = (t.2.2 : Int) := by unfold lastOf; rw [e2]
    refine ⟨ks, ⟨?_, h.nd, fun s => ?_, fun s hs' => ?_⟩, by omega⟩
    · unfold putK
      rw [valV_any, e2, if_pos (show (some (V.int (t.2.2 : Int))).isSome = true from rfl), List.map_map, ← h.k]
      refine List.map_congr_left fun p _ => ?_
      show (if p.1 = Sum.inl c.2.1 then (p.1, _) else p).1 = p.1
      split <;> rfl
    · rw [mem, h.m]
      exact ⟨.inl, fun z => z.elim id fun z => by rw [← z]; exact (h.m _).mp hs⟩
    · rw [valV_put]
      by_cases es : s = c.2.1
      · subst es
        rw [if_pos rfl, lo]
        by_cases g : t.2.2 ≤ c.2.2
        · refine ⟨c, by simp, rfl, by rw [show max (c.2.2 : Int) (t.2.2 : Int) = (c.2.2 : Int) by omega], fun e he z => ?_⟩
          rcases List.mem_append.mp he with he | he
          · exact Nat.le_trans (e3 e he z) g
          · rw [List.mem_singleton.mp he]; exact Nat.le_refl _
        · refine ⟨t, List.mem_append_left _ ht, e1, by rw [show max (c.2.2 : Int) (t.2.2 : Int) = (t.2.2 : Int) by omega], fun e he z => ?_⟩
          rcases List.mem_append.mp he with he | he
          · exact e3 e he z
          · rw [List.mem_singleton.mp he]; omega
      · rw [if_neg fun z => es (Sum.inl.inj z)]
        obtain ⟨u, hu, u1, u2, u3⟩ := h.t s hs'
        refine ⟨u, List.mem_append_left _ hu, u1, u2, fun e he z => ?_⟩
        rcases List.mem_append.mp he with he | he
        · exact u3 e he z
        · rw [List.mem_singleton.mp he] at z; exact absurd z.symm es
  · have vn := h.none hs
    have lo : lastOf kvs c.2.1 = 0 := by unfold lastOf; rw [vn]
    refine ⟨ks ++ [c.2.1], ⟨?_, ?_, fun s => ?_, fun s hs' => ?_⟩, by simp⟩
    · rw [putK_new _ vn, List.map_append, List.map_append, h.k]
      rfl
    · rw [List.nodup_append]
      refine ⟨h.nd, by simp, fun a ha b hb e => ?_⟩
      rw [List.mem_singleton.mp hb] at e
      exact hs (by rw [← e]; exact ha)
    · rw [mem, List.mem_append, List.mem_singleton, h.m]
      exact ⟨fun z => z.elim .inl fun z => .inr z.symm, fun z => z.elim .inl fun z => .inr z.symm⟩
    · rw [valV_put, lo]
      by_cases es : s = c.2.1
      · subst es
        rw [if_pos rfl]
        refine ⟨c, by simp, rfl, by rw [show max (c.2.2 : Int) 0 = (c.2.2 : Int) by omega], fun e he z => ?_⟩
        rcases List.mem_append.mp he with he | he
        · exact absurd ((h.m _).mpr ⟨e, he, z⟩) hs
        · rw [List.mem_singleton.mp he]; exact Nat.le_refl _
      · rw [if_neg fun z => es (Sum.inl.inj z)]
        rcases List.mem_append.mp hs' with hs' | hs'
        · obtain ⟨u, hu, u1, u2, u3⟩ := h.t s hs'
          refine ⟨u, List.mem_append_left _ hu, u1, u2, fun e he z => ?_⟩
          rcases List.mem_append.mp he with he | he
          · exact u3 e he z
          · rw [List.mem_singleton.mp he] at z; exact absurd z.symm es
        · exact absurd (List.mem_singleton.mp hs') es
theorem Tops.val {cs : List Clm} {kvs : List (Key × V)} {ks : List Int} (h : Tops cs kvs ks) (s : Int) : (valV kvs (.inl s)).getD (.int 0) = .int (lastOf kvs s) := by
  by_cases hs : s ∈ ks
  · obtain ⟨t, _, _, e2, _⟩ := h.t s hs
    unfold lastOf
    rw [e2]
    rfl
  · unfold lastOf
    rw [h.none hs]
    rfl
theorem Tops.at {cs : List Clm} {kvs : List (Key × V)} {ks : List Int} (h : Tops cs kvs ks) {s : Int} (hs : s ∈ ks) : ∃ c ∈ cs, c.2.1 = s ∧ lastOf kvs s = (c.2.2 : Int) ∧ valV kvs (.inl s) = some (.int (lastOf kvs s)) ∧ ∀ e ∈ cs, e.2.1 = s → e.2.2 ≤ c.2.2 := by
  obtain ⟨t, ht, e1, e2, e3⟩ := h.t s hs
  have lo : lastOf kvs s = (t.2.2 : Int) := by unfold lastOf; rw [e2]
  exact ⟨t, ht, e1, lo, by rw [lo]; exact e2, e3⟩
theorem w_dget2 {σ : L2.St} {H : Hp} {Q : VK} {n m : Nat} {D : Addr} {kvs : List (Key × V)} {s : Int} {z : V} (hx : σ[n]? = some (some (.ref D))) (hy : σ[m]? = some (some (.int s))) (hD : H D = some (.dK kvs)) (k : Q ((valV kvs (.inl s)).getD z) H) : tDGet2 (tVar n) (tVar m) (tC z) σ H Q :=
  ⟨_, hx, D, rfl, .inl ⟨kvs, .inl hD⟩, _, hy, _, .inl ⟨kvs, .inl s, .inl hD, rfl, rfl⟩, k⟩
theorem dget_i {H : Hp} {D : Addr} {kvs : List (Key × V)} {s : Int} {v : V} (hD : H D = some (.dK kvs)) (h : valV kvs (.inl s) = some v) : DGet H D (.int s) (some v) := .inl ⟨kvs, .inl s, .inl hD, rfl, h.symm⟩
/-- an earlier seed that shares a match with w -/
def shareV (n w : Int) (kvs : List (Key × V)) : V → Bool
  | .int s => decide (mt n w s ≤ min (lastOf kvs s) (lastOf kvs w))
  | _ => false
theorem share_len {n w : Int} {kvs : List (Key × V)} {ts : List Clm} {c : Clm} (hw : c.2.1 = w) (hc : lastOf kvs w = (c.2.2 : Int)) (ht : ∀ t ∈ ts, lastOf kvs t.2.1 = (t.2.2 : Int)) : ((((ts.map (·.2.1)).map V.int).filter (shareV n w kvs)).map fun x => x).length = (ts.filter fun t => decide (mt n c.2.1 t.2.1 ≤ min (t.2.2 : Int) (c.2.2 : Int))).length := by
  rw [List.length_map, List.map_map, List.filter_map, List.length_map]
  congr 1
  refine List.filter_congr fun t h => ?_
  show decide (mt n w t.2.1 ≤ min (lastOf kvs t.2.1) (lastOf kvs w)) = _
  rw [ht t h, hc, hw]
theorem getD_rangeA {ads : List Addr} : (List.range ads.length).map (fun i => ads.getD i 0) = ads := by
  apply List.ext_getElem
  · simp
  · intro i h1 h2
    simp [List.getD_eq_getElem?_getD, h2]
theorem twenty {ads : List Addr} (h : ads.length = 20) : ads.map V.ref = [V.ref (ads.getD 0 0), V.ref (ads.getD 1 0), V.ref (ads.getD 2 0), V.ref (ads.getD 3 0), V.ref (ads.getD 4 0), V.ref (ads.getD 5 0), V.ref (ads.getD 6 0), V.ref (ads.getD 7 0), V.ref (ads.getD 8 0), V.ref (ads.getD 9 0), V.ref (ads.getD 10 0), V.ref (ads.getD 11 0), V.ref (ads.getD 12 0), V.ref (ads.getD 13 0), V.ref (ads.getD 14 0), V.ref (ads.getD 15 0), V.ref (ads.getD 16 0), V.ref (ads.getD 17 0), V.ref (ads.getD 18 0), V.ref (ads.getD 19 0)] := by
  conv => lhs; rw [← getD_rangeA (ads := ads), h, List.map_map]
  rfl
def cutP {α : Type} (xs : List α) (lo hi : Option Int) : List α := (xs.drop (HT.sIx xs.length 0 lo)).take (HT.sIx xs.length xs.length hi - HT.sIx xs.length 0 lo)
theorem cut_rV {ps : List (Addr × Clm)} {lo hi : Option Int} : cutV (rV ps) lo hi = rV (cutP ps lo hi) := by
  unfold cutV cutP rV
  rw [List.length_map, List.map_take, List.map_drop]
theorem cutP_mem {α : Type} {xs : List α} {lo hi : Option Int} {x : α} (h : x ∈ cutP xs lo hi) : x ∈ xs := List.mem_of_mem_drop (List.mem_of_mem_take h)
theorem cutP_len {α : Type} {xs : List α} {lo hi : Option Int} : (cutP xs lo hi).length ≤ xs.length := by
  unfold cutP
  rw [List.length_take, List.length_drop]
  omega
theorem fit_snoc0 {n : Int} {cs : List Clm} {c : Clm} (f : Fit n [] cs) : Fit n [] (cs ++ [c]) ↔ ∀ b ∈ cs, difC n c b = false := by
  rw [fit0]
  constructor
  · intro h b hb
    exact h c (by simp) b (by simp [hb])
  · intro h x hx y hy
    rcases List.mem_append.mp hx with hx | hx <;> rcases List.mem_append.mp hy with hy | hy
    · exact f.2 x hx y hy
    · rw [List.mem_singleton.mp hy]; exact difC_sym (h x hx)
    · rw [List.mem_singleton.mp hx]; exact h y hy
    · rw [List.mem_singleton.mp hx, List.mem_singleton.mp hy]; exact difC_self
theorem none_dif {n : Int} {c : Clm} {ps : List (Addr × Clm)} : decide ((((List.range ps.length).filter fun i => !(!difC n c (ps.getD i default).2)).map fun _ => (1 : Int)) = []) = true ↔ ∀ b ∈ ps.map (·.2), difC n c b = false := by
  rw [decide_eq_true_iff, List.map_eq_nil_iff, List.filter_eq_nil_iff]
  constructor
  · intro h b hb
    obtain ⟨p, hp, rfl⟩ := List.mem_map.mp hb
    obtain ⟨i, hi, rfl⟩ := List.getElem_of_mem hp
    have z := h i (List.mem_range.mpr hi)
    rw [List.getD_eq_getElem?_getD, List.getElem?_eq_getElem hi] at z
    simpa using z
  · intro h i hi
    have hi := List.mem_range.mp hi
    rw [List.getD_eq_getElem?_getD, List.getElem?_eq_getElem hi]
    have := h _ (List.mem_map.mpr ⟨_, List.getElem_mem hi, rfl⟩)
    simp [this]
/-! ### ints, bools, Nones, tuples of two ints: the same -/
def SmW (H : Hp) (u v : V) : Prop := (∃ i, u = .int i ∧ v = .int i) ∨ SmV H u v
theorem SmW.go {H H' : Hp} {u v : V} (h : SmW H u v) (e : Sm H H') : SmW H' u v := h.elim .inl fun h => .inr (h.go e)
def SpSw1 : Sp := fun vs H Q _ => ∃ u v : V, vs = [u, v] ∧ SmW H u v ∧ ∀ H', Sm H H' → Q (.bl true) H'
def SpSw2 : Sp := fun vs H Q _ => ∃ (p q : Addr) (xs ys : List V), vs = [.ref p, .ref q] ∧ H p = some (.lst xs) ∧ H q = some (.lst ys) ∧ xs.length = ys.length ∧ ys.length ≤ 1000 ∧ (∀ (i : Nat) u v, xs[i]? = some u → ys[i]? = some v → SmW H u v) ∧ ∀ H', Sm H H' → Q (.bl true) H'
end SC

set_option Elab.async false
set_option linter.all false
set_option maxRecDepth 100000
set_option maxHeartbeats 4000000
/-! A seed's possible ends, and what follows from them. -/
namespace SC
open PySem PySem.Spec PyProof.Rows L2 StX
section
variable {d : Nat} {who : Int} {cs : List Clm}
theorem follows_said {n : Int} {c : Clm} (hc : 1 ≤ c.2.2) : (dC n c).all (conT (mergeC n [] cs)) = true ↔ ∀ i, i < c.2.2 → said n cs c.2.1 i = some (.int (cval n c i)) := by
  rw [con_allD decs_nd, decs_ent hc]
  constructor
  · intro h i hi
    refine h _ _ ?_
    rw [ent_val, if_pos ⟨hi, rfl⟩]
  · intro h k v q
    obtain ⟨i, hi, e⟩ := List.mem_map.mp (val_mem q)
    have e1 : k = keyM (1 + (i : Int), ckey n c i) := (congrArg Prod.fst e).symm
    have e2 : v = .int (cval n c i) := (congrArg Prod.snd e).symm
    subst e1 e2
    exact h i (List.mem_range.mp hi)
/-- some end comes about -/
theorem end_exists (hd : 1 ≤ d) (ho : ∀ c ∈ cs, ClmOk (d : Int) c) (f : Fit (d : Int) [] cs) (hw : 1 ≤ who) : ∀ (k s : Nat), s + k = d → mayW d cs who s → ∃ e, s ≤ e ∧ e ≤ d ∧ Fit (d : Int) [] (cs ++ [oneAt d who e])
  | 0, s, hk, hm => by
    have : s = d := by omega
    subst this
    exact ⟨s, Nat.le_refl _, Nat.le_refl _, (fit_won hd (fun c hc => (ho c hc).2.2.1) f).mpr hm⟩
  | k + 1, s, hk, hm => by
    have o1 : ∀ c ∈ cs, 1 ≤ c.2.2 := fun c hc => (ho c hc).2.2.1
    have hs : s < d := by omega
    by_cases z : mayW d cs who (s + 1)
    · obtain ⟨e, h1, h2, h3⟩ := end_exists hd ho f hw k (s + 1) (by omega) z
      exact ⟨e, by omega, h2, h3⟩
    · refine ⟨s, Nat.le_refl _, by omega, (fit_out o1 f hs).mpr ⟨hm, fun v hv => ?_⟩⟩
      rcases said_or ho f hs hw hv with e | e
      · exact absurd (mayW_succ.mpr ⟨hm, fun v' hv' => by rw [hv] at hv'; cases hv'; exact e⟩) z
      · exact e
theorem own_val {r i : Nat} : cval (d : Int) (("won", who, r) : Clm) i = blk (p2 ((d : Int) - (1 + (i : Int)) + 1)) who := if_neg fun z => won_out z.1
/-- what is not said to be won may be lost -/
theorem lose_here {i : Nat} (ho : ∀ c ∈ cs, ClmOk (d : Int) c) (f : Fit (d : Int) [] cs) (hw : 1 ≤ who) (hi : i < d) (hm : mayW d cs who i) (hn : said d cs who i ≠ some (.int (blk (p2 ((d : Int) - (1 + (i : Int)) + 1)) who))) : Fit (d : Int) [] (cs ++ [oneAt d who i]) := by
  refine (fit_out (fun c hc => (ho c hc).2.2.1) f hi).mpr ⟨hm, fun v hv => ?_⟩
  rcases said_or ho f hi hw hv with e | e
  · rw [e] at hv; exact absurd hv hn
  · exact e
theorem win_not {i : Nat} (ho : ∀ c ∈ cs, ClmOk (d : Int) c) (f : Fit (d : Int) [] cs) (hi : i < d) (hs : said d cs who i = some (.int (blk (p2 ((d : Int) - (1 + (i : Int)) + 1)) who))) : ¬ Fit (d : Int) [] (cs ++ [oneAt d who i]) := fun z => by
  have := ((fit_out (fun c hc => (ho c hc).2.2.1) f hi).mp z).2 _ hs
  exact oth_ne (n := (d : Int)) (i := i) (who := who) (by omega) (V.int.inj this).symm
theorem won_iff {r : Nat} (hd : 1 ≤ d) (ho : ∀ c ∈ cs, ClmOk (d : Int) c) (f : Fit (d : Int) [] cs) (hw : 1 ≤ who) (h1 : 1 ≤ r) (hr : r ≤ d) : (dC (d : Int) (("won", who, r) : Clm)).all (conT (mergeC (d : Int) [] cs)) = true ↔ ∀ s, s ≤ d → Fit (d : Int) [] (cs ++ [oneAt d who s]) → r ≤ s := by
  rw [follows_said (c := (("won", who, r) : Clm)) h1]
  constructor
  · intro h s hs z
    refine Classical.byContradiction fun q => ?_
    have hsr : s < r := by omega
    have := h s hsr
    rw [own_val] at this
    exact win_not ho f (by omega) this z
  · intro h
    have all : ∀ i, i ≤ r → mayW d cs who i ∧ ∀ j, j < i → said d cs who j = some (.int (blk (p2 ((d : Int) - (1 + (j : Int)) + 1)) who)) := fun i => by
      induction i with
      | zero => exact fun _ => ⟨fun j hj => absurd hj (Nat.not_lt_zero _), fun j hj => absurd hj (Nat.not_lt_zero _)⟩
      | succ i ih =>
        intro hi
        obtain ⟨m, a⟩ := ih (by omega)
        have si : said d cs who i = some (.int (blk (p2 ((d : Int) - (1 + (i : Int)) + 1)) who)) := Classical.byContradiction fun q => by
          have := h i (by omega) (lose_here ho f hw (by omega) m q)
          omega
        refine ⟨mayW_succ.mpr ⟨m, fun v hv => by rw [si] at hv; exact (Option.some.inj hv).symm⟩, fun j hj => ?_⟩
        by_cases c : j = i
        · subst c; exact si
        · exact a j (by omega)
    intro i hi
    rw [own_val]
    exact (all r (Nat.le_refl _)).2 i hi
theorem out_iff {r : Nat} (hd : 1 ≤ d) (ho : ∀ c ∈ cs, ClmOk (d : Int) c) (f : Fit (d : Int) [] cs) (hw : 1 ≤ who) (h1 : 1 ≤ r) (hr : r ≤ d) : (dC (d : Int) (("out", who, r) : Clm)).all (conT (mergeC (d : Int) [] cs)) = true ↔ ∀ s, s ≤ d → (Fit (d : Int) [] (cs ++ [oneAt d who s]) ↔ s + 1 = r) := by
  have o1 : ∀ c ∈ cs, 1 ≤ c.2.2 := fun c hc => (ho c hc).2.2.1
  have vo : ∀ i, i + 1 < r → cval (d : Int) (("out", who, r) : Clm) i = blk (p2 ((d : Int) - (1 + (i : Int)) + 1)) who := fun i hi => if_neg fun z => by have : i + 1 = r := z.2; omega
  have vl : cval (d : Int) (("out", who, r) : Clm) (r - 1) = oth d (((r - 1) + 1 : Nat) : Int) who := if_pos ⟨rfl, by show r - 1 + 1 = r; omega⟩
  rw [follows_said (c := (("out", who, r) : Clm)) h1]
  constructor
  · intro h s hs
    have hl := h (r - 1) (show r - 1 < r by omega)
    rw [vl] at hl
    have hown : ∀ i, i + 1 < r → said d cs who i = some (.int (blk (p2 ((d : Int) - (1 + (i : Int)) + 1)) who)) := fun i hi => by
      have := h i (show i < r by omega)
      rwa [vo i hi] at this
    have hm : mayW d cs who (r - 1) := fun i hi v hv => by rw [hown i (by omega)] at hv; exact (Option.some.inj hv).symm
    constructor
    · intro z
      refine Classical.byContradiction fun q => ?_
      by_cases c : s + 1 < r
      · exact win_not ho f (by omega) (hown s c) z
      · have nm : ¬ mayW d cs who s := fun w => by
          have := w (r - 1) (by omega) _ hl
          exact oth_ne (n := (d : Int)) (i := r - 1) (who := who) (by omega) (V.int.inj this)
        have := end_may (who := who) hd o1 f hs nm
        rw [left_yes z] at this
        cases this
    · intro z
      have : s = r - 1 := by omega
      subst this
      exact (fit_out o1 f (by omega)).mpr ⟨hm, fun v hv => by rw [hl] at hv; exact (Option.some.inj hv).symm⟩
  · intro h
    have fr := (h (r - 1) (by omega)).mpr (by omega)
    obtain ⟨hm, hv⟩ := (fit_out o1 f (by omega)).mp fr
    have hown : ∀ i, i + 1 < r → said d cs who i = some (.int (blk (p2 ((d : Int) - (1 + (i : Int)) + 1)) who)) := fun i hi => Classical.byContradiction fun q => by
      have := (h i (by omega)).mp (lose_here ho f hw (by omega) (fun j hj => hm j (by omega)) q)
      omega
    intro i hi
    have hi : i < r := hi
    by_cases c : i + 1 < r
    · rw [vo i c]
      exact hown i c
    · have : i = r - 1 := by omega
      subst this
      rw [vl]
      cases q : said d cs who (r - 1) with
      | some v => rw [hv v q]
      | none =>
        exfalso
        have m2 : mayW d cs who r := by
          have := mayW_succ.mpr ⟨hm, fun v hv => by rw [q] at hv; cases hv⟩
          rwa [show r - 1 + 1 = r by omega] at this
        obtain ⟨e, e1, e2, e3⟩ := end_exists hd ho f hw (d - r) r (by omega) m2
        have := (h e e2).mp e3
        omega
/-- the ends that the claims leave, one by one -/
def endsL (d : Nat) (cs : List Clm) (who : Int) (m : Nat) : List Int := ((List.range m).filter fun s => cs.all fun b => !difC (d : Int) (oneAt d who s) b).map fun s : Nat => 1 + (s : Int)
theorem fitB_iff {s : Nat} (f : Fit (d : Int) [] cs) : (cs.all fun b => !difC (d : Int) (oneAt d who s) b) = true ↔ Fit (d : Int) [] (cs ++ [oneAt d who s]) := by
  rw [fit_snoc0 f, List.all_eq_true]
  exact ⟨fun h b hb => by have := h b hb; simpa using this, fun h b hb => by rw [h b hb]; rfl⟩
theorem ends_mem (f : Fit (d : Int) [] cs) {x : Int} : x ∈ endsL d cs who (d + 1) ↔ ∃ s, s ≤ d ∧ Fit (d : Int) [] (cs ++ [oneAt d who s]) ∧ x = 1 + (s : Int) := by
  unfold endsL
  rw [List.mem_map]
  constructor
  · rintro ⟨s, hs, rfl⟩
    obtain ⟨h1, h2⟩ := List.mem_filter.mp hs
    exact ⟨s, by have := List.mem_range.mp h1; omega, (fitB_iff f).mp h2, rfl⟩
  · rintro ⟨s, h1, h2, rfl⟩
    exact ⟨s, List.mem_filter.mpr ⟨List.mem_range.mpr (by omega), (fitB_iff f).mpr h2⟩, rfl⟩
theorem ends_sorted {m : Nat} : (endsL d cs who m).Pairwise (· < ·) := by
  unfold endsL
  rw [List.pairwise_map]
  exact (List.pairwise_lt_range.filter _).imp fun h => by omega
theorem ends_succ {m : Nat} : endsL d cs who (m + 1) = endsL d cs who m ++ if (cs.all fun b => !difC (d : Int) (oneAt d who m) b) = true then [1 + (m : Int)] else [] := by
  unfold endsL
  rw [List.range_succ, List.filter_append, List.map_append, List.filter_cons, List.filter_nil]
  congr 1
  split <;> rfl
/-- the first end, and what is won before it -/
theorem ends_won {r : Nat} (hd : 1 ≤ d) (ho : ∀ c ∈ cs, ClmOk (d : Int) c) (f : Fit (d : Int) [] cs) (hw : 1 ≤ who) (h1 : 1 ≤ r) (hr : r ≤ d) : ∃ x rest, endsL d cs who (d + 1) = x :: rest ∧ (dC (d : Int) (("won", who, r) : Clm)).all (conT (mergeC (d : Int) [] cs)) = decide ((r : Int) < x) := by
  obtain ⟨e, _, e2, e3⟩ := end_exists hd ho f hw d 0 (by omega) fun i hi => absurd hi (Nat.not_lt_zero _)
  have em : 1 + (e : Int) ∈ endsL d cs who (d + 1) := (ends_mem f).mpr ⟨e, e2, e3, rfl⟩
  have so := ends_sorted (d := d) (cs := cs) (who := who) (m := d + 1)
  have mm := fun x => ends_mem (d := d) (who := who) f (x := x)
  generalize endsL d cs who (d + 1) = L at em so mm
  cases L with
  | nil => cases em
  | cons x rest =>
    refine ⟨x, rest, rfl, ?_⟩
    rw [Bool.eq_iff_iff, won_iff hd ho f hw h1 hr, decide_eq_true_iff]
    constructor
    · intro h
      obtain ⟨s, h1, h2, rfl⟩ := (mm x).mp List.mem_cons_self
      have := h s h1 h2
      omega
    · intro h s hs z
      have hm := (mm (1 + (s : Int))).mpr ⟨s, hs, z, rfl⟩
      rcases List.mem_cons.mp hm with q | q
      · omega
      · have := (List.pairwise_cons.mp so).1 _ q
        omega
theorem ends_out {r : Nat} (hd : 1 ≤ d) (ho : ∀ c ∈ cs, ClmOk (d : Int) c) (f : Fit (d : Int) [] cs) (hw : 1 ≤ who) (h1 : 1 ≤ r) (hr : r ≤ d) : (dC (d : Int) (("out", who, r) : Clm)).all (conT (mergeC (d : Int) [] cs)) = decide (endsL d cs who (d + 1) = [(r : Int)]) := by
  have so := ends_sorted (d := d) (cs := cs) (who := who) (m := d + 1)
  have mm := fun x => ends_mem (d := d) (who := who) f (x := x)
  rw [Bool.eq_iff_iff, out_iff hd ho f hw h1 hr, decide_eq_true_iff]
  generalize endsL d cs who (d + 1) = L at so mm
  constructor
  · intro h
    have hm : (r : Int) ∈ L := (mm _).mpr ⟨r - 1, by omega, (h (r - 1) (by omega)).mpr (by omega), by omega⟩
    have only : ∀ x ∈ L, x = (r : Int) := fun x hx => by
      obtain ⟨s, h1, h2, rfl⟩ := (mm x).mp hx
      have := (h s h1).mp h2
      omega
    match L, so, hm, only with
    | [x], _, _, only => rw [only x (by simp)]
    | x :: y :: t, so, _, only =>
      have a := only x (by simp)
      have b := only y (by simp)
      have := (List.pairwise_cons.mp so).1 y (by simp)
      omega
  · intro h s hs
    subst h
    constructor
    · intro z
      have := (mm (1 + (s : Int))).mpr ⟨s, hs, z, rfl⟩
      have := List.mem_singleton.mp this
      omega
    · intro z
      obtain ⟨t, h1, h2, h3⟩ := (mm (r : Int)).mp (by simp)
      have : t = s := by omega
      rw [← this]
      exact h2
end
/-! ### two lists of ints -/
theorem eqvAll_ints : ∀ xs ys : List Int, PyData.eqvAll (xs.map PyData.int) (ys.map PyData.int) = decide (xs = ys)
  | [], [] => by simp [PyData.eqvAll]
  | [], y :: ys => by simp [PyData.eqvAll]
  | x :: xs, [] => by simp [PyData.eqvAll]
  | x :: xs, y :: ys => by
    have ih := eqvAll_ints xs ys
    simp only [List.map_cons, PyData.eqvAll, PyData.eqv, ih]
    rw [Bool.eq_iff_iff]
    simp
theorem w_eqLi {K : PySem.W.Frag} {H : Hp} {Q : VK} {p q : Addr} (xs ys : List Int) (h1 : SqL K H p (xs.map V.int)) (h2 : SqL K H q (ys.map V.int)) (k : Q (.bl (decide (xs = ys))) H) : rEqD K (.ref p) (.ref q) H Q := by
  refine ⟨_, _, .lst h1 (dp_ints xs), .lst h2 (dp_ints ys), shaped_ints _, shaped_ints _, ?_⟩
  rw [show PyData.eqv (.list (xs.map PyData.int)) (.list (ys.map PyData.int)) = decide (xs = ys) by
    rw [← eqvAll_ints]
    simp only [PyData.eqv]]
  exact k
theorem ends_stop {d i : Nat} {cs : List Clm} {who : Int} (hd : 1 ≤ d) (ho : ∀ c ∈ cs, ClmOk (d : Int) c) (f : Fit (d : Int) [] cs) (hi : i < d) (h1 : Fit (d : Int) [] (cs ++ [oneAt d who i])) (h2 : ¬ mayW d cs who (i + 1)) : endsL d cs who (d + 1) = endsL d cs who i ++ [1 + (i : Int)] := by
  have o1 : ∀ c ∈ cs, 1 ≤ c.2.2 := fun c hc => (ho c hc).2.2.1
  have key : ∀ k, i + 1 + k ≤ d + 1 → endsL d cs who (i + 1 + k) = endsL d cs who i ++ [1 + (i : Int)] := fun k => by
    induction k with
    | zero =>
      intro _
      rw [Nat.add_zero, ends_succ, if_pos ((fitB_iff f).mpr h1)]
    | succ k ih =>
      intro hk
      have nf : ¬ Fit (d : Int) [] (cs ++ [oneAt d who (i + 1 + k)]) := fun z => by
        have := end_may (who := who) (s := i + 1 + k) hd o1 f (by omega) fun m => h2 fun j hj => m j (by omega)
        rw [left_yes z] at this
        cases this
      rw [show i + 1 + (k + 1) = i + 1 + k + 1 by omega, ends_succ, if_neg fun z => nf ((fitB_iff f).mp z), List.append_nil]
      exact ih (by omega)
  have := key (d - i) (by omega)
  rwa [show i + 1 + (d - i) = d + 1 by omega] at this
theorem ends_last {d : Nat} {cs : List Clm} {who : Int} (hd : 1 ≤ d) (ho : ∀ c ∈ cs, ClmOk (d : Int) c) (f : Fit (d : Int) [] cs) (h : mayW d cs who d) : endsL d cs who (d + 1) = endsL d cs who d ++ [1 + (d : Int)] := by
  rw [ends_succ, if_pos ((fitB_iff f).mpr ((fit_won hd (fun c hc => (ho c hc).2.2.1) f).mpr h))]
end SC

set_option Elab.async false
set_option linter.all false
set_option maxRecDepth 100000
set_option maxHeartbeats 4000000
/-! Ends put together into spans; a list's truth; the last of a list. -/
namespace SC
open PySem PySem.Spec PyProof.Rows L2 StX
/-! ### a list's truth -/
def tTru (K : PySem.W.Frag) (te : TE) : TT := fun σ H Q => te σ H fun x H' => ∃ k, TruV K x H' k ∧ Q k H'
theorem pt_tru {X : Cx} {a : Expr} {ta : TE} (ha : PE X a ta) (he : ∀ whole, isTrue a X.env whole = (do let v ← whole; standAt a.pos; holding [v] (truthy v)) := by intro _; rfl) : PT X a (tTru X.K ta) := pt_truth ha he
theorem w_truL {K : PySem.W.Frag} {σ : L2.St} {H : Hp} {i : Nat} {p : Addr} {xs : List V} {Q : Bool → Hp → Prop} (h : σ[i]? = some (some (.ref p))) (hs : SqL K H p xs) (k : Q (!xs.isEmpty) H) : tTru K (tVar i) σ H Q := ⟨.ref p, h, _, .inl ⟨xs, hs, rfl⟩, k⟩
/-! ### the last of a list -/
theorem at_last {α : Type} (ys : List α) (v : α) : atI (ys ++ [v]) (-1) = some v := by
  unfold atI ixN
  rw [if_neg (by decide), List.length_append, List.length_singleton, if_pos (by omega)]
  show (ys ++ [v])[((-1 : Int) + ((ys.length + 1 : Nat) : Int)).toNat]? = _
  rw [show ((-1 : Int) + ((ys.length + 1 : Nat) : Int)).toNat = ys.length by omega]
  simp
theorem ix_last {α : Type} (ys : List α) (v : α) : ixN (ys ++ [v]).length (-1) = some ys.length := by
  unfold ixN
  rw [if_neg (by decide), List.length_append, List.length_singleton, if_pos (by omega)]
  congr 1
  omega
theorem set_last {α : Type} (ys : List α) (v w : α) : (ys ++ [v]).set ys.length w = ys ++ [w] := by
  simp
/-! ### consecutive numbers put together -/
def spanStep (ss : List (Int × Int)) (x : Int) : List (Int × Int) := match ss.getLast? with
  | some p => if p.2 = x - 1 then ss.dropLast ++ [(p.1, x)] else ss ++ [(x, x)]
  | none => ss ++ [(x, x)]
def spans (xs : List Int) : List (Int × Int) := xs.foldl spanStep []
def spV (p : Int × Int) : List V := [.int p.1, .int p.2]
theorem span_nil {x : Int} : spanStep [] x = [(x, x)] := rfl
theorem span_go {ss : List (Int × Int)} {a b x : Int} (h : b = x - 1) : spanStep (ss ++ [(a, b)]) x = ss ++ [(a, x)] := by
  unfold spanStep
  rw [List.getLast?_append]
  show (if b = x - 1 then (ss ++ [(a, b)]).dropLast ++ [(a, x)] else _) = _
  rw [if_pos h, List.dropLast_concat]
theorem span_new {ss : List (Int × Int)} {a b x : Int} (h : b ≠ x - 1) : spanStep (ss ++ [(a, b)]) x = ss ++ [(a, b)] ++ [(x, x)] := by
  unfold spanStep
  rw [List.getLast?_append]
  show (if b = x - 1 then _ else (ss ++ [(a, b)]) ++ [(x, x)]) = _
  rw [if_neg h]
theorem spans_take {xs : List Int} {i : Nat} {x : Int} (h : xs[i]? = some x) : spans (xs.take (i + 1)) = spanStep (spans (xs.take i)) x := by
  unfold spans
  rw [List.take_add_one, h, List.foldl_append]
  rfl
theorem span_len (ss : List (Int × Int)) (x : Int) : (spanStep ss x).length ≤ ss.length + 1 := by
  unfold spanStep
  split
  · split
    · rw [List.length_append, List.length_dropLast]; simp
    · simp
  · simp
theorem spans_len : ∀ (xs : List Int) (ss : List (Int × Int)), (xs.foldl spanStep ss).length ≤ ss.length + xs.length
  | [], ss => by simp
  | x :: xs, ss => by
    have := spans_len xs (spanStep ss x)
    have := span_len ss x
    rw [List.foldl_cons, List.length_cons]
    omega
theorem ends_len {d : Nat} {cs : List Clm} {who : Int} {m : Nat} : (endsL d cs who m).length ≤ m := by
  unfold endsL
  rw [List.length_map]
  exact Nat.le_trans (List.length_filter_le _ _) (by rw [List.length_range]; exact Nat.le_refl _)
/-- the last end -/
def lastE (d : Nat) (cs : List Clm) (who : Int) : Int := (endsL d cs who (d + 1)).getLastD 0
theorem lastE_at {d : Nat} {cs : List Clm} {who : Int} (hd : 1 ≤ d) (ho : ∀ c ∈ cs, ClmOk (d : Int) c) (f : Fit (d : Int) [] cs) (hw : 1 ≤ who) : atI ((endsL d cs who (d + 1)).map V.int) (-1) = some (.int (lastE d cs who)) := by
  obtain ⟨e, _, e2, e3⟩ := end_exists hd ho f hw d 0 (by omega) fun i hi => absurd hi (Nat.not_lt_zero _)
  have em : 1 + (e : Int) ∈ endsL d cs who (d + 1) := (ends_mem f).mpr ⟨e, e2, e3, rfl⟩
  unfold lastE
  generalize endsL d cs who (d + 1) = L at em
  rcases List.eq_nil_or_concat L with h | ⟨ys, v, h⟩
  · subst h; cases em
  · subst h
    rw [List.concat_eq_append, List.map_append, List.map_cons, List.map_nil, at_last, List.getLastD_concat]
theorem RefsTo.cut {H : Hp} {as : List Addr} {a : Addr} {vs : List (List V)} {v : List V} (r : RefsTo H (as ++ [a]) (vs ++ [v])) : RefsTo H as vs ∧ H a = some (.tup v) := by
  have hl : as.length = vs.length := by have := r.1; simp at this; exact this
  refine ⟨⟨hl, fun j b w h1 h2 => r.2 j b w ?_ ?_⟩, r.2 as.length a v (by simp) (by rw [hl]; simp)⟩
  · rw [List.getElem?_append_left (List.getElem?_eq_some_iff.mp h1).1]; exact h1
  · rw [List.getElem?_append_left (List.getElem?_eq_some_iff.mp h2).1]; exact h2
end SC

set_option Elab.async false
set_option linter.all false
set_option maxRecDepth 100000
set_option maxHeartbeats 4000000
/-! A seed's possible ends, and who may meet whom, by all results of a small cup. -/
namespace SC
open PySem PySem.Spec PyProof.Rows L2 StX
@[irreducible] def rngB (d : Nat) : Bool := (outsF d).all fun e => (List.range (2 ^ d)).all fun s => decide (1 ≤ e.getD s 0) && decide (e.getD s 0 ≤ (d : Int) + 1)
theorem rng1 : rngB 1 = true := by decide +kernel
theorem rng2 : rngB 2 = true := by decide +kernel
theorem rng3 : rngB 3 = true := by decide +kernel
/-- the end of a seed in a result -/
def endE (e : List Int) (who : Int) : Int := e.getD (who - 1).toNat 0
theorem end_range {d : Nat} {e : List Int} {who : Int} (hd : 1 ≤ d ∧ d ≤ 3) (he : e ∈ outsF d) (hw : 1 ≤ who ∧ who ≤ p2 (d : Int)) : 1 ≤ endE e who ∧ endE e who ≤ (d : Int) + 1 := by
  have h : rngB d = true := by
    rcases (by omega : d = 1 ∨ d = 2 ∨ d = 3) with rfl | rfl | rfl
    · exact rng1
    · exact rng2
    · exact rng3
  unfold rngB at h
  have := List.all_eq_true.mp (List.all_eq_true.mp h e he) (who - 1).toNat (List.mem_range.mpr (by
    have := hw.2
    rw [p2_nat] at this
    omega))
  rw [Bool.and_eq_true, decide_eq_true_iff, decide_eq_true_iff] at this
  exact this
/-- the results that claims leave -/
def leftF (d : Nat) (cs : List Clm) : List (List Int) := (outsF d).filter fun e => cs.all (truE e)
theorem left_mem {d : Nat} {cs : List Clm} {e : List Int} : e ∈ leftF d cs ↔ e ∈ outsF d ∧ ∀ c ∈ cs, truE e c = true := by
  unfold leftF
  rw [List.mem_filter, List.all_eq_true]
theorem tru_won {e : List Int} {who : Int} {r : Nat} : truE e (("won", who, r) : Clm) = true ↔ (r : Int) < endE e who := by
  unfold truE
  rw [if_pos rfl, decide_eq_true_iff]
  exact Iff.rfl
theorem tru_out {e : List Int} {who : Int} {r : Nat} : truE e (("out", who, r) : Clm) = true ↔ endE e who = (r : Int) := by
  unfold truE
  rw [if_neg (fun z => absurd (show ("out" : Str) = "won" from z) (by decide)), decide_eq_true_iff]
  exact Iff.rfl
theorem tru_one {d s : Nat} {e : List Int} {who : Int} (hd : 1 ≤ d ∧ d ≤ 3) (he : e ∈ outsF d) (hw : 1 ≤ who ∧ who ≤ p2 (d : Int)) (hs : s ≤ d) : truE e (oneAt d who s) = true ↔ endE e who = 1 + (s : Int) := by
  unfold oneAt
  by_cases z : s < d
  · rw [if_pos z, tru_out]
    omega
  · rw [if_neg z, tru_won]
    have := (end_range hd he hw).2
    omega
theorem one_ok {d s : Nat} {who : Int} (hd : 1 ≤ d) (hw : 1 ≤ who ∧ who ≤ p2 (d : Int)) : ClmOk (d : Int) (oneAt d who s) := by
  unfold oneAt
  by_cases z : s < d
  · rw [if_pos z]
    exact ⟨.inr rfl, hw, by show 1 ≤ s + 1; omega, by show ((s + 1 : Nat) : Int) ≤ d; omega⟩
  · rw [if_neg z]
    exact ⟨.inl rfl, hw, hd, Int.le_refl _⟩
theorem ends_left {d : Nat} {cs : List Clm} {who x : Int} (hd : 1 ≤ d ∧ d ≤ 3) (ho : ∀ c ∈ cs, ClmOk (d : Int) c) (f : Fit (d : Int) [] cs) (hw : 1 ≤ who ∧ who ≤ p2 (d : Int)) : x ∈ endsL d cs who (d + 1) ↔ ∃ e ∈ leftF d cs, endE e who = x := by
  rw [ends_mem f]
  constructor
  · rintro ⟨s, hs, fs, rfl⟩
    obtain ⟨e, he, ht⟩ := joint hd (fun c hc => by
      rcases List.mem_append.mp hc with h | h
      · exact ho c h
      · rw [List.mem_singleton.mp h]; exact one_ok hd.1 hw) fs.2
    refine ⟨e, left_mem.mpr ⟨he, fun c hc => ht c (List.mem_append_left _ hc)⟩, ?_⟩
    exact (tru_one hd he hw hs).mp (ht _ (List.mem_append_right _ (List.mem_singleton.mpr rfl)))
  · rintro ⟨e, he, rfl⟩
    obtain ⟨he, ht⟩ := left_mem.mp he
    obtain ⟨r1, r2⟩ := end_range hd he hw
    have es : endE e who = 1 + (((endE e who - 1).toNat : Nat) : Int) := by omega
    refine ⟨(endE e who - 1).toNat, by omega, ?_, es⟩
    refine fit_sat hd (fun c hc => ?_) he (List.all_eq_true.mpr fun c hc => ?_)
    · rcases List.mem_append.mp hc with h | h
      · exact ho c h
      · rw [List.mem_singleton.mp h]; exact one_ok hd.1 hw
    · rcases List.mem_append.mp hc with h | h
      · exact ht c h
      · rw [List.mem_singleton.mp h]; exact (tru_one hd he hw (by omega)).mpr es
/-! ### the last end -/
theorem last_max : ∀ {L : List Int}, L.Pairwise (· < ·) → L ≠ [] → ∀ {m : Int}, m ≤ L.getLastD 0 ↔ ∃ x ∈ L, m ≤ x := by
  intro L so ne m
  rcases List.eq_nil_or_concat L with h | ⟨ys, v, h⟩
  · exact absurd h ne
  · subst h
    rw [List.concat_eq_append] at so ⊢
    rw [List.getLastD_concat]
    constructor
    · exact fun h => ⟨v, by simp, h⟩
    · rintro ⟨x, hx, h⟩
      rcases List.mem_append.mp hx with q | q
      · have := (List.pairwise_append.mp so).2.2 x q v (by simp)
        omega
      · rw [List.mem_singleton.mp q] at h; exact h
theorem last_left {d : Nat} {cs : List Clm} {who m : Int} (hd : 1 ≤ d ∧ d ≤ 3) (ho : ∀ c ∈ cs, ClmOk (d : Int) c) (f : Fit (d : Int) [] cs) (hw : 1 ≤ who ∧ who ≤ p2 (d : Int)) : m ≤ lastE d cs who ↔ ∃ e ∈ leftF d cs, m ≤ endE e who := by
  unfold lastE
  obtain ⟨e, _, e2, e3⟩ := end_exists hd.1 ho f hw.1 d 0 (by omega) fun i hi => absurd hi (Nat.not_lt_zero _)
  have em : 1 + (e : Int) ∈ endsL d cs who (d + 1) := (ends_mem f).mpr ⟨e, e2, e3, rfl⟩
  rw [last_max ends_sorted fun z => by rw [z] at em; cases em]
  constructor
  · rintro ⟨x, hx, h⟩
    obtain ⟨e, he, rfl⟩ := (ends_left hd ho f hw).mp hx
    exact ⟨e, he, h⟩
  · rintro ⟨e, he, h⟩
    exact ⟨_, (ends_left hd ho f hw).mpr ⟨e, he, rfl⟩, h⟩
/-- two seeds may meet exactly if each may come so far -/
theorem meet_left {d : Nat} {cs : List Clm} {a b : Int} (hd : 1 ≤ d ∧ d ≤ 3) (ho : ∀ c ∈ cs, ClmOk (d : Int) c) (f : Fit (d : Int) [] cs) (ha : 1 ≤ a ∧ a ≤ p2 (d : Int)) (hb : 1 ≤ b ∧ b ≤ p2 (d : Int)) (ne : a ≠ b) :
    (decide (mt d a b ≤ lastE d cs a) && decide (mt d a b ≤ lastE d cs b)) = decide (∃ e ∈ leftF d cs, mt d a b ≤ endE e a ∧ mt d a b ≤ endE e b) := by
  rw [Bool.eq_iff_iff, Bool.and_eq_true, decide_eq_true_iff, decide_eq_true_iff, decide_eq_true_iff, last_left hd ho f ha, last_left hd ho f hb]
  have mr := mt_range (n := (d : Int)) (by omega) ha hb ne
  generalize hm : mt (d : Int) a b = m at mr
  constructor
  · rintro ⟨⟨e1, h1, l1⟩, e2, h2, l2⟩
    obtain ⟨h1, t1⟩ := left_mem.mp h1
    obtain ⟨h2, t2⟩ := left_mem.mp h2
    by_cases z : m = 1
    · refine ⟨e1, left_mem.mpr ⟨h1, t1⟩, l1, ?_⟩
      have := (end_range hd h1 hb).1
      omega
    have ek : ((m.toNat - 1 : Nat) : Int) = m - 1 := by omega
    have k1 : 1 ≤ m.toNat - 1 := by omega
    generalize m.toNat - 1 = k at ek k1
    have oA : ClmOk (d : Int) (("won", a, k) : Clm) := ⟨.inl rfl, ha, k1, by show (k : Int) ≤ d; omega⟩
    have oB : ClmOk (d : Int) (("won", b, k) : Clm) := ⟨.inl rfl, hb, k1, by show (k : Int) ≤ d; omega⟩
    have tA : truE e1 (("won", a, k) : Clm) = true := tru_won.mpr (by omega)
    have tB : truE e2 (("won", b, k) : Clm) = true := tru_won.mpr (by omega)
    have fA : ∀ c ∈ cs, difC (d : Int) (("won", a, k) : Clm) c = false := fun c hc => (two_true hd oA (ho c hc)).mp ⟨e1, h1, tA, t1 c hc⟩
    have fB : ∀ c ∈ cs, difC (d : Int) (("won", b, k) : Clm) c = false := fun c hc => (two_true hd oB (ho c hc)).mp ⟨e2, h2, tB, t2 c hc⟩
    have fAB : difC (d : Int) (("won", a, k) : Clm) (("won", b, k) : Clm) = false := by
      rw [dif_other (by omega) oA oB ne]
      unfold clashL winsC
      show (decide (mt (d : Int) a b ≤ _ ∧ _) || decide (_ ∧ _)) = false
      rw [hm, Bool.or_eq_false_iff, decide_eq_false_iff_not, decide_eq_false_iff_not]
      refine ⟨fun q => ?_, fun q => absurd (show ("won" : Str) = "out" from q.1) (by decide)⟩
      have := q.1
      rw [if_neg (fun z => absurd (show ("won" : Str) = "out" from z) (by decide))] at this
      have : m ≤ (k : Int) - 0 := this
      omega
    obtain ⟨e, he, ht⟩ := joint (cs := ("won", a, k) :: ("won", b, k) :: cs) hd (fun c hc => by
      rcases List.mem_cons.mp hc with rfl | hc
      · exact oA
      rcases List.mem_cons.mp hc with rfl | hc
      · exact oB
      · exact ho c hc) fun x hx y hy => by
        rcases List.mem_cons.mp hx with rfl | hx <;> rcases List.mem_cons.mp hy with rfl | hy
        · exact difC_self
        · rcases List.mem_cons.mp hy with rfl | hy
          · exact fAB
          · exact fA _ hy
        · rcases List.mem_cons.mp hx with rfl | hx
          · exact difC_sym fAB
          · exact difC_sym (fA _ hx)
        · rcases List.mem_cons.mp hx with rfl | hx <;> rcases List.mem_cons.mp hy with rfl | hy
          · exact difC_self
          · exact fB _ hy
          · exact difC_sym (fB _ hx)
          · exact f.2 _ hx _ hy
    refine ⟨e, left_mem.mpr ⟨he, fun c hc => ht c (by simp [hc])⟩, ?_, ?_⟩
    · have := tru_won.mp (ht _ (List.mem_cons_self ..))
      omega
    · have := tru_won.mp (ht (("won", b, k) : Clm) (by simp))
      omega
  · rintro ⟨e, he, h1, h2⟩
    exact ⟨⟨e, he, h1⟩, e, he, h2⟩
/-! ### the ends, sorted -/
theorem sorted_ext : ∀ {xs ys : List Int}, xs.Pairwise (· < ·) → ys.Pairwise (· < ·) → (∀ x, x ∈ xs ↔ x ∈ ys) → xs = ys
  | [], [], _, _, _ => rfl
  | [], y :: ys, _, _, h => absurd ((h y).mpr (List.mem_cons_self ..)) List.not_mem_nil
  | x :: xs, [], _, _, h => absurd ((h x).mp (List.mem_cons_self ..)) List.not_mem_nil
  | x :: xs, y :: ys, h1, h2, h => by
    obtain ⟨a1, b1⟩ := List.pairwise_cons.mp h1
    obtain ⟨a2, b2⟩ := List.pairwise_cons.mp h2
    have e : x = y := by
      rcases List.mem_cons.mp ((h x).mp (List.mem_cons_self ..)) with q | q
      · exact q
      rcases List.mem_cons.mp ((h y).mpr (List.mem_cons_self ..)) with q' | q'
      · exact q'.symm
      have := a1 _ q'
      have := a2 _ q
      omega
    subst e
    refine congrArg _ (sorted_ext b1 b2 fun z => ⟨fun hz => ?_, fun hz => ?_⟩)
    · rcases List.mem_cons.mp ((h z).mp (List.mem_cons_of_mem _ hz)) with q | q
      · subst q; have := a1 _ hz; omega
      · exact q
    · rcases List.mem_cons.mp ((h z).mpr (List.mem_cons_of_mem _ hz)) with q | q
      · subst q; have := a2 _ hz; omega
      · exact q
/-- sorted without repeats, the ends of the results left are the possible ends -/
theorem ends_sort {d : Nat} {cs : List Clm} {who : Int} {ys : List Int} (hd : 1 ≤ d ∧ d ≤ 3) (ho : ∀ c ∈ cs, ClmOk (d : Int) c) (f : Fit (d : Int) [] cs) (hw : 1 ≤ who ∧ who ≤ p2 (d : Int)) (so : ys.Pairwise (· < ·)) (h : ∀ x, x ∈ ys ↔ x ∈ (leftF d cs).map fun e => endE e who) : ys = endsL d cs who (d + 1) :=
  sorted_ext so ends_sorted fun x => by
    rw [h, ends_left hd ho f hw, List.mem_map]
end SC

set_option Elab.async false
set_option linter.all false
set_option maxRecDepth 100000
set_option maxHeartbeats 6400000
/-! sorted(set(xs)), xs a list of ints with few values. -/
namespace SC
open PySem PySem.Spec PyProof.Rows L2 StX
section
variable {P : Program} {w : World} {A : Around} {E : Value → Shared → Prop} {s : Shared}
/-- an empty set, just made -/
abbrev emptyS (w : World) : Obj := { cls := .type "set", dict := none, data := .set #[] 0 (.fresh 0 0 (!w.params.followText "set-order")) }
/-- set.__init__ of an empty set with a list of ints -/
theorem init_list {S l : Addr} {items : Array Value} {ns : List Int} (hh : A.handled = none) (hS : s.heap.get? S = some (emptyS w)) (hl : s.heap.IsList l items) (hi : IntsAre items.toList ns) (hb : ns.length + 1 < scanBound) :
    codeAny (model P w) A (.call (.builtin "set.__init__") ⟨[.ref S, .ref l], []⟩) (wants (fun r s2 => r = .none ∧ ∃ h' tk c, s2 = { s with heap := h', toks := tk } ∧ SetR w h' S (fun j => decide (j ∈ ns)) c ∧ (∀ b o, b ≠ S → s.heap.get? b = some o → h'.get? b = some o)) E) s := by
  have hT : s.TypeIs (.ref S) "set" := ⟨_, hS, rfl⟩
  refine codeAny_call_builtin F.called_set.init.plain F.entry_set_init (check_set_init_1 hT ?_)
  have sz : items.size = ns.length := by
    have q := IntsAre.length hi
    rwa [Array.length_toList] at q
  have lS : S < s.heap.objs.size := Heap.lt_size hS
  have lL : l < s.heap.objs.size := by
    obtain ⟨_, h, _⟩ := hl
    exact Heap.lt_size h
  have ne : S ≠ l := fun z => by
    subst z
    obtain ⟨o, h, hc, _⟩ := hl
    rw [hS] at h
    rw [← Option.some.inj h] at hc
    exact absurd (show Value.type "set" = Value.type "list" from hc) (by decide)
  have at2 : ∀ (i : Nat) (v : Value), items[i]? = some v → ∃ k t, ns[i]? = some k ∧ v = Value.int k t := fun i v hv => by
    have hlt : i < ns.length := by rw [← sz]; exact (Array.getElem?_eq_some_iff.mp hv).1
    obtain ⟨t, e⟩ := IntsAre.int_at hi i v (by rw [Array.getElem?_toList]; exact hv)
    exact ⟨ns[i], t, List.getElem?_eq_getElem hlt, by rw [e, List.getD_eq_getElem?_getD, List.getElem?_eq_getElem hlt]; rfl⟩
  have hl0 := hl
  obtain ⟨⟨oc, od, oa, os⟩, ho, hc, nl, hd⟩ := hl
  simp only at hc hd
  subst hc hd
  have s1 := F.sub_list_set
  have s2 := F.sub_list_frozenset
  have s3 : (Value.type "list" == Value.type "dict") = false := by decide
  unfold Builtin.«set.__init__» noKeywords Builtin.Frozenset.updateFrom
  generalize hPI : pyIter = PI
  wp_walk
  subst hPI
  refine wpAny_pyIter_list hl0 (wpAny_bind (wpAny_runValue ?_))
  have h3 : A.in1.in1.handled = none := by simp [hh]
  refine set_update_ints ((Walks.list h3 _ l (Nat.ne_of_lt lL) items).toS) S (by simp [ne, Nat.ne_of_lt lS]) ns sz hb at2 (items.size - 0) 0 _ (by omega) (Nat.zero_le _) ?_ ?_ ?_
  · exact ⟨⟨_, Heap.get?_push_size _ rfl, rfl, rfl⟩, hl0.push _⟩
  · exact ⟨0, Nat.le_refl 0, setR_new_at (w := w) (Heap.get?_push_of_some _ hS)⟩
  rintro ⟨h', g', d', tk', os'⟩ c hm hc hR
  have e1 : g' = s.gens := hm.gens
  have e2 : d' = s.drawn := hm.drawn
  have e3 : os' = s.os := hm.os
  subst e1 e2 e3
  refine wpAny_pure ?_
  show wpAny _ _ (ret Value.none) _ _ _
  refine wpAny_pure ⟨rfl, h', tk', c, rfl, hR, fun b o hb e => hm.heap b o ?_ (Heap.get?_push_of_some _ e)⟩
  have := Heap.lt_size e
  simp [hb, Nat.ne_of_lt this]
/-- set(xs), xs a list of ints -/
theorem set_list {l : Addr} {items : Array Value} {ns : List Int} {Q : Value → Shared → Prop} (hh : A.handled = none) (hl : s.heap.IsList l items) (hi : IntsAre items.toList ns) (hb : ns.length + 1 < scanBound)
    (h : ∀ (h' : Heap) (tk c : Nat), SetR w h' s.heap.objs.size (fun j => decide (j ∈ ns)) c → (∀ b o, s.heap.get? b = some o → h'.get? b = some o) → Q (.ref s.heap.objs.size) { s with heap := h', toks := tk }) :
    wpAny (model P w) A (call (.type "set") [.ref l]) Q E s := by
  have m1 := F.called_set.mro
  obtain ⟨c0, t0, hm⟩ := m1
  have m2 := F.called_set.made
  have m3 := F.called_set.sub
  have m4 := F.called_set.notType
  have m5 := F.called_set.canCreate
  have m6 := F.typeCall_set_1 (.ref l)
  refine wpAny_call (codeAny_of_tree ?_)
  show wpAny _ _ (callAny (.type "set") _) _ _ _
  refine wpAny_pure ⟨Code.quiet_builtin _ (by decide +kernel), codeAny_builtin F.entry_type_call ?_⟩
  rw [Around.under_plain (weight_type_call_type "set" [.ref l] []) rfl]
  repeat (any_goals (first | assumption | wp_step))
  refine codeAny_mono (code_set_led1 (.ref l) (E := E) (Q₁ := fun obj s1 => obj = .ref s.heap.objs.size ∧ s1 = { s with heap := s.heap.push (emptyS w) }) ⟨rfl, rfl⟩) fun r s1 hr => ?_
  match r, hr with
  | .error e, hr => exact hr
  | .ok (.ret obj), hr =>
    obtain ⟨rfl, rfl⟩ := hr
    have hS : (s.heap.push (emptyS w)).get? s.heap.objs.size = some (emptyS w) := Heap.get?_push_size _ rfl
    have hT : Shared.TypeIs { s with heap := s.heap.push (emptyS w) } (.ref s.heap.objs.size) "set" := ⟨_, hS, rfl⟩
    have m7 := F.called_set.init.lookup
    have m8 := F.called_set.init.bind (.ref s.heap.objs.size)
    repeat (any_goals (first | assumption | wp_step))
    refine codeAny_mono (init_list (E := E) (s := { s with heap := s.heap.push (emptyS w) }) (ns := ns) ?_ hS (hl.push _) hi hb) fun r2 s2 hr2 => ?_
    · simp [hh]
    match r2, hr2 with
    | .error e, hr2 => exact hr2
    | .ok (.ret v), hr2 =>
      obtain ⟨rfl, h', tk, c, rfl, hR, hk⟩ := hr2
      repeat (any_goals (first | assumption | wp_step))
      exact h _ _ _ hR fun b o e => hk b o (Nat.ne_of_lt (Heap.lt_size e)) (Heap.get?_push_of_some _ e)
end
/-! ### as rules -/
theorem nd_len : ∀ {xs ys : List Int}, xs.Nodup → (∀ x ∈ xs, x ∈ ys) → xs.length ≤ ys.length
  | [], _, _, _ => Nat.zero_le _
  | x :: xs, ys, nd, h => by
    obtain ⟨n1, n2⟩ := List.nodup_cons.mp nd
    have hx := h x (List.mem_cons_self ..)
    have ih := nd_len (ys := ys.erase x) n2 fun z hz => (List.mem_erase_of_ne (fun (q : z = x) => n1 (q ▸ hz))).mpr (h z (List.mem_cons_of_mem _ hz))
    rw [List.length_erase_of_mem hx] at ih
    have : 0 < ys.length := List.length_pos_of_mem hx
    rw [List.length_cons]
    omega
def rSetLI (K : PySem.W.Frag) (w : World) : List V → Hp → VK → Prop := fun vs H Q => ∃ (a : Addr) (ns bs : List Int), vs = [V.ref a] ∧ SqL K H a (ns.map V.int) ∧ ns.length ≤ 1000 ∧ bs.length < 64 ∧ (∀ k ∈ ns, k ∈ bs) ∧
  ∀ (p : Addr) (c : Nat), H p = none → c < 64 → Q (.ref p) (L2.upd H p (SetO w p (fun j => decide (j ∈ ns)) c))
theorem cr_setLI {X : Cx} (hc : X.calm = true) : CallR X (.type "set") (rSetLI X.K X.w) := by
  intro pins s σ H xs us Q I r h
  obtain ⟨l, ns, bs, rfl, hl, hz, hb, hm, q⟩ := h
  rw [Vals.ref1 r]
  obtain ⟨its, rv, pl, _⟩ := I.list hl
  have hi := rv.ints
  refine set_list (P := X.prog) (w := X.w) (ns := ns) (I.ok.hd hc) pl.isList (by simpa using hi) (by unfold scanBound; omega) fun h' tk c R k => ?_
  have hc : c < 64 := by
    obtain ⟨o, es, ep, t, _, _, _, g, nd, mm, _, _, hn, _⟩ := R
    have := nd_len nd fun x hx => hm x (of_decide_eq_true ((mm x).mpr hx))
    rw [List.length_map, Array.length_toList, hn] at this
    omega
  exact ⟨.ref s.heap.objs.size, L2.upd H s.heap.objs.size (SetO X.w s.heap.objs.size (fun j => decide (j ∈ ns)) c), I.laid (t' := tk) k (Nat.le_refl _) (setO_new R), rfl, q _ c (I.hok.fresh (Nat.le_refl _)) hc⟩
section
variable {K : PySem.W.Frag} {w : World} {H : Hp} {Q : VK} {a : Addr}
theorem w_setLI {ns : List Int} (bs : List Int) (h : SqL K H a (ns.map V.int)) (hz : ns.length ≤ 1000) (hb : bs.length < 64) (hm : ∀ k ∈ ns, k ∈ bs) (k : ∀ p c H', H p = none → Sm H H' → H' p = some (SetO w p (fun j => decide (j ∈ ns)) c) → c < 64 → Q (.ref p) H') : rSetLI K w [.ref a] H Q :=
  ⟨a, ns, bs, rfl, h, hz, hb, hm, fun p c hp hc => k p c _ hp (sm_upd (.refl _) hp) upd_same hc⟩
theorem w_sortedSet {S : Int → Bool} {n : Nat} (h : H a = some (SetO w a S n)) (hn : n < 64) (k : ∀ (ns : List Int) p H', ns.Pairwise (· < ·) → (∀ k : Int, k ∈ ns ↔ S k = true) → H p = none → Sm H H' → H' p = some (.lst (ns.map V.int)) → Q (.ref p) H') : rSortedSet w [.ref a] H Q :=
  ⟨a, S, n, rfl, h, hn, fun ns p h1 h2 _ hp => k ns p _ h1 h2 hp (sm_upd (.refl _) hp) upd_same⟩
end
end SC

set_option Elab.async false
set_option linter.all false
set_option maxRecDepth 100000
set_option maxHeartbeats 4000000
/-! Spans as data. -/
namespace SC
open PySem PySem.Spec PyProof.Rows L2 StX
def spD (p : Int × Int) : PyData := .tuple [.int p.1, .int p.2]
theorem dp_spans {K : PySem.W.Frag} {H : Hp} : ∀ {ads : List Addr} {ss : List (Int × Int)}, RefsTo H ads (ss.map spV) → DpAll K H (ads.map V.ref) (ss.map spD)
  | [], [], _ => .nil
  | a :: ads, s :: ss, r => .cons (.tup (.inl (.inl (r.2 0 a (spV s) rfl rfl))) (.cons (.int _) (.cons (.int _) .nil))) (dp_spans ⟨by have := r.1; simpa using this, fun j b u h1 h2 => r.2 (j + 1) b u h1 h2⟩)
  | [], _ :: _, r => by have := r.1; simp at this
  | _ :: _, [], r => by have := r.1; simp at this
theorem lay_spans : ∀ ss : List (Int × Int), PyData.canLayAll0 (ss.map spD) = true
  | [] => rfl
  | s :: ss => by
    have := lay_spans ss
    simp only [List.map_cons, PyData.canLayAll0, PyData.canLay0, spD, this, Bool.and_self, List.map_nil]
theorem dep_spans : ∀ ss : List (Int × Int), PyData.depthAll (ss.map spD) ≤ 1
  | [] => by simp [PyData.depthAll]
  | s :: ss => by
    have := dep_spans ss
    simp only [List.map_cons, PyData.depthAll, PyData.depth, spD]
    omega
theorem shaped_spans (ss : List (Int × Int)) : SeqAt.shaped (.list (ss.map spD)) = true := by
  unfold SeqAt.shaped
  have h1 := lay_spans ss
  have h2 := dep_spans ss
  rw [Bool.and_eq_true]
  refine ⟨by simpa only [PyData.canLay0] using h1, decide_eq_true ?_⟩
  simp only [PyData.depth]
  omega
theorem w_ne0P {K : PySem.W.Frag} {H : Hp} {Q : VK} {p q : Addr} {ads : List Addr} {ss : List (Int × Int)} (hp : H p = some (.lst (ads.map V.ref))) (r : RefsTo H ads (ss.map spV)) (hq : H q = some (.lst [])) (k : Q (.bl (decide (ss ≠ []))) H) : rNeD K (.ref p) (.ref q) H Q := by
  refine w_ne0D (ss.map spD) (.lst (.inl (.inl hp)) (dp_spans r)) hq (shaped_spans ss) ?_
  rw [show decide (ss.map spD ≠ []) = decide (ss ≠ []) by cases ss <;> simp]
  exact k
/-! ### the two brackets -/
theorem brF_brk : ∀ d : Nat, brF d = brk d
  | 0 => rfl
  | d + 1 => by
    show ((brF d).flatMap fun w => [w, 2 * ((brF d).length : Int) + 1 - w]) = (brk d).flatMap fun x => [x, 2 * p2 (0 + (d : Int)) + 1 - x]
    rw [brF_len, brF_brk d, Int.zero_add, p2_nat]
/-! ### the rows of ends -/
theorem end_at {d : Nat} {e : List Int} {who : Int} (hl : e.length = 2 ^ d) (hw : 1 ≤ who ∧ who ≤ p2 (d : Int)) : atI (e.map V.int) (who - 1) = some (.int (endE e who)) := by
  have h2 := hw.2
  rw [p2_nat] at h2
  unfold atI ixN
  rw [if_pos (by omega), List.length_map, hl, if_pos (by omega)]
  show (e.map V.int)[(who - 1).toNat]? = _
  unfold endE
  rw [List.getElem?_map, List.getD_eq_getElem?_getD, List.getElem?_eq_getElem (show (who - 1).toNat < e.length by omega)]
  rfl
theorem left_in {d : Nat} {cs : List Clm} {k who : Int} (hd : 1 ≤ d ∧ d ≤ 3) (hw : 1 ≤ who ∧ who ≤ p2 (d : Int)) (h : k ∈ (leftF d cs).map fun e => endE e who) : k ∈ [1, 2, 3, (4 : Int)] := by
  obtain ⟨e, he, rfl⟩ := List.mem_map.mp h
  have := end_range hd (left_mem.mp he).1 hw
  have : endE e who = 1 ∨ endE e who = 2 ∨ endE e who = 3 ∨ endE e who = 4 := by omega
  rcases this with z | z | z | z <;> rw [z] <;> simp
theorem same_spans {H : Hp} {as bs : List Addr} {ss : List (Int × Int)} (r1 : RefsTo H as (ss.map spV)) (r2 : RefsTo H bs (ss.map spV)) : (as.map V.ref).length = (bs.map V.ref).length ∧ ∀ (i : Nat) (u v : V), (as.map V.ref)[i]? = some u → (bs.map V.ref)[i]? = some v → SmV H u v := by
  refine ⟨by rw [List.length_map, List.length_map, r1.1, r2.1], fun i u v h1 h2 => ?_⟩
  rw [List.getElem?_map] at h1 h2
  obtain ⟨a, ha, rfl⟩ := Option.map_eq_some_iff.mp h1
  obtain ⟨b, hb, rfl⟩ := Option.map_eq_some_iff.mp h2
  have hi : i < ss.length := by
    have := r1.1
    rw [List.length_map] at this
    rw [← this]
    exact (List.getElem?_eq_some_iff.mp ha).1
  have hs : (ss.map spV)[i]? = some (spV ss[i]) := by rw [List.getElem?_map, List.getElem?_eq_getElem hi]; rfl
  exact .inr (.inr ⟨a, b, ss[i].1, ss[i].2, rfl, rfl, r1.2 i a _ ha hs, r2.2 i b _ hb hs⟩)
theorem spans_le {d : Nat} {cs : List Clm} {who : Int} : (spans (endsL d cs who (d + 1))).length ≤ d + 1 := by
  have := spans_len (endsL d cs who (d + 1)) []
  have l := ends_len (d := d) (cs := cs) (who := who) (m := d + 1)
  unfold spans
  rw [List.length_nil] at this
  omega
theorem some_left {fs : List (List Int)} {a b m : Int} : decide (((((List.range fs.length).filter fun k => decide (m ≤ min (endE (fs.getD k []) a) (endE (fs.getD k []) b))).map fun _ => (1 : Int)).map PyData.int) ≠ []) = decide (∃ e ∈ fs, m ≤ endE e a ∧ m ≤ endE e b) := by
  rw [Bool.eq_iff_iff, decide_eq_true_iff, decide_eq_true_iff, List.map_map, ne_eq, List.map_eq_nil_iff, List.filter_eq_nil_iff]
  constructor
  · intro h
    refine Classical.byContradiction fun q => h fun k hk => ?_
    intro z
    have z := of_decide_eq_true z
    have hk := List.mem_range.mp hk
    refine q ⟨fs[k], List.getElem_mem hk, ?_⟩
    rw [show fs.getD k [] = fs[k] by rw [List.getD_eq_getElem?_getD, List.getElem?_eq_getElem hk]; rfl] at z
    omega
  · rintro ⟨e, he, h1, h2⟩ h
    obtain ⟨k, hk, rfl⟩ := List.getElem_of_mem he
    refine h k (List.mem_range.mpr hk) (decide_eq_true ?_)
    rw [show fs.getD k [] = fs[k] by rw [List.getD_eq_getElem?_getD, List.getElem?_eq_getElem hk]; rfl]
    omega
end SC

set_option Elab.async false
set_option linter.all false
set_option maxRecDepth 100000
set_option maxHeartbeats 4000000
/-! Draws: the level of two places, and which draws are standard. -/
namespace SC
open PySem PySem.Spec PyProof.Rows L2
/-- the least level of a block with both places -/
def lvN (a b : Nat) : Nat := PySem.Builtin.Int.intBits ((a ^^^ b : Nat) : Int)
theorem xor_zero {a b : Nat} : a ^^^ b = 0 ↔ a = b := by
  constructor
  · intro h
    apply Nat.eq_of_testBit_eq
    intro i
    have := congrArg (fun x => Nat.testBit x i) h
    simp only [Nat.testBit_xor, Nat.zero_testBit] at this
    cases ha : a.testBit i <;> cases hb : b.testBit i <;> simp_all
  · intro h; subst h; exact Nat.xor_self _
theorem lvN_le {a b t : Nat} : lvN a b ≤ t ↔ a / 2 ^ t = b / 2 ^ t := by
  rw [← xor_zero, ← Nat.xor_div_two_pow]
  unfold lvN PySem.Builtin.Int.intBits
  generalize a ^^^ b = x
  rw [Nat.div_eq_zero_iff]
  have : 0 < 2 ^ t := Nat.two_pow_pos t
  by_cases h : x = 0
  · subst h; simp [this]
  · rw [if_neg (by simpa using h), Int.natAbs_natCast]
    have := Nat.log2_lt (n := x) (k := t) h
    omega
theorem lvN_comm {a b : Nat} : lvN a b = lvN b a := by unfold lvN; rw [Nat.xor_comm]
theorem lvN_congr {a b c d : Nat} (h : ∀ t, a / 2 ^ t = b / 2 ^ t ↔ c / 2 ^ t = d / 2 ^ t) : lvN a b = lvN c d := by
  apply Nat.le_antisymm
  · exact lvN_le.mpr ((h _).mpr (lvN_le.mp (Nat.le_refl _)))
  · exact lvN_le.mpr ((h _).mp (lvN_le.mp (Nat.le_refl _)))
theorem lvN_zero {a b : Nat} : lvN a b = 0 ↔ a = b := by
  have := lvN_le (a := a) (b := b) (t := 0)
  rw [Nat.pow_zero, Nat.div_one, Nat.div_one] at this
  omega
theorem lvN_half {a b : Nat} (h : a ≠ b) : lvN a b = lvN (a / 2) (b / 2) + 1 := by
  have h0 : lvN a b ≠ 0 := fun z => h (lvN_zero.mp z)
  have k : ∀ t, lvN a b ≤ t + 1 ↔ lvN (a / 2) (b / 2) ≤ t := fun t => by
    rw [lvN_le, lvN_le, Nat.div_div_eq_div_mul, Nat.div_div_eq_div_mul, Nat.pow_succ, Nat.mul_comm]
  have k1 := k (lvN (a / 2) (b / 2))
  have k2 := k (lvN a b - 1)
  rw [show lvN a b - 1 + 1 = lvN a b by omega] at k2
  omega
/-- mirrored places meet alike -/
theorem lvN_mirror {k a b : Nat} (ha : a < 2 ^ k) (hb : b < 2 ^ k) : lvN (2 ^ k - 1 - a) (2 ^ k - 1 - b) = lvN a b := by
  unfold lvN
  congr 2
  apply Nat.eq_of_testBit_eq
  intro i
  rw [show 2 ^ k - 1 - a = 2 ^ k - (a + 1) by omega, show 2 ^ k - 1 - b = 2 ^ k - (b + 1) by omega, Nat.testBit_xor, Nat.testBit_xor, Nat.testBit_two_pow_sub_succ ha, Nat.testBit_two_pow_sub_succ hb]
  by_cases hi : i < k
  · simp [hi]
  · have lt : ∀ x, x < 2 ^ k → x.testBit i = false := fun x hx => Nat.testBit_lt_two_pow (Nat.lt_of_lt_of_le hx (Nat.pow_le_pow_right (by decide) (by omega)))
    simp [hi, lt a ha, lt b hb]
/-- and so do places of exchanged halves -/
def swp (h i : Nat) : Nat := if i < h then i + h else i - h
theorem swp_lt {k i : Nat} (hi : i < 2 ^ (k + 1)) : swp (2 ^ k) i < 2 ^ (k + 1) := by
  unfold swp
  rw [Nat.pow_succ] at hi ⊢
  split <;> omega
theorem swp_div {k t i : Nat} (ht : t ≤ k) : swp (2 ^ k) i / 2 ^ t = swp (2 ^ (k - t)) (i / 2 ^ t) := by
  have p : 0 < 2 ^ t := Nat.two_pow_pos t
  have e : 2 ^ k = 2 ^ (k - t) * 2 ^ t := by rw [← Nat.pow_add]; congr 1; omega
  unfold swp
  rw [e]
  have c : i < 2 ^ (k - t) * 2 ^ t ↔ i / 2 ^ t < 2 ^ (k - t) := (Nat.div_lt_iff_lt_mul p).symm
  by_cases h : i / 2 ^ t < 2 ^ (k - t)
  · rw [if_pos h, if_pos (c.mpr h), Nat.add_mul_div_right _ _ p]
  · rw [if_neg h, if_neg fun z => h (c.mp z)]
    obtain ⟨r, hr⟩ : ∃ r, i = r + 2 ^ (k - t) * 2 ^ t := ⟨i - 2 ^ (k - t) * 2 ^ t, by have := fun z => h (c.mp z); omega⟩
    rw [hr, Nat.add_sub_cancel, Nat.add_mul_div_right _ _ p, Nat.add_sub_cancel]
theorem swp_inj {h x y : Nat} (hx : x < 2 * h) (hy : y < 2 * h) : swp h x = swp h y ↔ x = y := by
  unfold swp
  split <;> split <;> omega
theorem lvN_swp {k a b : Nat} (ha : a < 2 ^ (k + 1)) (hb : b < 2 ^ (k + 1)) : lvN (swp (2 ^ k) a) (swp (2 ^ k) b) = lvN a b := by
  refine lvN_congr fun t => ?_
  by_cases h : t ≤ k
  · rw [swp_div h, swp_div h]
    have lt : ∀ i, i < 2 ^ (k + 1) → i / 2 ^ t < 2 * 2 ^ (k - t) := fun i hi => by
      rw [Nat.div_lt_iff_lt_mul (Nat.two_pow_pos t), Nat.mul_assoc, ← Nat.pow_add, show k - t + t = k by omega]
      rw [Nat.pow_succ] at hi
      omega
    exact swp_inj (lt a ha) (lt b hb)
  · have le : 2 ^ (k + 1) ≤ 2 ^ t := Nat.pow_le_pow_right (by decide) (by omega)
    rw [Nat.div_eq_of_lt (Nat.lt_of_lt_of_le (swp_lt ha) le), Nat.div_eq_of_lt (Nat.lt_of_lt_of_le (swp_lt hb) le), Nat.div_eq_of_lt (Nat.lt_of_lt_of_le ha le), Nat.div_eq_of_lt (Nat.lt_of_lt_of_le hb le)]
/-! ### draws -/
/-- the place of a seed in the bracket -/
def plN (d : Nat) (s : Int) : Nat := (placeOf d s).toNat
/-- whether two places of a draw hold seeds that meet elsewhere in the bracket -/
def badP (d : Nat) (r : List Int) (i j : Nat) : Bool := decide (lvN i j ≠ lvN (plN d (r.getD i 0)) (plN d (r.getD j 0)))
theorem badP_comm {d : Nat} {r : List Int} {i j : Nat} : badP d r i j = badP d r j i := by
  unfold badP; rw [lvN_comm, lvN_comm (a := plN d (r.getD i 0))]
theorem badP_self {d : Nat} {r : List Int} {i : Nat} : badP d r i i = false := by
  unfold badP
  rw [lvN_zero.mpr rfl, lvN_zero.mpr rfl]
  rfl
/-- standard: no two places are bad -/
def StdD (d : Nat) (r : List Int) : Prop := ∀ i j, i < 2 ^ d → j < 2 ^ d → badP d r i j = false
theorem std_map {d : Nat} {r s : List Int} (f : Nat → Nat) (hf : ∀ i, i < 2 ^ d → f i < 2 ^ d) (h2 : ∀ i, i < 2 ^ d → f (f i) = i) (he : ∀ i, i < 2 ^ d → s.getD i 0 = r.getD (f i) 0) (hl : ∀ i j, i < 2 ^ d → j < 2 ^ d → lvN (f i) (f j) = lvN i j) : StdD d s ↔ StdD d r := by
  have e : ∀ i j, i < 2 ^ d → j < 2 ^ d → badP d s i j = badP d r (f i) (f j) := fun i j hi hj => by
    unfold badP
    rw [he i hi, he j hj, hl i j hi hj]
  constructor
  · intro h i j hi hj
    have := h (f i) (f j) (hf i hi) (hf j hj)
    rw [e _ _ (hf i hi) (hf j hj), h2 i hi, h2 j hj] at this
    exact this
  · intro h i j hi hj
    rw [e i j hi hj]
    exact h _ _ (hf i hi) (hf j hj)
theorem std_rev {d : Nat} {r : List Int} (hr : r.length = 2 ^ d) : StdD d r.reverse ↔ StdD d r :=
  std_map (fun i => 2 ^ d - 1 - i) (fun i hi => by omega) (fun i hi => by omega) (fun i hi => by
    rw [List.getD_eq_getElem?_getD, List.getD_eq_getElem?_getD, List.getElem?_reverse (by omega), hr]) fun i j hi hj => lvN_mirror hi hj
theorem std_halves {k : Nat} {r : List Int} (hr : r.length = 2 ^ (k + 1)) : StdD (k + 1) (r.drop (2 ^ k) ++ r.take (2 ^ k)) ↔ StdD (k + 1) r := by
  have e : 2 ^ (k + 1) = 2 ^ k + 2 ^ k := by rw [Nat.pow_succ]; omega
  refine std_map (swp (2 ^ k)) (fun i hi => swp_lt hi) (fun i hi => ?_) (fun i hi => ?_) fun i j hi hj => lvN_swp hi hj
  · unfold swp
    split <;> split <;> omega
  · have ld : (r.drop (2 ^ k)).length = 2 ^ k := by rw [List.length_drop]; omega
    unfold swp
    split
    · rename_i h
      rw [List.getD_eq_getElem?_getD, List.getElem?_append_left (by omega), List.getElem?_drop, Nat.add_comm]
      rfl
    · rename_i h
      rw [List.getD_eq_getElem?_getD, List.getElem?_append_right (by omega), ld, List.getElem?_take, if_pos (by omega)]
      rfl
theorem first_std {d : Nat} {r : List Int} {x : Option (Nat × Nat)} (h : FirstC (badP d r) (2 ^ d) x) : x = none ↔ StdD d r := by
  match x, h with
  | none, h =>
    refine ⟨fun _ i j hi hj => ?_, fun _ => rfl⟩
    rcases Nat.lt_trichotomy i j with l | l | l
    · exact h j hj i l
    · subst l; exact badP_self
    · rw [badP_comm]; exact h i hi j l
  | some (i, j), ⟨h1, h2, _, _⟩ =>
    refine ⟨(fun z => nomatch z), fun s => ?_⟩
    rw [s i j (by omega) h1.2] at h2
    cases h2
/-! ### the bracket by places -/
theorem two_get {f g : Int → Int} : ∀ (l : List Int) (i : Nat), (l.flatMap fun x => [f x, g x])[i]? = (l[i / 2]?).map fun x => if i % 2 = 0 then f x else g x
  | [], i => by simp
  | a :: l, 0 => by simp
  | a :: l, 1 => by simp
  | a :: l, i + 2 => by
    rw [List.flatMap_cons, show [f a, g a] ++ l.flatMap (fun x => [f x, g x]) = f a :: g a :: l.flatMap (fun x => [f x, g x]) from rfl, List.getElem?_cons_succ, List.getElem?_cons_succ, two_get l i, show (i + 2) / 2 = i / 2 + 1 by omega, List.getElem?_cons_succ, show (i + 2) % 2 = i % 2 by omega]
theorem brk_place : ∀ {n i : Nat} {x : Int}, (brk n)[i]? = some x → placeOf n x = (i : Int)
  | 0, i, x, h => by
    have : i = 0 ∧ x = 1 := by
      match i, h with
      | 0, h => exact ⟨rfl, (Option.some.inj h).symm⟩
    obtain ⟨rfl, rfl⟩ := this
    rfl
  | n + 1, i, x, h => by
    have q : brk (n + 1) = (brk n).flatMap fun x => [x, 2 * p2 (0 + (n : Int)) + 1 - x] := rfl
    rw [q, two_get (f := fun x => x) (g := fun x => 2 * p2 (0 + (n : Int)) + 1 - x)] at h
    obtain ⟨y, hy, e⟩ := Option.map_eq_some_iff.mp h
    have ih := brk_place hy
    obtain ⟨y1, y2⟩ := brk_in n y (List.mem_of_getElem? hy)
    rw [Int.zero_add] at e
    rw [Int.natCast_add]
    split at e
    · subst e
      show placeOf ((n : Int) + 1) y = _
      rw [place_low (by omega) y1 y2, ih]
      omega
    · subst e
      show placeOf ((n : Int) + 1) _ = _
      rw [place_mate (by omega) y1 y2, ih]
      omega
/-- a draw's seeds -/
structure IsDr (d : Nat) (r : List Int) : Prop where
  perm : r.Perm (brk d)
theorem IsDr.len {d : Nat} {r : List Int} (h : IsDr d r) : r.length = 2 ^ d := by rw [h.perm.length_eq, brk_len]
theorem IsDr.ok {d : Nat} {r : List Int} (h : IsDr d r) : ∀ x ∈ r, 1 ≤ x ∧ x ≤ p2 d := fun x hx => brk_in d x (h.perm.mem_iff.mp hx)
theorem brk_idr {d : Nat} : IsDr d (brk d) := ⟨.refl _⟩
theorem IsDr.rev {d : Nat} {r : List Int} (h : IsDr d r) : IsDr d r.reverse := ⟨(List.reverse_perm r).trans h.perm⟩
theorem IsDr.rot {d m : Nat} {r : List Int} (h : IsDr d r) : IsDr d (r.drop m ++ r.take m) := ⟨(List.perm_append_comm.trans (by rw [List.take_append_drop])).trans h.perm⟩
theorem brk_range {d : Nat} : (brk d).Perm ((List.range (2 ^ d)).map fun i : Nat => (1 : Int) + (i : Int)) := by
  refine (List.perm_ext_iff_of_nodup (brk_nd d) ?_).mpr fun x => ?_
  · refine List.Pairwise.map _ (fun a b h z => h (by omega)) (List.nodup_range (n := 2 ^ d))
  · rw [List.mem_map]
    have P2 := p2_nat d
    constructor
    · intro h
      obtain ⟨h1, h2⟩ := brk_in d x h
      exact ⟨(x - 1).toNat, List.mem_range.mpr (by omega), by omega⟩
    · rintro ⟨i, hi, rfl⟩
      have := List.mem_range.mp hi
      exact brk_all d _ (by omega) (by omega)
theorem rise_range {n : Nat} : ((List.range n).map fun i : Nat => (1 : Int) + (i : Int)).Pairwise (· ≤ ·) := by
  rw [List.pairwise_map]
  exact (List.pairwise_lt_range (n := n)).imp fun h => by omega
theorem IsDr.sort {d : Nat} {r s : List Int} (h : IsDr d r) (hp : s.Perm r) (hs : s.Pairwise (· ≤ ·)) : s = (List.range (2 ^ d)).map fun i : Nat => (1 : Int) + (i : Int) :=
  List.Perm.eq_of_pairwise (le := (· ≤ ·)) (fun a b _ _ h1 h2 => Int.le_antisymm h1 h2) hs rise_range ((hp.trans h.perm).trans brk_range)
theorem IsDr.set {d i j : Nat} {r : List Int} {x y : Int} (h : IsDr d r) (hi : r[i]? = some x) (hj : r[j]? = some y) : IsDr d ((r.set i y).set j x) := by
  refine ⟨List.Perm.trans ?_ h.perm⟩
  obtain ⟨hi', e1⟩ := List.getElem?_eq_some_iff.mp hi
  obtain ⟨hj', e2⟩ := List.getElem?_eq_some_iff.mp hj
  rw [← e1, ← e2]
  exact List.set_set_perm hi' hj'
theorem IsDr.join {a b : List Int} {d : Nat} {r : List Int} (h : IsDr d r) (ha : a.Perm (r.take (r.length / 2))) (hb : b.Perm (r.drop (r.length / 2))) : IsDr d (a ++ b) ∧ IsDr d (b ++ a) := by
  have e := ha.append hb
  rw [List.take_append_drop] at e
  exact ⟨⟨e.trans h.perm⟩, ⟨(List.perm_append_comm.trans e).trans h.perm⟩⟩
end SC

set_option Elab.async false
set_option linter.all false
set_option maxRecDepth 100000
set_option maxHeartbeats 4000000
/-! Steps: comprehensions over any walk, dict(pairs), pop(i), a list reversed, a list turned into another. -/
namespace SC
open PySem PySem.Spec PyProof.Rows L2 StX
section
variable {K : PySem.W.Frag} {σ : L2.St} {H : Hp} {Q : VK} {ta : TA} {te : TE} {g : TG} {a : Addr} {xs : List V} {vs : List Nat}
/-- a comprehension without a test over any walk, by an invariant -/
theorem w_lcW {J : It} {n : Nat} {G : Hp → Prop} {Y : Nat → Hp → V → Hp → Prop} (w : Walk J n G Y) (Jv : Nat → List V → Addr → Hp → Prop) (hz : n ≤ 1000000)
    (h0 : ∀ p H', Sm H H' → H p = none → H' p = some (.lst []) → Jv 0 [] p H')
    (hG : ∀ i ys p H', i ≤ n → Jv i ys p H' → H' p = some (.lst ys) → G H')
    (he : ∀ (i : Nat) x ys p H' H'', i < n → H p = none → ys.length = i → Jv i ys p H' → H' p = some (.lst ys) → Y i H' x H'' → ∀ R : VK, (∀ y H2, H2 p = some (.lst ys) → Jv (i + 1) (ys ++ [y]) p (L2.upd H2 p (.lst (ys ++ [y]))) → R y H2) → g x (wipe σ vs) H'' fun σ2 H2 => wipe σ2 vs = wipe σ vs ∧ te σ2 H2 R)
    (k : ∀ ys p H', H p = none → ys.length = n → Jv n ys p H' → H' p = some (.lst ys) → Q (.ref p) H') : LcB J g tYes te vs σ H Q := by
  intro D hD
  refine lc_it w (fun i H' => ∃ ys, Jv i ys D H' ∧ H' D = some (.lst ys) ∧ ys.length = i) ⟨[], h0 D _ (same_upd hD) hD upd_same, upd_same, rfl⟩ (fun i H' hi ⟨ys, p1, p2, _⟩ => hG i ys D H' hi p1 p2) (fun i x H' H'' hi p y => ?_) (fun H' p => ?_)
  · obtain ⟨ys, hJ, hx, hl⟩ := p
    refine he i x ys D H' H'' hi hD hl hJ hx y _ fun y H2 e2 j2 => ?_
    exact ⟨_, e2, Nat.lt_of_lt_of_le (show ys.length < 1000000 by omega) (by decide), _, j2, upd_same, by simp [hl]⟩
  · obtain ⟨ys, hJ, hx, hl⟩ := p
    exact k ys D H' hD hl hJ hx
theorem w_lcE {tt : TT} (k : ta σ H fun vs1 H1 => ∃ a xs, vs1 = [V.ref a] ∧ SqL K H1 a xs ∧ LcB (Ite K a) g tt te vs σ H1 Q) : tLc (iEnum K ta) g tt te vs σ H Q := k
theorem w_lcEb (hs : SqL K H a xs) (k : LcB (Ite K a) g tYes te vs σ H Q) : ∃ b ys, [V.ref a] = [V.ref b] ∧ SqL K H b ys ∧ LcB (Ite K b) g tYes te vs σ H Q := ⟨a, xs, rfl, hs, k⟩
end
def rDictP (K : PySem.W.Frag) : List V → Hp → VK → Prop := fun xs H Q => ∃ (a : Addr) (ps : List Addr) (kvs : List (Key × V)), xs = [.ref a] ∧ SqL K H a (ps.map V.ref) ∧ Paired (fun p kv => SqT K H p [kV kv.1, kv.2]) ps kvs ∧ ∀ p, H p = none → Q (.ref p) (upd H p (.dK (mergeK [] kvs)))
theorem c_dictP {X : Cx} (hc : X.calm = true) : CallR X (.type "dict") (rDictP X.K) := call_dictP hc
section
variable {K : PySem.W.Frag} {H : Hp} {Q : VK} {a p : Addr} {xs : List V}
theorem w_dictP {ps : List Addr} {kvs : List (Key × V)} (h : SqL K H a (ps.map V.ref)) (hp : Paired (fun p kv => SqT K H p [kV kv.1, kv.2]) ps kvs) (k : ∀ p H', Sm H H' → H p = none → H' p = some (.dK (mergeK [] kvs)) → Q (.ref p) H') : rDictP K [.ref a] H Q :=
  ⟨a, ps, kvs, rfl, h, hp, fun q hq => k q _ (same_upd hq) hq upd_same⟩
theorem w_popAt {i : Int} {j : Nat} {y : V} (h : H p = some (.lst xs)) (hi : i = (j : Int)) (hj : xs[j]? = some y) (hz : xs.length ≤ 1000000) (k : Q y (upd H p (.lst (xs.eraseIdx j)))) : rPopAt (.ref p) [.int i] H Q := by
  have hl := (List.getElem?_eq_some_iff.mp hj).1
  refine ⟨p, xs, i, j, y, rfl, rfl, h, by omega, by omega, ?_, hj, k⟩
  unfold PySem.seqIndex?
  subst hi
  simp only [show ¬ ((j : Int) < 0) by omega, if_false]
  rw [if_pos (by simp; omega)]
  simp
def RevB (K : PySem.W.Frag) (x : V) (H1 : Hp) (Q : VK) : Prop := ∃ a xs, x = .ref a ∧ SqL K H1 a xs ∧ ∀ p, H1 p = none → Q (.ref p) (upd H1 p (.lst xs.reverse))
theorem w_revL {te : TE} {σ : L2.St} (k : te σ H fun x H1 => RevB K x H1 Q) : tRevL K te σ H Q := k
theorem w_revB (h : SqL K H a xs) (k : ∀ p H', Sm H H' → H p = none → H' p = some (.lst xs.reverse) → Q (.ref p) H') : RevB K (.ref a) H Q :=
  ⟨a, xs, rfl, h, fun p hp => k p _ (same_upd hp) hp upd_same⟩
theorem w_lstOf (h : SqL K H a xs) (k : ∀ p H', Sm H H' → H p = none → H' p = some (.lst xs) → Q (.ref p) H') : ∃ p ys, [V.ref a] = [.ref p] ∧ (SqL K H p ys ∨ SqT K H p ys) ∧ ∀ l, H l = none → Q (.ref l) (upd H l (.lst ys)) :=
  ⟨a, xs, rfl, .inl h, fun l hl => k l _ (same_upd hl) hl upd_same⟩
end
/-- the places of the seeds, from pairs -/
theorem merge_places : ∀ (n d : Nat) (kvs : List (Key × V)), d + kvs.length = 2 ^ n → (∀ i kv, kvs[i]? = some kv → ∃ x, (brk n)[d + i]? = some x ∧ kv = (.inl x, .int ((d + i : Nat) : Int))) → ∀ acc, PDn n d acc → PDn n (2 ^ n) (mergeK acc kvs)
  | n, d, [], hl, hk, acc, h => by
    have : d = 2 ^ n := hl
    subst this
    exact h
  | n, d, kv :: r, hl, hk, acc, h => by
    obtain ⟨x, hx, rfl⟩ := hk 0 kv rfl
    show PDn n (2 ^ n) (mergeK (putK acc (.inl x) (.int ((d + 0 : Nat) : Int))) r)
    refine merge_places n (d + 1) r (by rw [List.length_cons] at hl; omega) (fun i kv' h' => ?_) _ (PDn.put h hx)
    obtain ⟨y, hy, e⟩ := hk (i + 1) kv' h'
    exact ⟨y, by rw [show d + 1 + i = d + (i + 1) by omega]; exact hy, by rw [e, show d + 1 + i = d + (i + 1) by omega]⟩
end SC
namespace SC
open PySem PySem.Spec PyProof.Rows L2 StX
section
variable {K : PySem.W.Frag} {H : Hp} {Q : VK} {p q : Addr}
theorem w_inIT (ns : List Int) {x : Int} (h : SqT K H p (ns.map V.int)) (k : Q (.bl (decide (x ∈ ns))) H) : rIn K false (.int x) (.ref p) H Q :=
  ⟨p, _, rfl, .inr h, rfl, flat_ints ns, by rw [inV_int]; exact k⟩
theorem w_ninIT (ns : List Int) {x : Int} (h : SqT K H p (ns.map V.int)) (k : Q (.bl (!decide (x ∈ ns))) H) : rIn K true (.int x) (.ref p) H Q :=
  ⟨p, _, rfl, .inr h, rfl, flat_ints ns, by rw [inV_int]; exact k⟩
end
theorem lvN_xor {i j : Int} (hi : 0 ≤ i) (hj : 0 ≤ j) : PySem.Builtin.Int.intBits (PySem.Builtin.bitXor i j) = lvN i.toNat j.toNat := by
  rw [Bits.bitXor_pp hi hj]
  rfl
theorem bits_pow {d : Nat} : (PySem.Builtin.Int.intBits ((2 ^ d : Nat) : Int) : Int) - 1 = (d : Int) := by
  unfold PySem.Builtin.Int.intBits
  have : 0 < 2 ^ d := Nat.two_pow_pos d
  rw [if_neg (by simp only [beq_iff_eq]; omega), Int.natAbs_natCast, Nat.log2_two_pow]
  omega
theorem plN_at {d i : Nat} {r : List Int} {x : Int} (hx : r[i]? = some x) : plN d (r.getD i 0) = (placeOf d x).toNat := by
  rw [List.getD_eq_getElem?_getD, hx]
  rfl
/-- the first of two nested loops' pairs, step by step -/
theorem FirstC.no_ {P : Nat → Nat → Bool} {n : Nat} (h : ∀ j, j < n → ∀ i, i < j → P i j = false) : FirstC P n none := h
end SC
namespace SC
open PySem PySem.Spec PyProof.Rows L2 StX
/-- a call of a list's word with arguments, K given by itself (where the block's scope hides it) -/
theorem pe_bmK {X : Cx} {K : PySem.W.Frag} {T id : String} {name : Str} {r : V → List V → Hp → VK → Prop} {o e : Expr} {es : List Expr} {to : TE} {t : TA} {apos cpos : Pos} (hK : X.K = K) (pa : PlainAttrs T) (slot : Slot T name id) (hty : typeOf (.builtin id) = pure (.type "method_descriptor")) (hm : MtR X id r) (ho : PE X o to) (ha : PA X (e :: es) t)
    (hbase : attributeBase o name X.env (eval o X.env) = eval o X.env := by rfl)
    (hfew : ((backTo cpos (starEach (e :: es) X.env)).all (fun x => !x.1) && (backToKw cpos (keywordEach [] X.env)).all (fun x => x.1.isSome)
      && decide ((e :: es).length + ([] : List Keyword).length + (if ([] : List Keyword).isEmpty then 0 else 1) < 30)) = true := by rfl)
    (hline : (apos.endLine == cpos.line) = true := by rfl) (hs : starEach (e :: es) X.env = (false, eval e X.env) :: starEach es X.env := by rfl) (hplain : (backTo cpos (starEach es X.env)).any (·.1) = false := by rfl) :
    PE X (.Call (.Attribute o name apos) (e :: es) [] cpos) (tBM K T r to t) := hK ▸ pe_bm pa slot hty hm ho ha hbase hfew hline hs hplain
end SC
namespace SC
open PySem PySem.Spec PyProof.Rows L2 StX
/-- promises of many kinds, each kept: one promise of any of them -/
theorem fnOk_ex {ι : Type} {P : Program} {w : World} {K : PySem.W.Frag} {mg : Str → Option Value} {base : Heap} {CX : CXT} {k : Nat} {f : Addr} {fd : FuncData} {ps : List Str} {sp : ι → Sp} (p : ι → Prop) (F : ∀ i, p i → FnOk P w K mg base CX k f fd ps (sp i)) :
    FnOk P w K mg base CX k f fd ps (fun vs H Q E => ∃ i, p i ∧ sp i vs H Q E) :=
  ⟨fun vs H Q E ⟨i, hi, h⟩ => (F i hi).len _ _ _ _ h, fun A outer s H args us vs Q E hr he hb hv ⟨i, hi, h⟩ => (F i hi).run A outer s H args us vs Q E hr he hb hv h⟩
end SC
namespace SC
open PySem PySem.Spec PyProof.Rows L2 StX
theorem ix_nat {n j : Nat} {i : Int} (e : i = (j : Int)) (h : j < n) : ixN n i = some j := by
  subst e
  unfold ixN
  rw [if_pos (by omega), if_pos (by omega), Int.toNat_natCast]
theorem map_erase {α β : Type} (f : α → β) (xs : List α) (j : Nat) : (xs.map f).eraseIdx j = (xs.eraseIdx j).map f := by
  simp [List.eraseIdx_eq_take_drop_succ, List.map_take, List.map_drop]
theorem erase_perm {α : Type} {xs : List α} {j : Nat} (h : j < xs.length) : (xs[j] :: xs.eraseIdx j).Perm xs := by
  rw [List.eraseIdx_eq_take_drop_succ]
  refine List.perm_middle.symm.trans ?_
  rw [List.getElem_cons_drop, List.take_append_drop]
theorem map_set {xs : List Int} {j : Nat} {x : Int} : (xs.map V.int).set j (.int x) = (xs.set j x).map V.int := by rw [List.map_set]
theorem lv_stop {a b c d t : Nat} (h1 : ∀ s, s < t → a / 2 ^ s ≠ b / 2 ^ s) (h2 : ∀ s, s < t → c / 2 ^ s ≠ d / 2 ^ s) (h : a / 2 ^ t = b / 2 ^ t ∨ c / 2 ^ t = d / 2 ^ t) : lvN a b ≠ lvN c d ↔ decide (a / 2 ^ t = b / 2 ^ t) ≠ decide (c / 2 ^ t = d / 2 ^ t) := by
  have k1 : t ≤ lvN a b := Nat.le_of_not_lt fun z => h1 _ z (lvN_le.mp (Nat.le_refl _))
  have k2 : t ≤ lvN c d := Nat.le_of_not_lt fun z => h2 _ z (lvN_le.mp (Nat.le_refl _))
  have i1 := lvN_le (a := a) (b := b) (t := t)
  have i2 := lvN_le (a := c) (b := d) (t := t)
  by_cases c1 : a / 2 ^ t = b / 2 ^ t <;> by_cases c2 : c / 2 ^ t = d / 2 ^ t <;> simp only [c1, c2, decide_true, decide_false, ne_eq, not_true_eq_false, iff_false, iff_true, not_false_eq_true, Bool.false_eq_true, Bool.true_eq_false, or_self, or_true, or_false, false_or, true_or] at i1 i2 h ⊢ <;> omega
theorem half_cast {i t : Nat} : ((i / 2 ^ t : Nat) : Int) / 2 = ((i / 2 ^ (t + 1) : Nat) : Int) := by
  rw [Nat.pow_succ, ← Nat.div_div_eq_div_mul]
  omega
end SC
namespace SC
theorem getN {xs : List Int} {k : Nat} (h : k < xs.length) : xs[k]? = some (xs.getD k 0) := by
  rw [List.getD_eq_getElem?_getD, List.getElem?_eq_getElem h]
  rfl
end SC
namespace SC
open PySem PySem.Spec PyProof.Rows L2 StX
theorem dg_at {H : Hp} {a : Addr} {kvs : List (Key × V)} {x : Int} {v : V} (e : H a = some (.dK kvs)) (hv : valV kvs (.inl x) = some v) : DGet H a (.int x) (some v) := by
  rw [← hv]
  exact DGet.k (k := .inl x) e
end SC

set_option Elab.async false
set_option linter.all false
set_option maxRecDepth 100000
set_option maxHeartbeats 4000000
/-! Standard draws and their indexes. -/
namespace SC
open PySem PySem.Spec PyProof.Rows L2
/-- the bits behind the first seed of a block -/
def bt : Nat → Nat
  | 0 => 0
  | L + 1 => bt L + (bt L + L)
theorem bt_eq : ∀ L, bt L + L + 1 = 2 ^ L
  | 0 => rfl
  | L + 1 => by
    have := bt_eq L
    show bt L + (bt L + L) + (L + 1) + 1 = _
    rw [Nat.pow_succ]
    omega
def mL (d L : Nat) : Int := p2 ((d : Int) - (L : Int))
theorem mL_pos {d L : Nat} : 0 < mL d L := p2_pos _
theorem mL_half {d L : Nat} (h : L + 1 ≤ d) : mL d L = 2 * mL d (L + 1) := by
  unfold mL
  rw [p2_half (by omega)]
  congr 2
  omega
def idxD (d L : Nat) (s : Int) : Nat := ((s - 1) / mL d L).toNat
def tlD (d : Nat) : Nat → List Int → Nat
  | 0, _ => 0
  | L + 1, xs => tlD d L (xs.take (2 ^ L)) * 2 ^ (bt L + L) + (idxD d L ((xs.drop (2 ^ L)).headD 0) * 2 ^ bt L + tlD d L (xs.drop (2 ^ L)))
def rkD (d L : Nat) (xs : List Int) : Nat := idxD d L (xs.headD 0) * 2 ^ bt L + tlD d L xs
/-- the order of a standard draw's block b of level L -/
def StO (d : Nat) : Nat → Int → List Int → Prop
  | 0, b, xs => xs = [b]
  | L + 1, b, xs => ∃ A B c e, xs = A ++ B ∧ StO d L c A ∧ StO d L e B ∧ ((c = b ∧ e = 2 * mL d (L + 1) + 1 - b) ∨ (e = b ∧ c = 2 * mL d (L + 1) + 1 - b))
theorem st_len {d : Nat} : ∀ {L : Nat} {b : Int} {xs : List Int}, StO d L b xs → xs.length = 2 ^ L
  | 0, b, xs, h => by rw [show xs = [b] from h]; rfl
  | L + 1, b, xs, ⟨A, B, c, e, h1, h2, h3, _⟩ => by
    rw [h1, List.length_append, st_len h2, st_len h3, Nat.pow_succ]
    omega
/-- the numbers of both halves -/
theorem half_ok {d L : Nat} {b c e : Int} (hd : L + 1 ≤ d) (hb : 1 ≤ b ∧ b ≤ mL d (L + 1)) (h : (c = b ∧ e = 2 * mL d (L + 1) + 1 - b) ∨ (e = b ∧ c = 2 * mL d (L + 1) + 1 - b)) : (1 ≤ c ∧ c ≤ mL d L) ∧ (1 ≤ e ∧ e ≤ mL d L) ∧ c ≠ e := by
  rw [mL_half hd]
  rcases h with ⟨rfl, rfl⟩ | ⟨rfl, rfl⟩ <;> omega
theorem blk_up {d L : Nat} {x : Int} (hd : L + 1 ≤ d) (hx : 1 ≤ x) : blk (mL d (L + 1)) x = fold1 (mL d (L + 1)) (blk (mL d L) x) := by
  rw [mL_half hd]
  exact blk_fold mL_pos hx
theorem st_mem {d : Nat} : ∀ {L : Nat} {b : Int} {xs : List Int}, L ≤ d → 1 ≤ b ∧ b ≤ mL d L → StO d L b xs → ∀ x, x ∈ xs ↔ (1 ≤ x ∧ x ≤ p2 d) ∧ blk (mL d L) x = b
  | 0, b, xs, hd, hb, h, x => by
    rw [show xs = [b] from h, List.mem_singleton]
    have em : mL d 0 = p2 d := by unfold mL; rw [show (d : Int) - ((0 : Nat) : Int) = d by omega]
    rw [em] at hb ⊢
    constructor
    · intro e
      subst e
      exact ⟨hb, blk_top hb.1 hb.2⟩
    · rintro ⟨h1, h2⟩
      rw [blk_top h1.1 h1.2] at h2
      exact h2
  | L + 1, b, xs, hd, hb, ⟨A, B, c, e, h1, h2, h3, h4⟩, x => by
    obtain ⟨hc, he, _⟩ := half_ok hd hb h4
    rw [h1, List.mem_append, st_mem (by omega) hc h2 x, st_mem (by omega) he h3 x]
    constructor
    · rintro (⟨q1, q2⟩ | ⟨q1, q2⟩)
      all_goals
        refine ⟨q1, ?_⟩
        rw [blk_up hd q1.1, q2]
        unfold fold1
        rcases h4 with ⟨z1, z2⟩ | ⟨z1, z2⟩ <;> split <;> omega
    · rintro ⟨q1, q2⟩
      have r := blk_range (m := mL d L) (s := x) mL_pos
      rw [blk_up hd q1.1] at q2
      rw [mL_half hd] at r
      rw [← mL_half hd] at r
      have m2 := mL_half hd
      unfold fold1 at q2
      have : blk (mL d L) x = c ∨ blk (mL d L) x = e := by
        rcases h4 with ⟨z1, z2⟩ | ⟨z1, z2⟩ <;> split at q2 <;> omega
      rcases this with z | z
      · exact .inl ⟨q1, z⟩
      · exact .inr ⟨q1, z⟩
theorem st_nd {d : Nat} : ∀ {L : Nat} {b : Int} {xs : List Int}, L ≤ d → 1 ≤ b ∧ b ≤ mL d L → StO d L b xs → xs.Nodup
  | 0, b, xs, hd, hb, h => by rw [show xs = [b] from h]; simp
  | L + 1, b, xs, hd, hb, ⟨A, B, c, e, h1, h2, h3, h4⟩ => by
    obtain ⟨hc, he, ne⟩ := half_ok hd hb h4
    rw [h1, List.nodup_append]
    refine ⟨st_nd (by omega) hc h2, st_nd (by omega) he h3, fun x hx y hy z => ?_⟩
    have q1 := ((st_mem (by omega) hc h2 x).mp hx).2
    have q2 := ((st_mem (by omega) he h3 y).mp hy).2
    rw [z, q2] at q1
    exact ne q1.symm
theorem idx_range {d L : Nat} {x : Int} (hd : L ≤ d) (h1 : 1 ≤ x) (h2 : x ≤ p2 d) : ((idxD d L x : Nat) : Int) = (x - 1) / mL d L ∧ idxD d L x < 2 ^ L := by
  have e : p2 d = p2 L * mL d L := by
    unfold mL
    rw [← p2_add (by omega) (by omega)]
    congr 1
    omega
  have n := Int.ediv_nonneg (a := x - 1) (b := mL d L) (by omega) (Int.le_of_lt mL_pos)
  have l : (x - 1) / mL d L < p2 L := Int.ediv_lt_of_lt_mul mL_pos (by omega)
  rw [p2_nat] at l
  unfold idxD
  omega
theorem st_cnt {d L : Nat} {b s : Int} {xs : List Int} (hd : L ≤ d) (hb : 1 ≤ b ∧ b ≤ mL d L) (h : StO d L b xs) (hs : s ∈ xs) : (xs.filter fun x => decide (x < s)).length = idxD d L s := by
  have M : 0 < mL d L := mL_pos
  obtain ⟨s1, s2⟩ := (st_mem hd hb h s).mp hs
  obtain ⟨i1, i2⟩ := idx_range hd s1.1 s1.2
  have e : p2 d = p2 L * mL d L := by
    unfold mL
    rw [← p2_add (by omega) (by omega)]
    congr 1
    omega
  have inj : ∀ i : Nat, (mem (mL d L) b i - 1) / mL d L = i := fun i => (mem_parts M hb.1 hb.2).1
  have lt : ∀ i j : Nat, mem (mL d L) b i < mem (mL d L) b j ↔ i < j := fun i j => by
    have a := inj i
    have c := inj j
    constructor
    · intro z
      have : (mem (mL d L) b i - 1) / mL d L ≤ (mem (mL d L) b j - 1) / mL d L := Int.ediv_le_ediv M (by omega)
      rw [a, c] at this
      rcases Nat.lt_or_ge i j with q | q
      · exact q
      · have : i = j := by omega
        rw [this] at z
        omega
    · intro z
      rcases Int.lt_or_le (mem (mL d L) b i) (mem (mL d L) b j) with q | q
      · exact q
      · have : (mem (mL d L) b j - 1) / mL d L ≤ (mem (mL d L) b i - 1) / mL d L := Int.ediv_le_ediv M (by omega)
        rw [a, c] at this
        omega
  have pm : xs.Perm ((List.range (2 ^ L)).map fun i : Nat => mem (mL d L) b i) := by
    refine (List.perm_ext_iff_of_nodup (st_nd hd hb h) ?_).mpr fun x => ?_
    · refine List.Pairwise.map _ (fun i j q z => q ?_) (List.nodup_range (n := 2 ^ L))
      have a := inj i
      rw [z, inj j] at a
      omega
    · rw [st_mem hd hb h x, List.mem_map]
      constructor
      · rintro ⟨q1, q2⟩
        obtain ⟨j1, j2⟩ := idx_range hd q1.1 q1.2
        exact ⟨idxD d L x, List.mem_range.mpr j2, by rw [j1, ← q2]; exact mem_back M⟩
      · rintro ⟨i, hi, rfl⟩
        have r := mem_range (m := mL d L) (n := ((2 ^ L : Nat) : Int)) (b := b) (i := (i : Int)) M hb.1 hb.2 (by omega) (Int.ofNat_lt.mpr (List.mem_range.mp hi))
        rw [← p2_nat, ← e] at r
        exact ⟨r, (mem_parts M hb.1 hb.2).2⟩
  have es : s = mem (mL d L) b (idxD d L s : Nat) := by
    rw [i1, ← s2]
    exact (mem_back M).symm
  rw [(pm.filter _).length_eq, List.filter_map, List.length_map]
  have q : ((fun x => decide (x < s)) ∘ fun i : Nat => mem (mL d L) b i) = fun i : Nat => decide ((i : Int) < ((idxD d L s : Nat) : Int)) := by
    funext i
    show decide (mem (mL d L) b i < s) = _
    rw [decide_eq_decide]
    conv => lhs; rw [es]
    rw [lt]
    omega
  rw [q, filter_lt]
  omega
theorem st_head {d L : Nat} {b : Int} {xs : List Int} (h : StO d L b xs) : ∃ s r, xs = s :: r := by
  have l := st_len h
  match xs, l with
  | s :: r, _ => exact ⟨s, r, rfl⟩
  | [], l =>
    have := Nat.two_pow_pos L
    simp at l
    omega
theorem rk_lt {d : Nat} : ∀ {L : Nat} {b : Int} {xs : List Int}, L ≤ d → 1 ≤ b ∧ b ≤ mL d L → StO d L b xs → tlD d L xs < 2 ^ bt L ∧ rkD d L xs < 2 ^ (bt L + L)
  | 0, b, xs, hd, hb, h => by
    have e : xs = [b] := h
    have em : mL d 0 = p2 d := by unfold mL; rw [show (d : Int) - ((0 : Nat) : Int) = d by omega]
    rw [em] at hb
    obtain ⟨_, i2⟩ := idx_range (L := 0) (d := d) (by omega) hb.1 hb.2
    subst e
    refine ⟨by show 0 < 2 ^ 0; decide, ?_⟩
    show idxD d 0 b * 2 ^ 0 + 0 < 2 ^ (0 + 0)
    simpa using i2
  | L + 1, b, xs, hd, hb, h => by
    obtain ⟨s, r, hs⟩ := st_head h
    have hm := (st_mem hd hb h s).mp (by rw [hs]; exact List.mem_cons_self)
    obtain ⟨_, i2⟩ := idx_range hd hm.1.1 hm.1.2
    obtain ⟨A, B, c, e, h1, h2, h3, h4⟩ := h
    obtain ⟨hc, he, _⟩ := half_ok hd hb h4
    obtain ⟨a1, a2⟩ := rk_lt (by omega) hc h2
    obtain ⟨b1, b2⟩ := rk_lt (by omega) he h3
    have lA := st_len h2
    have t1 : tlD d (L + 1) xs = tlD d L A * 2 ^ (bt L + L) + rkD d L B := by
      show tlD d L (xs.take (2 ^ L)) * 2 ^ (bt L + L) + (idxD d L ((xs.drop (2 ^ L)).headD 0) * 2 ^ bt L + tlD d L (xs.drop (2 ^ L))) = _
      rw [h1, List.take_left' lA, List.drop_left' lA]
      rfl
    have q1 : tlD d (L + 1) xs < 2 ^ bt (L + 1) := by
      rw [t1]
      show _ < 2 ^ (bt L + (bt L + L))
      rw [Nat.pow_add 2 (bt L) (bt L + L)]
      have : (tlD d L A + 1) * 2 ^ (bt L + L) ≤ 2 ^ bt L * 2 ^ (bt L + L) := Nat.mul_le_mul_right _ a1
      rw [Nat.succ_mul] at this
      omega
    refine ⟨q1, ?_⟩
    show idxD d (L + 1) (xs.headD 0) * 2 ^ bt (L + 1) + tlD d (L + 1) xs < _
    rw [hs] at q1 ⊢
    show idxD d (L + 1) s * 2 ^ bt (L + 1) + tlD d (L + 1) (s :: r) < _
    rw [Nat.pow_add, Nat.mul_comm (2 ^ bt (L + 1))]
    have : (idxD d (L + 1) s + 1) * 2 ^ bt (L + 1) ≤ 2 ^ (L + 1) * 2 ^ bt (L + 1) := Nat.mul_le_mul_right _ i2
    rw [Nat.succ_mul] at this
    omega
/-- the other half of the block of level L + 1 around a seed, a block of level L -/
def ohD (d L : Nat) (s : Int) : Int := 2 * mL d (L + 1) + 1 - blk (mL d L) s
/-- the order with such a first seed and such bits behind it -/
def ordT (d : Nat) : Nat → Int → Nat → List Int
  | 0, s, _ => [s]
  | L + 1, s, t => ordT d L s (t / 2 ^ (bt L + L)) ++ ordT d L (mem (mL d L) (ohD d L s) ((t % 2 ^ (bt L + L) / 2 ^ bt L : Nat) : Int)) (t % 2 ^ (bt L + L) % 2 ^ bt L)
def nthD (d L : Nat) (b : Int) (n : Nat) : List Int := ordT d L (mem (mL d L) b ((n / 2 ^ bt L : Nat) : Int)) (n % 2 ^ bt L)
theorem ordT_succ {d L : Nat} {s : Int} {t : Nat} : ordT d (L + 1) s t = ordT d L s (t / 2 ^ (bt L + L)) ++ nthD d L (ohD d L s) (t % 2 ^ (bt L + L)) := rfl
theorem mem_fact {d L : Nat} {b : Int} {i : Nat} (hd : L ≤ d) (hb : 1 ≤ b ∧ b ≤ mL d L) (hi : i < 2 ^ L) : (1 ≤ mem (mL d L) b i ∧ mem (mL d L) b i ≤ p2 d) ∧ blk (mL d L) (mem (mL d L) b i) = b ∧ idxD d L (mem (mL d L) b i) = i := by
  have e : p2 d = p2 L * mL d L := by
    unfold mL
    rw [← p2_add (by omega) (by omega)]
    congr 1
    omega
  have r := mem_range (m := mL d L) (n := ((2 ^ L : Nat) : Int)) (b := b) (i := (i : Int)) mL_pos hb.1 hb.2 (by omega) (Int.ofNat_lt.mpr hi)
  rw [← p2_nat, ← e] at r
  obtain ⟨p, q⟩ := mem_parts (m := mL d L) (b := b) (i := (i : Int)) mL_pos hb.1 hb.2
  refine ⟨r, q, ?_⟩
  unfold idxD
  rw [p]
  rfl
theorem oh_ok {d L : Nat} {s : Int} (hd : L + 1 ≤ d) (hs : 1 ≤ s) : 1 ≤ ohD d L s ∧ ohD d L s ≤ mL d L := by
  have r := blk_range (m := mL d L) (s := s) mL_pos
  have := mL_half hd
  unfold ohD
  omega
/-- such an order is one, and has these bits -/
theorem ord_st {d : Nat} : ∀ {L : Nat} {s : Int} {t : Nat}, L ≤ d → 1 ≤ s ∧ s ≤ p2 d → t < 2 ^ bt L → StO d L (blk (mL d L) s) (ordT d L s t) ∧ (ordT d L s t).headD 0 = s ∧ tlD d L (ordT d L s t) = t
  | 0, s, t, hd, hs, ht => by
    have em : mL d 0 = p2 d := by unfold mL; rw [show (d : Int) - ((0 : Nat) : Int) = d by omega]
    have : t = 0 := by
      have : t < 2 ^ 0 := ht
      simpa using this
    subst this
    refine ⟨?_, rfl, rfl⟩
    show [s] = [blk (mL d 0) s]
    rw [em, blk_top hs.1 hs.2]
  | L + 1, s, t, hd, hs, ht => by
    have pw : 0 < 2 ^ (bt L + L) := Nat.two_pow_pos _
    have pb : 0 < 2 ^ bt L := Nat.two_pow_pos _
    have t1 : t / 2 ^ (bt L + L) < 2 ^ bt L := by
      rw [Nat.div_lt_iff_lt_mul pw, ← Nat.pow_add]
      exact ht
    have t2 : t % 2 ^ (bt L + L) < 2 ^ (bt L + L) := Nat.mod_lt _ pw
    have t3 : t % 2 ^ (bt L + L) / 2 ^ bt L < 2 ^ L := by
      rw [Nat.div_lt_iff_lt_mul pb, ← Nat.pow_add, Nat.add_comm L]
      exact t2
    have t4 : t % 2 ^ (bt L + L) % 2 ^ bt L < 2 ^ bt L := Nat.mod_lt _ pb
    have oo := oh_ok (L := L) hd hs.1
    obtain ⟨m1, m2, m3⟩ := mem_fact (by omega) oo t3
    obtain ⟨a1, a2, a3⟩ := ord_st (L := L) (s := s) (by omega) hs t1
    obtain ⟨b1, b2, b3⟩ := ord_st (L := L) (by omega) m1 t4
    rw [m2] at b1
    have lA := st_len a1
    have hh : (ordT d (L + 1) s t).headD 0 = s := by
      show (ordT d L s (t / 2 ^ (bt L + L)) ++ _).headD 0 = s
      obtain ⟨u, r, hu⟩ := st_head a1
      rw [hu] at a2 ⊢
      exact a2
    refine ⟨⟨_, _, _, _, rfl, a1, b1, ?_⟩, hh, ?_⟩
    · have r := blk_range (m := mL d L) (s := s) mL_pos
      have m2 := mL_half hd
      rw [blk_up hd hs.1]
      unfold fold1 ohD
      split <;> omega
    · show tlD d L ((ordT d L s (t / 2 ^ (bt L + L)) ++ _).take (2 ^ L)) * 2 ^ (bt L + L) + (idxD d L (((ordT d L s (t / 2 ^ (bt L + L)) ++ _).drop (2 ^ L)).headD 0) * 2 ^ bt L + tlD d L ((ordT d L s (t / 2 ^ (bt L + L)) ++ _).drop (2 ^ L))) = t
      rw [List.take_left' lA, List.drop_left' lA, a3, b2, b3, m3, Nat.div_add_mod', Nat.div_add_mod']
/-- and each order is the one with its first seed and its bits -/
theorem st_ord {d : Nat} : ∀ {L : Nat} {b : Int} {xs : List Int}, L ≤ d → 1 ≤ b ∧ b ≤ mL d L → StO d L b xs → ordT d L (xs.headD 0) (tlD d L xs) = xs
  | 0, b, xs, hd, hb, h => by
    have e : xs = [b] := h
    subst e
    rfl
  | L + 1, b, xs, hd, hb, ⟨A, B, c, e, h1, h2, h3, h4⟩ => by
    obtain ⟨hc, he, _⟩ := half_ok hd hb h4
    have lA := st_len h2
    obtain ⟨s, r, hs⟩ := st_head h2
    obtain ⟨u, w, hu⟩ := st_head h3
    have t1 : tlD d (L + 1) xs = tlD d L A * 2 ^ (bt L + L) + rkD d L B := by
      show tlD d L (xs.take (2 ^ L)) * 2 ^ (bt L + L) + (idxD d L ((xs.drop (2 ^ L)).headD 0) * 2 ^ bt L + tlD d L (xs.drop (2 ^ L))) = _
      rw [h1, List.take_left' lA, List.drop_left' lA]
      rfl
    obtain ⟨b1, b2⟩ := rk_lt (by omega) he h3
    have hx : xs.headD 0 = s := by rw [h1, hs]; rfl
    have hsm := (st_mem (by omega) hc h2 s).mp (by rw [hs]; exact List.mem_cons_self)
    have hum := (st_mem (by omega) he h3 u).mp (by rw [hu]; exact List.mem_cons_self)
    have oh : ohD d L s = e := by
      unfold ohD
      rw [hsm.2]
      rcases h4 with ⟨z1, z2⟩ | ⟨z1, z2⟩ <;> omega
    have pw : 0 < 2 ^ (bt L + L) := Nat.two_pow_pos _
    have q1 : tlD d (L + 1) xs / 2 ^ (bt L + L) = tlD d L A := by
      rw [t1, Nat.mul_comm, Nat.mul_add_div pw, Nat.div_eq_of_lt b2, Nat.add_zero]
    have q2 : tlD d (L + 1) xs % 2 ^ (bt L + L) = rkD d L B := by
      rw [t1, Nat.mul_comm, Nat.mul_add_mod, Nat.mod_eq_of_lt b2]
    have pb : 0 < 2 ^ bt L := Nat.two_pow_pos _
    have r1 : rkD d L B / 2 ^ bt L = idxD d L u := by
      unfold rkD
      rw [hu] at b1 ⊢
      show (idxD d L u * 2 ^ bt L + _) / _ = _
      rw [Nat.mul_comm, Nat.mul_add_div pb, Nat.div_eq_of_lt b1, Nat.add_zero]
    have r2 : rkD d L B % 2 ^ bt L = tlD d L B := by
      unfold rkD
      rw [Nat.mul_comm, Nat.mul_add_mod, Nat.mod_eq_of_lt b1]
    rw [hx, ordT_succ, q1, q2, oh]
    unfold nthD
    rw [r1, r2]
    have eu : mem (mL d L) e (idxD d L u : Nat) = u := by
      rw [(idx_range (by omega) hum.1.1 hum.1.2).1, ← hum.2]
      exact mem_back mL_pos
    have i1 := st_ord (by omega) hc h2
    have i2 := st_ord (by omega) he h3
    rw [eu]
    rw [hs] at i1 ⊢
    rw [hu] at i2 ⊢
    rw [h1]
    rw [show ordT d L s (tlD d L (s :: r)) = s :: r from i1, show ordT d L u (tlD d L (u :: w)) = u :: w from i2, hs, hu]
theorem nth_st {d L : Nat} {b : Int} {n : Nat} (hd : L ≤ d) (hb : 1 ≤ b ∧ b ≤ mL d L) (hn : n < 2 ^ (bt L + L)) : StO d L b (nthD d L b n) ∧ rkD d L (nthD d L b n) = n := by
  have pb : 0 < 2 ^ bt L := Nat.two_pow_pos _
  have t3 : n / 2 ^ bt L < 2 ^ L := by
    rw [Nat.div_lt_iff_lt_mul pb, ← Nat.pow_add, Nat.add_comm L]
    exact hn
  obtain ⟨m1, m2, m3⟩ := mem_fact hd hb t3
  obtain ⟨a1, a2, a3⟩ := ord_st hd m1 (Nat.mod_lt n pb)
  rw [m2] at a1
  refine ⟨a1, ?_⟩
  show idxD d L ((ordT d L _ _).headD 0) * 2 ^ bt L + tlD d L (ordT d L _ _) = n
  rw [a2, a3, m3, Nat.div_add_mod']
theorem st_nth {d L : Nat} {b : Int} {xs : List Int} (hd : L ≤ d) (hb : 1 ≤ b ∧ b ≤ mL d L) (h : StO d L b xs) : nthD d L b (rkD d L xs) = xs := by
  obtain ⟨s, r, hs⟩ := st_head h
  have hsm := (st_mem hd hb h s).mp (by rw [hs]; exact List.mem_cons_self)
  obtain ⟨b1, b2⟩ := rk_lt hd hb h
  have pb : 0 < 2 ^ bt L := Nat.two_pow_pos _
  have r1 : rkD d L xs / 2 ^ bt L = idxD d L s := by
    unfold rkD
    rw [hs] at b1 ⊢
    show (idxD d L s * 2 ^ bt L + _) / _ = _
    rw [Nat.mul_comm, Nat.mul_add_div pb, Nat.div_eq_of_lt b1, Nat.add_zero]
  have r2 : rkD d L xs % 2 ^ bt L = tlD d L xs := by
    unfold rkD
    rw [Nat.mul_comm, Nat.mul_add_mod, Nat.mod_eq_of_lt b1]
  have eu : mem (mL d L) b (idxD d L s : Nat) = s := by
    rw [(idx_range hd hsm.1.1 hsm.1.2).1, ← hsm.2]
    exact mem_back mL_pos
  unfold nthD
  rw [r1, r2, eu]
  have := st_ord hd hb h
  rw [hs] at this ⊢
  exact this
/-! ### first, last, and which comes before which -/
theorem ext_half {m s : Int} {h : Nat} (hm : 0 ≤ m) : ext m s (h + 1) = ext (m + 1) s h ++ ext (m + 1) (2 * p2 m + 1 - s) h := by
  rw [Nat.add_comm, ext_two m s 1 h]
  have e1 : ext m s 1 = [s, 2 * p2 m + 1 - s] := by
    show ([s].flatMap fun x => [x, 2 * p2 (m + ((0 : Nat) : Int)) + 1 - x]) = _
    rw [show m + ((0 : Nat) : Int) = m by omega]
    rfl
  rw [e1]
  simp [List.flatMap_cons]
theorem br_st {d : Nat} : ∀ {L : Nat} {b : Int}, L ≤ d → 1 ≤ b ∧ b ≤ mL d L → StO d L b (ext ((d : Int) - (L : Int)) b L) ∧ rkD d L (ext ((d : Int) - (L : Int)) b L) = 0 ∧ (ext ((d : Int) - (L : Int)) b L).headD 0 = b
  | 0, b, hd, hb => by
    have em : mL d 0 = p2 d := by unfold mL; rw [show (d : Int) - ((0 : Nat) : Int) = d by omega]
    rw [em] at hb
    refine ⟨rfl, ?_, rfl⟩
    show ((b - 1) / mL d 0).toNat * 2 ^ 0 + 0 = 0
    rw [em, Int.ediv_eq_zero_of_lt (by omega) (by omega)]
    rfl
  | L + 1, b, hd, hb => by
    have e : ext ((d : Int) - ((L + 1 : Nat) : Int)) b (L + 1) = ext ((d : Int) - (L : Int)) b L ++ ext ((d : Int) - (L : Int)) (2 * mL d (L + 1) + 1 - b) L := by
      rw [ext_half (by omega), show (d : Int) - ((L + 1 : Nat) : Int) + 1 = (d : Int) - (L : Int) by omega]
      rfl
    have m2 := mL_half hd
    obtain ⟨a1, a2, a3⟩ := br_st (d := d) (L := L) (b := b) (by omega) (by omega)
    obtain ⟨b1, b2, b3⟩ := br_st (d := d) (L := L) (b := 2 * mL d (L + 1) + 1 - b) (by omega) (by omega)
    rw [e]
    have lA := st_len a1
    have hh : (ext ((d : Int) - (L : Int)) b L ++ ext ((d : Int) - (L : Int)) (2 * mL d (L + 1) + 1 - b) L).headD 0 = b := by
      obtain ⟨u, r, hu⟩ := st_head a1
      rw [hu] at a3 ⊢
      exact a3
    refine ⟨⟨_, _, _, _, rfl, a1, b1, .inl ⟨rfl, rfl⟩⟩, ?_, hh⟩
    unfold rkD at a2 b2 ⊢
    rw [hh]
    have z : idxD d (L + 1) b = 0 := by
      unfold idxD
      rw [Int.ediv_eq_zero_of_lt (by omega) (by omega)]
      rfl
    rw [z]
    show 0 * _ + (tlD d L ((ext ((d : Int) - (L : Int)) b L ++ _).take (2 ^ L)) * 2 ^ (bt L + L) + (idxD d L (((ext ((d : Int) - (L : Int)) b L ++ _).drop (2 ^ L)).headD 0) * 2 ^ bt L + tlD d L ((ext ((d : Int) - (L : Int)) b L ++ _).drop (2 ^ L)))) = 0
    rw [List.take_left' lA, List.drop_left' lA, b2]
    have : tlD d L (ext ((d : Int) - (L : Int)) b L) = 0 := by omega
    rw [this]
    simp
theorem brk_st {d : Nat} : StO d d 1 (brk d) ∧ rkD d d (brk d) = 0 := by
  have := br_st (d := d) (L := d) (b := 1) (Nat.le_refl _) ⟨by omega, by have : 0 < mL d d := mL_pos; omega⟩
  rw [show (d : Int) - (d : Int) = 0 by omega] at this
  exact ⟨this.1, this.2.1⟩
/-- halves exchanged in some blocks -/
def SwR : Nat → List Int → List Int → Prop
  | 0, xs, ys => ys = xs
  | L + 1, xs, ys => ∃ A B, SwR L (xs.take (2 ^ L)) A ∧ SwR L (xs.drop (2 ^ L)) B ∧ (ys = A ++ B ∨ ys = B ++ A)
theorem sw_st {d : Nat} : ∀ {L : Nat} {b : Int} {xs ys : List Int}, StO d L b xs → SwR L xs ys → StO d L b ys
  | 0, b, xs, ys, h, s => by rw [show ys = xs from s]; exact h
  | L + 1, b, xs, ys, ⟨A, B, c, e, h1, h2, h3, h4⟩, ⟨A', B', s1, s2, s3⟩ => by
    have lA := st_len h2
    rw [h1, List.take_left' lA] at s1
    rw [h1, List.drop_left' lA] at s2
    have a := sw_st h2 s1
    have b' := sw_st h3 s2
    rcases s3 with z | z
    · exact ⟨A', B', c, e, z, a, b', h4⟩
    · exact ⟨B', A', e, c, z, b', a, h4.symm.imp (fun q => ⟨q.1, q.2⟩) fun q => ⟨q.1, q.2⟩⟩
theorem lex_app {A A' B B' : List Int} : A.length = A'.length → ((A ++ B) < (A' ++ B') ↔ A < A' ∨ (A = A' ∧ B < B')) := by
  intro hl
  induction A generalizing A' with
  | nil =>
    match A', hl with
    | [], _ => simp
  | cons x A ih =>
    match A', hl with
    | y :: A', hl =>
      have hl' : A.length = A'.length := by simpa using hl
      rw [List.cons_append, List.cons_append, List.cons_lt_cons_iff, List.cons_lt_cons_iff, ih hl']
      constructor
      · rintro (h | ⟨rfl, h | ⟨rfl, h⟩⟩)
        · exact .inl (.inl h)
        · exact .inl (.inr ⟨rfl, h⟩)
        · exact .inr ⟨rfl, h⟩
      · rintro ((h | ⟨rfl, h⟩) | ⟨h, h2⟩)
        · exact .inl h
        · exact .inr ⟨rfl, .inl h⟩
        · obtain ⟨rfl, rfl⟩ := List.cons.inj h
          exact .inr ⟨rfl, .inr ⟨rfl, h2⟩⟩
theorem idx_lt {d L : Nat} {b x y : Int} (hd : L ≤ d) (hx : 1 ≤ x ∧ x ≤ p2 d) (hy : 1 ≤ y ∧ y ≤ p2 d) (bx : blk (mL d L) x = b) (by_ : blk (mL d L) y = b) : x < y ↔ idxD d L x < idxD d L y := by
  have a := (idx_range hd hx.1 hx.2).1
  have c := (idx_range hd hy.1 hy.2).1
  have s : ∀ {x y : Int}, blk (mL d L) x = b → blk (mL d L) y = b → x < y → (x - 1) / mL d L < (y - 1) / mL d L := fun h1 h2 h3 => idx_strict mL_pos h1 h2 h3
  constructor
  · intro h
    have := s bx by_ h
    omega
  · intro h
    rcases Int.lt_trichotomy x y with q | q | q
    · exact q
    · subst q; omega
    · have := s by_ bx q
      omega
theorem two_lt {a a' r r' P : Nat} (h : r < P) (h' : r' < P) : a * P + r < a' * P + r' ↔ a < a' ∨ (a = a' ∧ r < r') := by
  constructor
  · intro z
    rcases Nat.lt_trichotomy a a' with q | q | q
    · exact .inl q
    · subst q; exact .inr ⟨rfl, by omega⟩
    · have : (a' + 1) * P ≤ a * P := Nat.mul_le_mul_right _ q
      rw [Nat.succ_mul] at this
      omega
  · rintro (q | ⟨rfl, q⟩)
    · have : (a + 1) * P ≤ a' * P := Nat.mul_le_mul_right _ q
      rw [Nat.succ_mul] at this
      omega
    · omega
theorem st_lex {d : Nat} : ∀ {L : Nat} {b : Int} {xs ys : List Int}, L ≤ d → 1 ≤ b ∧ b ≤ mL d L → StO d L b xs → StO d L b ys → (xs < ys ↔ rkD d L xs < rkD d L ys) ∧ (xs.headD 0 = ys.headD 0 → (xs < ys ↔ tlD d L xs < tlD d L ys)) := by
  intro L
  have main : ∀ {L : Nat} {b : Int} {xs ys : List Int}, L ≤ d → 1 ≤ b ∧ b ≤ mL d L → StO d L b xs → StO d L b ys → (xs.headD 0 = ys.headD 0 → (xs < ys ↔ tlD d L xs < tlD d L ys)) → (xs < ys ↔ rkD d L xs < rkD d L ys) := by
    intro L b xs ys hd hb hx hy ht
    obtain ⟨s, r, hs⟩ := st_head hx
    obtain ⟨u, w, hu⟩ := st_head hy
    have sm := (st_mem hd hb hx s).mp (by rw [hs]; exact List.mem_cons_self)
    have um := (st_mem hd hb hy u).mp (by rw [hu]; exact List.mem_cons_self)
    have l1 := (rk_lt hd hb hx).1
    have l2 := (rk_lt hd hb hy).1
    unfold rkD
    rw [two_lt l1 l2, show xs.headD 0 = s by rw [hs]; rfl, show ys.headD 0 = u by rw [hu]; rfl]
    have il := idx_lt hd sm.1 um.1 sm.2 um.2
    have il2 := idx_lt hd um.1 sm.1 um.2 sm.2
    by_cases z : s = u
    · have := ht (by rw [hs, hu]; exact z)
      rw [this]
      subst z
      simp
    · rw [hs, hu, List.cons_lt_cons_iff]
      constructor
      · rintro (q | ⟨q, _⟩)
        · exact .inl (il.mp q)
        · exact absurd q z
      · rintro (q | ⟨q, _⟩)
        · exact .inl (il.mpr q)
        · exfalso
          rcases Int.lt_or_gt_of_ne z with k | k
          · have := il.mp k; omega
          · have := il2.mp k; omega
  induction L with
  | zero =>
    intro b xs ys hd hb hx hy
    have tl : xs.headD 0 = ys.headD 0 → (xs < ys ↔ tlD d 0 xs < tlD d 0 ys) := fun _ => by
      rw [show xs = [b] from hx, show ys = [b] from hy]
      simp [tlD]
    exact ⟨main hd hb hx hy tl, tl⟩
  | succ L ih =>
    intro b xs ys hd hb hx hy
    have tl : xs.headD 0 = ys.headD 0 → (xs < ys ↔ tlD d (L + 1) xs < tlD d (L + 1) ys) := by
      intro hh
      obtain ⟨A, B, c, e, h1, h2, h3, h4⟩ := hx
      obtain ⟨A', B', c', e', k1, k2, k3, k4⟩ := hy
      obtain ⟨hc, he, _⟩ := half_ok hd hb h4
      obtain ⟨hc', he', _⟩ := half_ok hd hb k4
      have lA := st_len h2
      have lA' := st_len k2
      obtain ⟨s, r, hs⟩ := st_head h2
      obtain ⟨u, w, hu⟩ := st_head k2
      have sm := (st_mem (by omega) hc h2 s).mp (by rw [hs]; exact List.mem_cons_self)
      have um := (st_mem (by omega) hc' k2 u).mp (by rw [hu]; exact List.mem_cons_self)
      have su : s = u := by
        rw [h1, k1, hs, hu] at hh
        exact hh
      have cc : c' = c := by rw [← um.2, ← su, sm.2]
      have ee : e' = e := by
        rcases h4 with ⟨z1, z2⟩ | ⟨z1, z2⟩ <;> rcases k4 with ⟨y1, y2⟩ | ⟨y1, y2⟩ <;> omega
      subst cc ee
      have t1 : tlD d (L + 1) xs = tlD d L A * 2 ^ (bt L + L) + rkD d L B := by
        show tlD d L (xs.take (2 ^ L)) * 2 ^ (bt L + L) + (idxD d L ((xs.drop (2 ^ L)).headD 0) * 2 ^ bt L + tlD d L (xs.drop (2 ^ L))) = _
        rw [h1, List.take_left' lA, List.drop_left' lA]
        rfl
      have t2 : tlD d (L + 1) ys = tlD d L A' * 2 ^ (bt L + L) + rkD d L B' := by
        show tlD d L (ys.take (2 ^ L)) * 2 ^ (bt L + L) + (idxD d L ((ys.drop (2 ^ L)).headD 0) * 2 ^ bt L + tlD d L (ys.drop (2 ^ L))) = _
        rw [k1, List.take_left' lA', List.drop_left' lA']
        rfl
      have hAA : A.headD 0 = A'.headD 0 := by rw [hs, hu]; exact su
      have iA := (ih (by omega) hc h2 k2).2 hAA
      have iB := (ih (by omega) he h3 k3).1
      have oA := st_ord (by omega) hc h2
      have oA' := st_ord (by omega) hc k2
      rw [t1, t2, two_lt (rk_lt (by omega) he h3).2 (rk_lt (by omega) he k3).2, h1, k1, lex_app (by rw [lA, lA']), iA, iB]
      constructor
      · rintro (q | ⟨q, q2⟩)
        · exact .inl q
        · exact .inr ⟨by rw [q], q2⟩
      · rintro (q | ⟨q, q2⟩)
        · exact .inl q
        · exact .inr ⟨by rw [← oA, ← oA', q, hAA], q2⟩
    exact ⟨main hd hb hx hy tl, tl⟩
/-- the last one of a block -/
def MaxO (d L : Nat) (b : Int) (xs : List Int) : Prop := StO d L b xs ∧ rkD d L xs + 1 = 2 ^ (bt L + L)
theorem max_parts {d L : Nat} {b : Int} {xs : List Int} (hd : L ≤ d) (hb : 1 ≤ b ∧ b ≤ mL d L) (h : MaxO d L b xs) : idxD d L (xs.headD 0) + 1 = 2 ^ L ∧ tlD d L xs + 1 = 2 ^ bt L := by
  have l := (rk_lt hd hb h.1).1
  obtain ⟨s, r, hs⟩ := st_head h.1
  have sm := (st_mem hd hb h.1 s).mp (by rw [hs]; exact List.mem_cons_self)
  have i2 := (idx_range hd sm.1.1 sm.1.2).2
  have e := h.2
  unfold rkD at e
  rw [Nat.pow_add, Nat.mul_comm (2 ^ bt L)] at e
  have hh : xs.headD 0 = s := by rw [hs]; rfl
  rw [hh] at e ⊢
  by_cases c : idxD d L s + 1 = 2 ^ L
  · refine ⟨c, ?_⟩
    rw [← c, Nat.succ_mul] at e
    omega
  · exfalso
    have : (idxD d L s + 1 + 1) * 2 ^ bt L ≤ 2 ^ L * 2 ^ bt L := Nat.mul_le_mul_right _ (by omega)
    rw [Nat.succ_mul, Nat.succ_mul] at this
    have : 0 < 2 ^ bt L := Nat.two_pow_pos _
    omega
theorem max_join {d L : Nat} {b c e : Int} {A B : List Int} (hd : L + 1 ≤ d) (hb : 1 ≤ b ∧ b ≤ mL d (L + 1)) (hA : MaxO d L c A) (hB : MaxO d L e B) (h4 : (c = b ∧ e = 2 * mL d (L + 1) + 1 - b) ∨ (e = b ∧ c = 2 * mL d (L + 1) + 1 - b)) (hlt : B.headD 0 < A.headD 0) : MaxO d (L + 1) b (A ++ B) := by
  obtain ⟨hc, he, ne⟩ := half_ok hd hb h4
  have st : StO d (L + 1) b (A ++ B) := ⟨A, B, c, e, rfl, hA.1, hB.1, h4⟩
  obtain ⟨a1, a2⟩ := max_parts (by omega) hc hA
  obtain ⟨b1, b2⟩ := max_parts (by omega) he hB
  have lA := st_len hA.1
  obtain ⟨s, r, hs⟩ := st_head hA.1
  obtain ⟨u, w, hu⟩ := st_head hB.1
  have sm := (st_mem (by omega) hc hA.1 s).mp (by rw [hs]; exact List.mem_cons_self)
  have um := (st_mem (by omega) he hB.1 u).mp (by rw [hu]; exact List.mem_cons_self)
  have m2 := mL_half hd
  have h1 : A.headD 0 = s := by rw [hs]; rfl
  have h2 : B.headD 0 = u := by rw [hu]; rfl
  rw [h1] at a1 hlt
  rw [h2] at b1 hlt
  have sb := (st_mem (by omega) hb st s).mp (by rw [hs]; simp)
  have ub := (st_mem (by omega) hb st u).mp (by rw [hu]; simp)
  have il := (idx_lt hd um.1 sm.1 ub.2 sb.2).mp hlt
  obtain ⟨is1, is2⟩ := idx_range hd sm.1.1 sm.1.2
  obtain ⟨iu1, iu2⟩ := idx_range hd um.1.1 um.1.2
  have js := (idx_range (L := L) (by omega) sm.1.1 sm.1.2).1
  have ju := (idx_range (L := L) (by omega) um.1.1 um.1.2).1
  have half : ∀ x : Int, (x - 1) / mL d L = (x - 1) / mL d (L + 1) / 2 := fun x => by
    rw [m2, Int.mul_comm, Int.ediv_ediv_of_nonneg (Int.le_of_lt mL_pos)]
  rw [half, ← is1] at js
  rw [half, ← iu1] at ju
  have e2 : 2 ^ (L + 1) = 2 ^ L * 2 := Nat.pow_succ 2 L
  have top : idxD d (L + 1) s + 1 = 2 ^ (L + 1) := by omega
  refine ⟨st, ?_⟩
  have hh : (A ++ B).headD 0 = s := by rw [hs]; rfl
  show idxD d (L + 1) ((A ++ B).headD 0) * 2 ^ bt (L + 1) + (tlD d L ((A ++ B).take (2 ^ L)) * 2 ^ (bt L + L) + (idxD d L (((A ++ B).drop (2 ^ L)).headD 0) * 2 ^ bt L + tlD d L ((A ++ B).drop (2 ^ L)))) + 1 = _
  rw [hh, List.take_left' lA, List.drop_left' lA]
  have rB : idxD d L (B.headD 0) * 2 ^ bt L + tlD d L B + 1 = 2 ^ (bt L + L) := hB.2
  rw [Nat.pow_add 2 (bt (L + 1)) (L + 1), Nat.mul_comm (2 ^ bt (L + 1)), ← top, Nat.succ_mul]
  have p1 : 2 ^ bt (L + 1) = 2 ^ bt L * 2 ^ (bt L + L) := by
    show 2 ^ (bt L + (bt L + L)) = _
    rw [Nat.pow_add 2 (bt L) (bt L + L)]
  have p3 : tlD d L A * 2 ^ (bt L + L) + 2 ^ (bt L + L) = 2 ^ bt L * 2 ^ (bt L + L) := by rw [← a2, Nat.succ_mul]
  omega
theorem max_one {d : Nat} {b : Int} (hb : 1 ≤ b ∧ b ≤ mL d 0) : MaxO d 0 b [b] := by
  have em : mL d 0 = p2 d := by unfold mL; rw [show (d : Int) - ((0 : Nat) : Int) = d by omega]
  refine ⟨rfl, ?_⟩
  rw [em] at hb
  show ((b - 1) / mL d 0).toNat * 2 ^ 0 + 0 + 1 = 2 ^ (0 + 0)
  rw [em, Int.ediv_eq_zero_of_lt (by omega) (by omega)]
  rfl
end SC

set_option Elab.async false
set_option linter.all false
set_option maxRecDepth 100000
set_option maxHeartbeats 4000000
/-! The greater and the less of two lists of ints; standard draws are judged so; digits of a draw's index. -/
namespace SC
open PySem PySem.Spec PyProof.Rows L2 StX PySem.W
def ilD (xs : List Int) : PyData := .list (xs.map PyData.int)
theorem lt_il {xs ys : List Int} : dataLt (ilD xs) (ilD ys) = decide (xs < ys) := by
  unfold ilD
  rw [dataLt_list]
  exact dataLt_ints xs ys
theorem al_il (xs ys : List Int) : alike (ilD xs) (ilD ys) = true := by
  unfold ilD alike
  exact alike_ints xs ys
/-- max (and min) of a list of two lists of ints -/
def rBest2 (K : PySem.W.Frag) (mx : Bool) : List V → Hp → VK → Prop := fun vs H Q => ∃ (a p q : Addr) (xs ys : List Int), vs = [V.ref a] ∧ SqL K H a [.ref p, .ref q] ∧ SqL K H p (xs.map V.int) ∧ SqL K H q (ys.map V.int) ∧ xs ≠ ys ∧
  Q (.ref (if mx = decide (xs < ys) then q else p)) H
section
variable {X : Cx}
theorem il_ne {xs ys : List Int} (h : xs ≠ ys) : ilD xs ≠ ilD ys := fun z => h (by
  unfold ilD at z
  have := PyData.list.inj z
  exact (List.map_inj_right fun a b e => PyData.int.inj e).mp this)
theorem lt_flip {xs ys : List Int} (h : xs ≠ ys) : decide (ys < xs) = !decide (xs < ys) := by
  rw [← decide_not, decide_eq_decide]
  constructor
  · intro a b; exact absurd (List.lt_trans a b) (List.lt_irrefl _)
  · intro a
    rcases List.le_iff_lt_or_eq.mp (List.not_lt.mp a) with z | z
    · exact z
    · exact absurd z.symm h
theorem cr_max2L (hc : X.calm = true) (hu : X.A.units + 64 < cLine) : CallR X (.builtin "max") (rBest2 X.K true) := by
  intro pins s σ H vs us Q I r h
  obtain ⟨a, p, q, xs, ys, rfl, ha, hp, hq, ne, k⟩ := h
  obtain ⟨its, rv, hl, _⟩ := I.list ha
  rw [Vals.ref1 r]
  obtain ⟨u1, u2, e, r1, r2⟩ := vals2 rv
  subst e
  obtain ⟨as1, d1⟩ := Dp.reads I (ilD xs) _ _ (.lst hp (dp_ints xs)) r1
  obtain ⟨as2, d2⟩ := Dp.reads I (ilD ys) _ _ (.lst hq (dp_ints ys)) r2
  have dx := dep_ints xs
  have dy := dep_ints ys
  refine max_list_data (x := ilD xs) (xs := [ilD ys]) (I.ok.hd hc) hl.isList (.cons d1 (.cons d2 .nil)) ⟨fun x hx y hy => ?_, fun x hx => ?_⟩ (by simp only [PyData.depthAll, ilD, PyData.depth]; omega) fun i v h' tk bs hv rd hk => ?_
  · have : ∀ z ∈ [ilD xs, ilD ys], ∃ w, z = ilD w := fun z hz => by
      simp only [List.mem_cons, List.not_mem_nil, or_false] at hz
      rcases hz with e | e
      · exact ⟨_, e⟩
      · exact ⟨_, e⟩
    obtain ⟨w, rfl⟩ := this x hx
    obtain ⟨w', rfl⟩ := this y hy
    exact al_il _ _
  · simp only [List.mem_cons, List.not_mem_nil, or_false] at hx
    rcases hx with rfl | rfl <;> exact fun z => nomatch z
  · have e : maxD (ilD xs) [ilD ys] = if decide (xs < ys) = true then ilD ys else ilD xs := by
      show (if dataLt (ilD xs) (ilD ys) = true then ilD ys else ilD xs) = _
      rw [lt_il]
    rw [e] at rd
    have k1 : Reads h' u1 (ilD xs) as1 := reads_keeps hk d1
    have k2 : Reads h' u2 (ilD ys) as2 := reads_keeps hk d2
    have same : ∀ {u : Value} {w w' : List Int} {b b' : List Addr}, Reads h' u (ilD w) b → Reads h' u (ilD w') b' → w = w' := fun a b => by
      have := alike_unique _ _ _ _ _ (al_il _ _) a b
      exact Classical.byContradiction fun n => il_ne n this
    by_cases c : xs < ys
    · rw [if_pos (decide_eq_true c)] at rd
      rw [if_pos (decide_eq_true c).symm] at k
      match i, hv with
      | 0, hv =>
        have : v = u1 := (Option.some.inj hv).symm
        subst this
        exact absurd (same k1 rd) ne
      | 1, hv =>
        have : v = u2 := (Option.some.inj hv).symm
        subst this
        exact ⟨_, H, I.kept hk, r2, k⟩
    · rw [if_neg (by rw [decide_eq_true_iff]; exact c)] at rd
      rw [if_neg (by rw [decide_eq_false c]; decide)] at k
      match i, hv with
      | 0, hv =>
        have : v = u1 := (Option.some.inj hv).symm
        subst this
        exact ⟨_, H, I.kept hk, r1, k⟩
      | 1, hv =>
        have : v = u2 := (Option.some.inj hv).symm
        subst this
        exact absurd (same k2 rd).symm ne
theorem cr_min2L (hc : X.calm = true) (hu : X.A.units + 64 < cLine) : CallR X (.builtin "min") (rBest2 X.K false) := by
  intro pins s σ H vs us Q I r h
  obtain ⟨a, p, q, xs, ys, rfl, ha, hp, hq, ne, k⟩ := h
  obtain ⟨its, rv, hl, _⟩ := I.list ha
  rw [Vals.ref1 r]
  obtain ⟨u1, u2, e, r1, r2⟩ := vals2 rv
  subst e
  obtain ⟨as1, d1⟩ := Dp.reads I (ilD xs) _ _ (.lst hp (dp_ints xs)) r1
  obtain ⟨as2, d2⟩ := Dp.reads I (ilD ys) _ _ (.lst hq (dp_ints ys)) r2
  have dx := dep_ints xs
  have dy := dep_ints ys
  refine min_list_data (x := ilD xs) (xs := [ilD ys]) (I.ok.hd hc) hl.isList (.cons d1 (.cons d2 .nil)) ⟨fun x hx y hy => ?_, fun x hx => ?_⟩ (by simp only [PyData.depthAll, ilD, PyData.depth]; omega) fun i v h' tk bs hv rd hk => ?_
  · have : ∀ z ∈ [ilD xs, ilD ys], ∃ w, z = ilD w := fun z hz => by
      simp only [List.mem_cons, List.not_mem_nil, or_false] at hz
      rcases hz with e | e
      · exact ⟨_, e⟩
      · exact ⟨_, e⟩
    obtain ⟨w, rfl⟩ := this x hx
    obtain ⟨w', rfl⟩ := this y hy
    exact al_il _ _
  · simp only [List.mem_cons, List.not_mem_nil, or_false] at hx
    rcases hx with rfl | rfl <;> exact fun z => nomatch z
  · have e : minD (ilD xs) [ilD ys] = if decide (ys < xs) = true then ilD ys else ilD xs := by
      show (if dataLt (ilD ys) (ilD xs) = true then ilD ys else ilD xs) = _
      rw [lt_il]
    rw [e, lt_flip ne] at rd
    have k1 : Reads h' u1 (ilD xs) as1 := reads_keeps hk d1
    have k2 : Reads h' u2 (ilD ys) as2 := reads_keeps hk d2
    have same : ∀ {u : Value} {w w' : List Int} {b b' : List Addr}, Reads h' u (ilD w) b → Reads h' u (ilD w') b' → w = w' := fun a b => by
      have := alike_unique _ _ _ _ _ (al_il _ _) a b
      exact Classical.byContradiction fun n => il_ne n this
    by_cases c : xs < ys
    · rw [decide_eq_true c] at rd k
      rw [if_neg (by decide)] at rd k
      match i, hv with
      | 0, hv =>
        have : v = u1 := (Option.some.inj hv).symm
        subst this
        exact ⟨_, H, I.kept hk, r1, k⟩
      | 1, hv =>
        have : v = u2 := (Option.some.inj hv).symm
        subst this
        exact absurd (same k2 rd).symm ne
    · rw [decide_eq_false c] at rd k
      rw [if_pos (by decide)] at rd
      rw [if_pos rfl] at k
      match i, hv with
      | 0, hv =>
        have : v = u1 := (Option.some.inj hv).symm
        subst this
        exact absurd (same k1 rd) ne
      | 1, hv =>
        have : v = u2 := (Option.some.inj hv).symm
        subst this
        exact ⟨_, H, I.kept hk, r2, k⟩
theorem w_best2 {K : PySem.W.Frag} {H : Hp} {Q : VK} {mx : Bool} {a p q : Addr} {xs ys : List Int} (h : SqL K H a [.ref p, .ref q]) (h1 : SqL K H p (xs.map V.int)) (h2 : SqL K H q (ys.map V.int)) (ne : xs ≠ ys) (k : Q (.ref (if mx = decide (xs < ys) then q else p)) H) : rBest2 K mx [.ref a] H Q := ⟨a, p, q, xs, ys, rfl, h, h1, h2, ne, k⟩
end
end SC
namespace SC
open PySem PySem.Spec PyProof.Rows L2 StX
/-! ### a standard draw's seeds stand as in the bracket -/
theorem blk_mono {d t : Nat} {x y : Int} (hx : 1 ≤ x) (hy : 1 ≤ y) : ∀ L, t ≤ L → L ≤ d → blk (mL d t) x = blk (mL d t) y → blk (mL d L) x = blk (mL d L) y := by
  intro L
  induction L with
  | zero => intro h _ e; rw [show t = 0 by omega] at e; exact e
  | succ L ih =>
    intro h hd e
    by_cases c : t = L + 1
    · rw [← c]; exact e
    · rw [blk_up hd hx, blk_up hd hy, ih (by omega) (by omega) e]
theorem div_sub {i L t : Nat} (ht : t ≤ L) (hi : 2 ^ L ≤ i) : i / 2 ^ t = (i - 2 ^ L) / 2 ^ t + 2 ^ (L - t) := by
  have e : 2 ^ L = 2 ^ (L - t) * 2 ^ t := by rw [← Nat.pow_add]; congr 1; omega
  obtain ⟨r, rfl⟩ : ∃ r, i = r + 2 ^ (L - t) * 2 ^ t := ⟨i - 2 ^ L, by omega⟩
  rw [e, Nat.add_sub_cancel, Nat.add_mul_div_right _ _ (Nat.two_pow_pos t)]
theorem st_blk {d t : Nat} : ∀ {L : Nat} {b : Int} {xs : List Int}, t ≤ L → L ≤ d → 1 ≤ b ∧ b ≤ mL d L → StO d L b xs → ∀ i j x y, xs[i]? = some x → xs[j]? = some y → (i / 2 ^ t = j / 2 ^ t ↔ blk (mL d t) x = blk (mL d t) y) := by
  intro L
  induction L with
  | zero =>
    intro b xs ht hd hb h i j x y hx hy
    have e : xs = [b] := h
    subst e
    match i, j, hx, hy with
    | 0, 0, hx, hy => cases hx; cases hy; simp
  | succ L ih =>
    intro b xs ht hd hb h i j x y hx hy
    have hxm := (st_mem hd hb h x).mp (List.mem_of_getElem? hx)
    have hym := (st_mem hd hb h y).mp (List.mem_of_getElem? hy)
    have li := (List.getElem?_eq_some_iff.mp hx).1
    have lj := (List.getElem?_eq_some_iff.mp hy).1
    rw [st_len h] at li lj
    by_cases c : t = L + 1
    · rw [c, Nat.div_eq_of_lt li, Nat.div_eq_of_lt lj, hxm.2, hym.2]
      simp
    · obtain ⟨A, B, u, e, h1, h2, h3, h4⟩ := h
      obtain ⟨hc, he, ne⟩ := half_ok hd hb h4
      have lA := st_len h2
      have e2 : 2 ^ (L + 1) = 2 ^ L * 2 := Nat.pow_succ 2 L
      subst h1
      have pt : 0 < 2 ^ t := Nat.two_pow_pos t
      have up : ∀ k, k < 2 ^ L → k / 2 ^ t < 2 ^ (L - t) := fun k hk => by
        rw [Nat.div_lt_iff_lt_mul pt, ← Nat.pow_add, show L - t + t = L by omega]
        exact hk
      by_cases ci : i < 2 ^ L <;> by_cases cj : j < 2 ^ L
      · rw [List.getElem?_append_left (by omega)] at hx hy
        exact ih (by omega) (by omega) hc h2 i j x y hx hy
      · rw [List.getElem?_append_left (by omega)] at hx
        rw [List.getElem?_append_right (by omega)] at hy
        have bx := ((st_mem (by omega) hc h2 x).mp (List.mem_of_getElem? hx))
        have by_ := ((st_mem (by omega) he h3 y).mp (List.mem_of_getElem? hy))
        have := up i ci
        have h5 := div_sub (i := j) (L := L) (t := t) (by omega) (by omega)
        generalize (j - 2 ^ L) / 2 ^ t = w at h5
        constructor
        · intro z; omega
        · intro z
          have := blk_mono bx.1.1 by_.1.1 L (by omega) (by omega) z
          rw [bx.2, by_.2] at this
          exact absurd this ne
      · rw [List.getElem?_append_left (by omega)] at hy
        rw [List.getElem?_append_right (by omega)] at hx
        have bx := ((st_mem (by omega) he h3 x).mp (List.mem_of_getElem? hx))
        have by_ := ((st_mem (by omega) hc h2 y).mp (List.mem_of_getElem? hy))
        have := up j cj
        have h5 := div_sub (i := i) (L := L) (t := t) (by omega) (by omega)
        generalize (i - 2 ^ L) / 2 ^ t = w at h5
        constructor
        · intro z; omega
        · intro z
          have := blk_mono bx.1.1 by_.1.1 L (by omega) (by omega) z
          rw [bx.2, by_.2] at this
          exact absurd this.symm ne
      · rw [List.getElem?_append_right (by omega)] at hx hy
        have q := ih (by omega) (by omega) he h3 _ _ x y hx hy
        rw [lA] at q
        rw [← q, div_sub (i := i) (L := L) (t := t) (by omega) (by omega), div_sub (i := j) (L := L) (t := t) (by omega) (by omega)]
        omega
theorem st_std {d : Nat} {xs : List Int} (h : StO d d 1 xs) : IsDr d xs ∧ StdD d xs := by
  have hb : (1 : Int) ≤ 1 ∧ (1 : Int) ≤ mL d d := ⟨by omega, by have : 0 < mL d d := mL_pos; omega⟩
  have len := st_len h
  constructor
  · refine ⟨(List.perm_ext_iff_of_nodup (st_nd (Nat.le_refl _) hb h) (brk_nd d)).mpr fun x => ?_⟩
    rw [st_mem (Nat.le_refl _) hb h x, ← st_mem (Nat.le_refl _) hb brk_st.1 x]
  · intro i j hi hj
    unfold badP
    refine decide_eq_false fun z => z ?_
    refine lvN_congr fun t => ?_
    have gi := List.getElem?_eq_getElem (show i < xs.length by omega)
    have gj := List.getElem?_eq_getElem (show j < xs.length by omega)
    have mi := ((st_mem (Nat.le_refl _) hb h _).mp (List.mem_of_getElem? gi)).1
    have mj := ((st_mem (Nat.le_refl _) hb h _).mp (List.mem_of_getElem? gj)).1
    rw [plN_at gi, plN_at gj]
    have ri := place_range d xs[i] (by omega)
    have rj := place_range d xs[j] (by omega)
    by_cases c : t ≤ d
    · rw [st_blk c (Nat.le_refl _) hb h i j _ _ gi gj]
      have pe := place_eq (k := d) (a := xs[i]) (b := xs[j]) (by omega) mi.1 mi.2 mj.1 mj.2 (h := t) (by omega) (by omega)
      show blk (p2 ((d : Int) - (t : Int))) _ = blk (p2 ((d : Int) - (t : Int))) _ ↔ _
      rw [← pe, p2_nat]
      obtain ⟨a, ha⟩ := Int.eq_ofNat_of_zero_le ri.1
      obtain ⟨b, hb'⟩ := Int.eq_ofNat_of_zero_le rj.1
      rw [ha, hb', Int.toNat_natCast, Int.toNat_natCast, ← Int.natCast_ediv, ← Int.natCast_ediv, Int.natCast_inj]
    · have big : ∀ k, k < 2 ^ d → k / 2 ^ t = 0 := fun k hk => Nat.div_eq_of_lt (Nat.lt_of_lt_of_le hk (Nat.pow_le_pow_right (by decide) (by omega)))
      rw [p2_nat] at ri rj
      rw [big i hi, big j hj, big _ (by omega), big _ (by omega)]
end SC
namespace SC
open PySem PySem.Spec PyProof.Rows L2 StX
/-! ### the digits of an index, place by place -/
def tzF : Nat → Nat → Nat
  | 0, _ => 0
  | f + 1, a => if a % 2 = 0 then 1 + tzF f (a / 2) else 0
theorem tz_spec : ∀ f a, 2 ^ tzF f a ∣ a ∧ tzF f a ≤ f ∧ (tzF f a = f ∨ ¬ 2 ^ (tzF f a + 1) ∣ a)
  | 0, a => ⟨by show 2 ^ 0 ∣ a; simp, Nat.le_refl _, .inl rfl⟩
  | f + 1, a => by
    obtain ⟨h1, h2, h3⟩ := tz_spec f (a / 2)
    unfold tzF
    by_cases c : a % 2 = 0
    · rw [if_pos c]
      have ea : a = 2 * (a / 2) := by omega
      have mul : ∀ w, 2 ^ (1 + w) ∣ a ↔ 2 ^ w ∣ a / 2 := fun w => by
        conv => lhs; rw [ea, Nat.add_comm, Nat.pow_succ, Nat.mul_comm]
        exact Nat.mul_dvd_mul_iff_left (by decide)
      refine ⟨(mul _).mpr h1, by omega, ?_⟩
      rcases h3 with z | z
      · exact .inl (by omega)
      · exact .inr fun q => z ((mul _).mp (by rw [show 1 + (tzF f (a / 2) + 1) = 1 + tzF f (a / 2) + 1 by omega]; exact q))
    · rw [if_neg c]
      refine ⟨by simp, by omega, .inr fun q => c ?_⟩
      exact Nat.mod_eq_zero_of_dvd (by simpa using q)
theorem tz_uniq {f a w : Nat} (h1 : w ≤ f) (h2 : 2 ^ w ∣ a) (h3 : w = f ∨ ¬ 2 ^ (w + 1) ∣ a) : w = tzF f a := by
  obtain ⟨s1, s2, s3⟩ := tz_spec f a
  rcases Nat.lt_trichotomy w (tzF f a) with c | c | c
  · rcases h3 with z | z
    · omega
    · exact absurd (Nat.dvd_trans (Nat.pow_dvd_pow 2 c) s1) z
  · exact c
  · rcases s3 with z | z
    · omega
    · exact absurd (Nat.dvd_trans (Nat.pow_dvd_pow 2 c) h2) z
theorem tz_mid {d L o : Nat} (hL : L < d) (ho : 2 ^ (L + 1) ∣ o) : tzF d (o + 2 ^ L) = L := by
  refine (tz_uniq (by omega) ?_ (.inr fun z => ?_)).symm
  · exact Nat.dvd_add (Nat.dvd_trans (Nat.pow_dvd_pow 2 (Nat.le_succ L)) ho) (Nat.dvd_refl _)
  · have := (Nat.dvd_add_right ho).mp z
    have := Nat.le_of_dvd (Nat.two_pow_pos L) this
    rw [Nat.pow_succ] at this
    have := Nat.two_pow_pos L
    omega
theorem tz_zero {d : Nat} : tzF d 0 = d := (tz_uniq (Nat.le_refl _) (Nat.dvd_zero _) (.inl rfl)).symm
def prD (d : Nat) (xs : List Int) : Nat → Nat
  | 0 => 0
  | a + 1 => prD d xs a * 2 ^ tzF d a + idxD d (tzF d a) (xs.getD a 0)
def swD (d : Nat) : Nat → Nat
  | 0 => 0
  | a + 1 => swD d a + tzF d a
theorem sw_le {d : Nat} : ∀ {a b : Nat}, a ≤ b → swD d a ≤ swD d b := by
  intro a b h
  induction b with
  | zero => rw [show a = 0 by omega]; exact Nat.le_refl _
  | succ b ih =>
    by_cases c : a = b + 1
    · rw [c]; exact Nat.le_refl _
    · exact Nat.le_trans (ih (by omega)) (Nat.le_add_right _ _)
theorem pr_part {d : Nat} {xs : List Int} : ∀ {L o : Nat}, L ≤ d → 2 ^ L ∣ o → o + 2 ^ L ≤ xs.length → prD d xs (o + 2 ^ L) = prD d xs (o + 1) * 2 ^ bt L + tlD d L ((xs.drop o).take (2 ^ L)) ∧ swD d (o + 2 ^ L) = swD d (o + 1) + bt L
  | 0, o, hd, ho, hl => by
    show prD d xs (o + 1) = prD d xs (o + 1) * 2 ^ 0 + 0 ∧ swD d (o + 1) = swD d (o + 1) + 0
    simp
  | L + 1, o, hd, ho, hl => by
    have e2 : 2 ^ (L + 1) = 2 ^ L + 2 ^ L := by rw [Nat.pow_succ]; omega
    have d1 : 2 ^ L ∣ o := Nat.dvd_trans (Nat.pow_dvd_pow 2 (Nat.le_succ L)) ho
    have pL := Nat.two_pow_pos L
    obtain ⟨a1, a2⟩ := pr_part (d := d) (xs := xs) (L := L) (o := o) (by omega) d1 (by omega)
    obtain ⟨b1, b2⟩ := pr_part (d := d) (xs := xs) (L := L) (o := o + 2 ^ L) (by omega) (Nat.dvd_add d1 (Nat.dvd_refl _)) (by omega)
    have tm := tz_mid (d := d) (L := L) (o := o) (by omega) ho
    have s1 : prD d xs (o + 2 ^ L + 1) = prD d xs (o + 2 ^ L) * 2 ^ L + idxD d L (xs.getD (o + 2 ^ L) 0) := by
      show prD d xs (o + 2 ^ L) * 2 ^ tzF d (o + 2 ^ L) + idxD d (tzF d (o + 2 ^ L)) _ = _
      rw [tm]
    have s2 : swD d (o + 2 ^ L + 1) = swD d (o + 2 ^ L) + L := by
      show swD d (o + 2 ^ L) + tzF d (o + 2 ^ L) = _
      rw [tm]
    have t1 : ((xs.drop o).take (2 ^ (L + 1))).take (2 ^ L) = (xs.drop o).take (2 ^ L) := by rw [List.take_take, Nat.min_eq_left (by omega)]
    have t2 : ((xs.drop o).take (2 ^ (L + 1))).drop (2 ^ L) = (xs.drop (o + 2 ^ L)).take (2 ^ L) := by rw [List.drop_take, List.drop_drop, e2, Nat.add_sub_cancel]
    have t3 : ((xs.drop (o + 2 ^ L)).take (2 ^ L)).headD 0 = xs.getD (o + 2 ^ L) 0 := by
      rw [List.getD_eq_getElem?_getD, List.headD_eq_head?_getD, List.head?_take, if_neg (by omega), List.head?_drop]
    have tl : tlD d (L + 1) ((xs.drop o).take (2 ^ (L + 1))) = tlD d L ((xs.drop o).take (2 ^ L)) * 2 ^ (bt L + L) + (idxD d L (xs.getD (o + 2 ^ L) 0) * 2 ^ bt L + tlD d L ((xs.drop (o + 2 ^ L)).take (2 ^ L))) := by
      show tlD d L (((xs.drop o).take (2 ^ (L + 1))).take (2 ^ L)) * 2 ^ (bt L + L) + (idxD d L ((((xs.drop o).take (2 ^ (L + 1))).drop (2 ^ L)).headD 0) * 2 ^ bt L + tlD d L (((xs.drop o).take (2 ^ (L + 1))).drop (2 ^ L))) = _
      rw [t1, t2, t3]
    rw [e2, ← Nat.add_assoc, ← e2, tl, b1, s1, a1, b2, s2, a2]
    refine ⟨?_, by show _ = swD d (o + 1) + (bt L + (bt L + L)); omega⟩
    show _ = prD d xs (o + 1) * 2 ^ (bt L + (bt L + L)) + _
    rw [Nat.pow_add 2 (bt L) (bt L + L), Nat.pow_add 2 (bt L) L]
    generalize prD d xs (o + 1) = p
    generalize tlD d L ((xs.drop o).take (2 ^ L)) = u
    generalize idxD d L (xs.getD (o + 2 ^ L) 0) = v
    generalize tlD d L ((xs.drop (o + 2 ^ L)).take (2 ^ L)) = z
    generalize 2 ^ bt L = X
    generalize 2 ^ L = Y
    rw [Nat.add_mul, Nat.add_mul, Nat.add_mul]
    have e1 : p * X * Y * X = p * (X * (X * Y)) := by rw [Nat.mul_assoc p, Nat.mul_assoc p, Nat.mul_assoc X Y X, Nat.mul_comm Y X]
    have e3 : u * Y * X = u * (X * Y) := by rw [Nat.mul_assoc, Nat.mul_comm Y X]
    rw [e1, e3]
    omega
/-- in all: the index, and all bits -/
theorem pr_all {d : Nat} {xs : List Int} (h : xs.length = 2 ^ d) : prD d xs (2 ^ d) = rkD d d xs ∧ swD d (2 ^ d) = bt d + d := by
  obtain ⟨a, b⟩ := pr_part (d := d) (xs := xs) (L := d) (o := 0) (Nat.le_refl _) (Nat.dvd_zero _) (by omega)
  rw [Nat.zero_add] at a b
  have p1 : prD d xs (0 + 1) = idxD d d (xs.headD 0) := by
    show 0 * 2 ^ tzF d 0 + idxD d (tzF d 0) (xs.getD 0 0) = _
    rw [tz_zero, Nat.zero_mul, Nat.zero_add, List.getD_eq_getElem?_getD, List.headD_eq_head?_getD, List.head?_eq_getElem?]
  have s1 : swD d (0 + 1) = d := by
    show 0 + tzF d 0 = d
    rw [tz_zero, Nat.zero_add]
  rw [p1, List.drop_zero, List.take_of_length_le (by omega)] at a
  rw [s1] at b
  exact ⟨a, by omega⟩
/-- the part at a place: an order of a block -/
theorem st_part {d w : Nat} : ∀ {L : Nat} {b : Int} {xs : List Int} {o : Nat}, w ≤ L → L ≤ d → 1 ≤ b ∧ b ≤ mL d L → StO d L b xs → 2 ^ w ∣ o → o < 2 ^ L → ∃ b', (1 ≤ b' ∧ b' ≤ mL d w) ∧ StO d w b' ((xs.drop o).take (2 ^ w)) := by
  intro L
  induction L with
  | zero =>
    intro b xs o hw hd hb h ho hl
    have : w = 0 := by omega
    subst this
    have : o = 0 := by simpa using hl
    subst this
    exact ⟨b, hb, by rw [show xs = [b] from h]; rfl⟩
  | succ L ih =>
    intro b xs o hw hd hb h ho hl
    by_cases c : w = L + 1
    · subst c
      have : o = 0 := Nat.eq_zero_of_dvd_of_lt ho hl
      subst this
      refine ⟨b, hb, ?_⟩
      rw [List.drop_zero, List.take_of_length_le (by rw [st_len h]; exact Nat.le_refl _)]
      exact h
    · obtain ⟨A, B, u, e, h1, h2, h3, h4⟩ := h
      obtain ⟨hc, he, _⟩ := half_ok hd hb h4
      have lA := st_len h2
      have e2 : 2 ^ (L + 1) = 2 ^ L + 2 ^ L := by rw [Nat.pow_succ]; omega
      have dL : 2 ^ w ∣ 2 ^ L := Nat.pow_dvd_pow 2 (by omega)
      subst h1
      by_cases ci : o < 2 ^ L
      · obtain ⟨b', q1, q2⟩ := ih (by omega) (by omega) hc h2 ho ci
        refine ⟨b', q1, ?_⟩
        have le : o + 2 ^ w ≤ 2 ^ L := by
          obtain ⟨k, rfl⟩ := ho
          obtain ⟨m, hm⟩ := dL
          rw [hm] at ci ⊢
          have := Nat.lt_of_mul_lt_mul_left ci
          rw [← Nat.mul_succ]
          exact Nat.mul_le_mul_left _ this
        rw [List.drop_append_of_le_length (by omega), List.take_append_of_le_length (by rw [List.length_drop]; omega)]
        exact q2
      · have ho2 : 2 ^ w ∣ o - 2 ^ L := Nat.dvd_sub ho dL
        obtain ⟨b', q1, q2⟩ := ih (by omega) (by omega) he h3 ho2 (by omega)
        refine ⟨b', q1, ?_⟩
        rw [List.drop_append, List.drop_eq_nil_of_le (by omega), List.nil_append, lA]
        exact q2
end SC

set_option Elab.async false
set_option linter.all false
set_option maxRecDepth 100000
set_option maxHeartbeats 4000000
/-! Steps: shifts of greater ints, and, or; a def that calls itself, by levels. -/
namespace SC
open PySem PySem.Spec PyProof.Rows L2 StX
def CShlX (i j : Int) : Prop := (0 ≤ i ∧ i < BIG) ∧ 0 ≤ j ∧ j ≤ 200
theorem op_shlX {X : Cx} : OpR X (binaryOp .LShift) (rI CShlX fun i j => .int (i * p2 j)) := by
  refine opI fun i j _ _ _ _ _ hc q => ?_
  obtain ⟨⟨h0, h1⟩, h2, h3⟩ := hc
  have nb : i.natAbs < 2 ^ 2000 := by
    by_cases z : i = 0
    · subst z
      exact Nat.two_pow_pos 2000
    · exact big_abs (by omega) h1
  have b := bits_le (i := i) (n := 2000) nb
  refine lshift_int h2 ?_ (by simpa [p2] using q)
  have : (2000 : Int) + 200 ≤ 2 ^ 27 := by decide
  omega
theorem and_mask {x : Nat} {n : Nat} : PySem.Builtin.bitAnd (x : Int) (p2 (n : Int) - 1) = ((x % 2 ^ n : Nat) : Int) := by
  have p := Nat.two_pow_pos n
  rw [p2_nat, show ((2 ^ n : Nat) : Int) - 1 = ((2 ^ n - 1 : Nat) : Int) by omega, PyProof.Rows.bitAnd_pp (by omega) (by omega), Int.toNat_natCast, Int.toNat_natCast, Nat.and_two_pow_sub_one_eq_mod]
theorem or_join {a b n : Nat} (h : a < 2 ^ n) : PySem.Builtin.bitOr ((b : Int) * p2 (n : Int)) (a : Int) = ((b * 2 ^ n + a : Nat) : Int) := by
  rw [p2_nat]
  have := Bits.bitOr_join' (a := (a : Int)) (b := (b : Int)) (k := n) (by omega) (by exact_mod_cast h) (by omega)
  rw [Int.natCast_pow]
  refine Eq.trans this ?_
  rw [Int.natCast_add, Int.natCast_mul, Int.natCast_pow, Int.add_comm]
  rfl
theorem ltN_lex : ∀ {ns ms : List Int}, ltN ns ms = decide (ns < ms)
  | [], [] => by simp [ltN, SeqAt.firstLt]
  | [], m :: ms => by simp [ltN, SeqAt.firstLt]
  | n :: ns, [] => by simp [ltN, SeqAt.firstLt]
  | n :: ns, m :: ms => by
    have e : ltN (n :: ns) (m :: ms) = if n = m then ltN ns ms else decide (n < m) := by
      unfold ltN
      rw [List.length_cons, List.length_cons, Nat.succ_min_succ, List.range_succ_eq_map]
      show SeqAt.firstLt _ _ _ (0 :: (List.range (min ns.length ms.length)).map Nat.succ) = _
      by_cases c : n = m
      · rw [if_pos c, SeqAt.firstLt_yes (by subst c; simp), firstLt_map]
        have : decide (ns.length + 1 < ms.length + 1) = decide (ns.length < ms.length) := by rw [decide_eq_decide]; omega
        rw [this]
        rfl
      · rw [if_neg c, SeqAt.firstLt_no (by simp [c])]
        rfl
    rw [e, ltN_lex]
    by_cases c : n = m
    · subst c
      rw [if_pos rfl, decide_eq_decide, List.cons_lt_cons_iff]
      simp
    · rw [if_neg c, decide_eq_decide, List.cons_lt_cons_iff]
      simp [c]
/-- bits read from the top: one part more -/
theorem top_step {i u v w : Nat} : i / 2 ^ u % 2 ^ (v + w) / 2 ^ w = i / 2 ^ (u + w) % 2 ^ v ∧ i / 2 ^ u % 2 ^ (v + w) % 2 ^ w = i / 2 ^ u % 2 ^ w := by
  constructor
  · rw [Nat.pow_add 2 v w, Nat.mul_comm (2 ^ v), Nat.mod_mul_right_div_self, Nat.div_div_eq_div_mul, ← Nat.pow_add]
  · exact Nat.mod_mod_of_dvd _ (Nat.pow_dvd_pow 2 (Nat.le_add_left w v))
theorem bt_mono {l L : Nat} (h : l ≤ L) : bt l ≤ bt L := by
  induction L with
  | zero => rw [show l = 0 by omega]; exact Nat.le_refl _
  | succ L ih =>
    by_cases c : l = L + 1
    · rw [c]; exact Nat.le_refl _
    · exact Nat.le_trans (ih (by omega)) (Nat.le_add_right _ _)
theorem p2_pred {l : Nat} : p2 (l : Int) - 1 = ((bt l + l : Nat) : Int) := by
  have := bt_eq l
  rw [p2_nat]
  omega
theorem headD_at {xs : List Int} (h : 0 < xs.length) : atI (xs.map V.int) 0 = some (.int (xs.headD 0)) := by
  match xs, h with
  | x :: r, _ => exact atI_nat (j := 0) rfl
theorem rk_step {d l : Nat} {xs : List Int} {s : Int} : (idxD d l s * 2 ^ bt l + tlD d l (xs.take (2 ^ l))) * 2 ^ (bt l + l) + rkD d l ((xs.drop (2 ^ l)).take (2 ^ l)) = idxD d l s * 2 ^ bt (l + 1) + tlD d (l + 1) (xs.take (2 ^ (l + 1))) := by
  have e2 : 2 ^ (l + 1) = 2 ^ l + 2 ^ l := by rw [Nat.pow_succ]; omega
  have t1 : (xs.take (2 ^ (l + 1))).take (2 ^ l) = xs.take (2 ^ l) := by rw [List.take_take, Nat.min_eq_left (show 2 ^ l ≤ 2 ^ (l + 1) by rw [e2]; exact Nat.le_add_right _ _)]
  have t2 : (xs.take (2 ^ (l + 1))).drop (2 ^ l) = (xs.drop (2 ^ l)).take (2 ^ l) := by rw [List.drop_take, e2, Nat.add_sub_cancel]
  show _ = idxD d l s * 2 ^ (bt l + (bt l + l)) + (tlD d l ((xs.take (2 ^ (l + 1))).take (2 ^ l)) * 2 ^ (bt l + l) + (idxD d l (((xs.take (2 ^ (l + 1))).drop (2 ^ l)).headD 0) * 2 ^ bt l + tlD d l ((xs.take (2 ^ (l + 1))).drop (2 ^ l))))
  rw [t1, t2, Nat.pow_add 2 (bt l) (bt l + l), Nat.add_mul, Nat.mul_assoc]
  unfold rkD
  omega
/-- the same with a first digit of its own -/
theorem rk_step' {d l q : Nat} {xs : List Int} : (q * 2 ^ bt l + tlD d l (xs.take (2 ^ l))) * 2 ^ (bt l + l) + rkD d l ((xs.drop (2 ^ l)).take (2 ^ l)) = q * 2 ^ bt (l + 1) + tlD d (l + 1) (xs.take (2 ^ (l + 1))) := by
  have e2 : 2 ^ (l + 1) = 2 ^ l + 2 ^ l := by rw [Nat.pow_succ]; omega
  have t1 : (xs.take (2 ^ (l + 1))).take (2 ^ l) = xs.take (2 ^ l) := by rw [List.take_take, Nat.min_eq_left (show 2 ^ l ≤ 2 ^ (l + 1) by rw [e2]; exact Nat.le_add_right _ _)]
  have t2 : (xs.take (2 ^ (l + 1))).drop (2 ^ l) = (xs.drop (2 ^ l)).take (2 ^ l) := by rw [List.drop_take, e2, Nat.add_sub_cancel]
  show _ = q * 2 ^ (bt l + (bt l + l)) + (tlD d l ((xs.take (2 ^ (l + 1))).take (2 ^ l)) * 2 ^ (bt l + l) + (idxD d l (((xs.take (2 ^ (l + 1))).drop (2 ^ l)).headD 0) * 2 ^ bt l + tlD d l ((xs.take (2 ^ (l + 1))).drop (2 ^ l))))
  rw [t1, t2, Nat.pow_add 2 (bt l) (bt l + l), Nat.add_mul, Nat.mul_assoc]
  unfold rkD
  omega
theorem pow_big {n : Nat} (h : n ≤ 500) : ((2 ^ n : Nat) : Int) < BIG := by
  rw [← p2_nat]
  exact p2_lim (by omega)
end SC
namespace SC
theorem sw_len : ∀ {L : Nat} {xs ys : List Int}, xs.length = 2 ^ L → SwR L xs ys → ys.length = xs.length
  | 0, xs, ys, _, h => by rw [show ys = xs from h]
  | L + 1, xs, ys, hl, ⟨A, B, h1, h2, h3⟩ => by
    have e2 : 2 ^ (L + 1) = 2 ^ L + 2 ^ L := by rw [Nat.pow_succ]; omega
    have a := sw_len (by rw [List.length_take]; omega) h1
    have b := sw_len (by rw [List.length_drop]; omega) h2
    rw [List.length_take] at a
    rw [List.length_drop] at b
    rcases h3 with z | z <;> rw [z, List.length_append, a, b] <;> omega
end SC
namespace SC
theorem shr_cast {i n : Nat} : (i : Int) / p2 (n : Int) = ((i / 2 ^ n : Nat) : Int) := by
  rw [p2_nat]
  exact (Int.natCast_ediv _ _).symm
end SC
namespace SC
open PySem PySem.Spec PyProof.Rows L2 StX
theorem part_le {a t d : Nat} (h : 2 ^ t ∣ a) (ht : t ≤ d) (ha : a < 2 ^ d) : a + 2 ^ t ≤ 2 ^ d := by
  obtain ⟨k, rfl⟩ := h
  obtain ⟨m, hm⟩ := Nat.pow_dvd_pow 2 ht
  rw [hm] at ha ⊢
  have := Nat.lt_of_mul_lt_mul_left ha
  rw [← Nat.mul_succ]
  exact Nat.mul_le_mul_left _ this
theorem part_at {xs : List Int} {a t : Nat} {x : Int} (h : xs[a]? = some x) : x ∈ (xs.drop a).take (2 ^ t) := by
  refine List.mem_of_getElem? (i := 0) ?_
  rw [List.getElem?_take, if_pos (Nat.two_pow_pos t), List.getElem?_drop, Nat.add_zero]
  exact h
theorem lt_heads {a b : Int} {A B : List Int} (h : a ≠ b) : (a :: A < b :: B) ↔ a < b := by
  rw [List.cons_lt_cons_iff]
  exact ⟨fun q => q.elim id fun q => absurd q.1 h, .inl⟩
end SC
namespace SC
open PySem PySem.Spec PyProof.Rows L2 StX
section
variable {K : PySem.W.Frag} {σ : L2.St} {H : Hp} {Q : VK} {D : Ends} {ta : TA} {tb : TS} {g : TG} {a b : Addr} {xs ys : List V}
theorem w_forZ (k : ta σ H fun vs H1 => ∃ a b xs ys, vs = [V.ref a, V.ref b] ∧ SqL K H1 a xs ∧ SqL K H1 b ys ∧ Loop (Itz K a b) g tb D σ H1) : tFor (iZip K ta) g tb D σ H := k
theorem w_zip (hx : SqL K H a xs) (hy : SqL K H b ys) (hl : xs.length = ys.length) (Pv : Nat → L2.St → Hp → Prop) (h0 : Pv 0 σ H) (hk : ∀ i σ' H', i ≤ xs.length → Pv i σ' H' → SqL K H' a xs ∧ SqL K H' b ys)
    (hs : ∀ (i : Nat) x y σ' H', xs[i]? = some x → ys[i]? = some y → Pv i σ' H' → ∀ T H'', Sm H' H'' → H' T = none → H'' T = some (.tup [x, y]) → g (.ref T) σ' H'' fun σ2 H2 => tb { D with nx := Pv (i + 1), ct := Pv (i + 1), bk := D.nx } σ2 H2) (hd : ∀ σ' H', Pv xs.length σ' H' → D.nx σ' H') :
    ∃ c d us vs, [V.ref a, V.ref b] = [V.ref c, V.ref d] ∧ SqL K H c us ∧ SqL K H d vs ∧ Loop (Itz K c d) g tb D σ H := by
  refine ⟨a, b, xs, ys, rfl, hx, hy, ?_⟩
  refine for_it (walk_zip (n := xs.length) (by omega)) Pv h0 hk (fun i x σ' H' H'' hi p y => ?_) hd
  obtain ⟨T, u, v, rfl, hT, rfl, h1, h2⟩ := y
  exact hs i u v σ' H' h1 h2 p T _ (same_upd hT) hT upd_same
end
theorem Rws.snoc {H : Hp} {ads : List Addr} {es : List (List Int)} {p : Addr} {z : List Int} (r : Rws H ads es) (h : H p = some (.lst (z.map V.int))) : Rws H (ads ++ [p]) (es ++ [z]) := by
  refine ⟨by rw [List.length_append, List.length_append, r.1]; rfl, fun j b e h1 h2 => ?_⟩
  by_cases c : j < ads.length
  · rw [List.getElem?_append_left c] at h1
    rw [List.getElem?_append_left (by rw [← r.1]; exact c)] at h2
    exact r.2 j b e h1 h2
  · have l1 := (List.getElem?_eq_some_iff.mp h1).1
    rw [List.length_append] at l1
    have ej : j = ads.length := by simp at l1; omega
    subst ej
    rw [List.getElem?_append_right (Nat.le_refl _)] at h1
    rw [r.1, List.getElem?_append_right (Nat.le_refl _)] at h2
    simp at h1 h2
    subst h1 h2
    exact h
theorem Rws.updL {H : Hp} {ads : List Addr} {es : List (List Int)} {p : Addr} {o : HO} (r : Rws H ads es) (h : ∀ b ∈ ads, b ≠ p) : Rws (L2.upd H p o) ads es := ⟨r.1, fun j b e h1 h2 => by
  rw [upd_ne (h b (List.mem_of_getElem? h1))]
  exact r.2 j b e h1 h2⟩
theorem Rws.nil {H : Hp} : Rws H [] [] := ⟨rfl, fun j b e h => by simp at h⟩
theorem pow_ne3 (d : Nat) : 2 ^ d ≠ 3 := by
  match d with
  | 0 => decide
  | 1 => decide
  | d + 2 =>
    rw [Nat.pow_succ, Nat.pow_succ]
    have := Nat.two_pow_pos d
    omega
end SC
namespace SC
open PySem PySem.Spec PyProof.Rows L2 StX
theorem Rws.kp3 {H H' : Hp} {a : Addr} {N : Int} {ads : List Addr} {es : List (List Int)} (r : Rws H ads es) (s : Src a N H) (hl : ∀ e ∈ es, e.length ≠ 3) (g : Kp a H H') : Rws H' ads es := ⟨r.1, fun j b e h1 h2 => g _ _ (fun z => by
  subst z
  have h3 := r.2 j b e h1 h2
  obtain ⟨c0, c1, c2, h4, _⟩ := s
  rw [h3] at h4
  have h5 := congrArg List.length (HO.lst.inj (Option.some.inj h4))
  rw [List.length_map] at h5
  exact hl e (List.mem_of_getElem? h2) h5) (r.2 j b e h1 h2)⟩
end SC

set_option Elab.async false
set_option linter.all false
set_option maxRecDepth 100000
set_option maxHeartbeats 4000000
/-! All draws of small cups: sorted of lists of ints, all orders, all exchanges. -/
namespace SC
open PySem PySem.Spec PyProof.Rows L2 StX PySem.W
def zipA (ps : List Addr) (zs : List (List Int)) : List (Addr × List Int) := ps.zip zs
def leZ (p q : Addr × List Int) : Bool := decide (p.2 ≤ q.2)
/-- sorted(xs), xs a list of lists of ints -/
def rSortLL (K : PySem.W.Frag) : List V → Hp → VK → Prop := fun vs H Q => ∃ (a : Addr) (ps : List Addr) (zs : List (List Int)), vs = [V.ref a] ∧ SqL K H a (ps.map V.ref) ∧ Rws H ps zs ∧
  ∀ p, H p = none → Q (.ref p) (upd H p (.lst (((zipA ps zs).mergeSort leZ).map fun b => V.ref b.1)))
theorem each_of {α β : Type} {R : α → β → Prop} : ∀ {as : List α} {bs : List β}, as.length = bs.length → (∀ (i : Nat) a b, as[i]? = some a → bs[i]? = some b → R a b) → EachIs R as bs
  | [], [], _, _ => .nil
  | a :: as, b :: bs, hl, h => .cons (h 0 a b rfl rfl) (each_of (by simpa using hl) fun i x y h1 h2 => h (i + 1) x y h1 h2)
theorem each_refs {out : List Value} : ∀ {bs : List (Addr × List Int)}, EachIs (fun (v : Value) (b : Addr × List Int) => v = .ref b.1) out bs → Vals (bs.map fun b => V.ref b.1) out := by
  intro bs h
  induction h with
  | nil => exact .nil
  | cons h _ ih => subst h; exact .cons rfl ih
theorem cr_sortLL {X : Cx} (hc : X.calm = true) (hu : X.A.units + 64 < cLine) : CallR X (.builtin "sorted") (rSortLL X.K) := by
  intro pins s σ H vs us Q I r h
  obtain ⟨a, ps, zs, rfl, ha, rw, k⟩ := h
  obtain ⟨its, rv, hl, hz⟩ := I.list ha
  rw [Vals.ref1 r]
  have hz' : ps.length ≤ sizeLine := by rw [List.length_map] at hz; exact hz
  have bl : (zipA ps zs).length = ps.length := by unfold zipA; rw [List.length_zip, rw.1]; omega
  have il : its.length = (zipA ps zs).length := by rw [bl, ← rv.length, List.length_map]
  have at_ : ∀ (i : Nat) (v : Value) (b : Addr × List Int), its[i]? = some v → (zipA ps zs)[i]? = some b → v = .ref b.1 ∧ ∃ as, Reads s.heap v (ilD b.2) as := fun i v b h1 h2 => by
    unfold zipA at h2
    rw [List.getElem?_zip_eq_some] at h2
    have hx : (ps.map V.ref)[i]? = some (V.ref b.1) := by rw [List.getElem?_map, h2.1]; rfl
    have rr : RelV (V.ref b.1) v := by
      have := Vals.get rv hx
      obtain ⟨u, hu', ru⟩ := this
      rw [h1] at hu'
      cases hu'
      exact ru
    have : v = .ref b.1 := rr
    exact ⟨this, Dp.reads I (ilD b.2) _ _ (.lst (.inl (.inl (rw.2 i _ _ h2.1 h2.2))) (dp_ints b.2)) rr⟩
  refine sorted_data (β := Addr × List Int) (enc := fun b => ilD b.2) (R := fun v b => v = .ref b.1) hl.isList (each_of il fun i v b h1 h2 => (at_ i v b h1 h2).1) (each_of il fun i v b h1 h2 => (at_ i v b h1 h2).2) (fun x hx y hy => ?_) (.inr fun x hx => ?_) (by rw [bl]; exact hz') (fun b hb => ?_) fun out ho he => ?_
  · obtain ⟨p, _, rfl⟩ := List.mem_map.mp hx
    obtain ⟨q, _, rfl⟩ := List.mem_map.mp hy
    exact al_il _ _
  · obtain ⟨p, _, rfl⟩ := List.mem_map.mp hx
    exact ⟨(fun z => nomatch z), fun _ z => nomatch z⟩
  · have := dep_ints b.2
    show X.A.units + 2 + (PyData.list _).depth < _
    simp only [PyData.depth]
    omega
  · have e : (zipA ps zs).mergeSort (dataLe false fun b => ilD b.2) = (zipA ps zs).mergeSort leZ := by
      congr 1
      have := dataLe_rows (β := Addr × List Int) fun b => b.2
      funext p q
      exact congrFun (congrFun this p) q
    rw [e] at he
    have rv2 := each_refs he
    have hlen : ((((zipA ps zs).mergeSort leZ).map fun b => V.ref b.1)).length ≤ sizeLine := by rw [List.length_map, List.length_mergeSort, bl]; exact hz'
    obtain ⟨ep, he'⟩ := PyProof.Rows.sortedAll_at s.heap its out.toArray
    exact ⟨.ref _, upd H (s.heap.objs.size + 1) (.lst (((zipA ps zs).mergeSort leZ).map fun b => V.ref b.1)), I.laid (t' := s.toks) (fun _ _ => PyProof.Rows.sortedAll_old) (Nat.le_succ _) ⟨hlen, out, ep, rv2, by simpa using he'⟩, rfl, k _ (I.hok.fresh (Nat.le_succ _))⟩
theorem w_sortLL {K : PySem.W.Frag} {H : Hp} {Q : VK} {a : Addr} {ps : List Addr} {zs : List (List Int)} (h : SqL K H a (ps.map V.ref)) (rw : Rws H ps zs)
    (k : ∀ p H' ps' zs', Sm H H' → H p = none → zs'.Perm zs → zs'.Pairwise (· ≤ ·) → H' p = some (.lst (ps'.map V.ref)) → Rws H' ps' zs' → Q (.ref p) H') : rSortLL K [.ref a] H Q := by
  refine ⟨a, ps, zs, rfl, h, rw, fun p hp => ?_⟩
  have e := same_upd (o := .lst (((zipA ps zs).mergeSort leZ).map fun b => V.ref b.1)) hp
  have pm := List.mergeSort_perm (zipA ps zs) leZ
  have mem : ∀ b ∈ (zipA ps zs).mergeSort leZ, H b.1 = some (.lst (b.2.map V.int)) := fun b hb => by
    have := pm.mem_iff.mp hb
    obtain ⟨i, hi⟩ := List.getElem?_of_mem this
    unfold zipA at hi
    rw [List.getElem?_zip_eq_some] at hi
    exact rw.2 i _ _ hi.1 hi.2
  refine k p _ (((zipA ps zs).mergeSort leZ).map (·.1)) (((zipA ps zs).mergeSort leZ).map (·.2)) e hp ?_ ?_ ?_ ?_
  · refine (pm.map _).trans ?_
    unfold zipA
    rw [List.map_snd_zip (by rw [rw.1]; exact Nat.le_refl _)]
  · rw [List.pairwise_map]
    refine (List.pairwise_mergeSort (le := leZ) ?_ ?_ (zipA ps zs)).imp fun h => of_decide_eq_true h
    · intro x y z h1 h2
      exact decide_eq_true (List.le_trans (of_decide_eq_true h1) (of_decide_eq_true h2))
    · intro x y
      unfold leZ
      rw [Bool.or_eq_true, decide_eq_true_iff, decide_eq_true_iff]
      exact List.le_total _ _
  · rw [upd_same, List.map_map]
    rfl
  · refine ⟨by rw [List.length_map, List.length_map], fun j b z h1 h2 => ?_⟩
    rw [List.getElem?_map] at h1 h2
    obtain ⟨u, hu, rfl⟩ := Option.map_eq_some_iff.mp h1
    rw [hu] at h2
    cases h2
    exact e _ _ (mem u (List.mem_of_getElem? hu))
/-! ### all exchanges and all orders -/
def allS : Nat → List Int → List (List Int)
  | 0, xs => [xs]
  | L + 1, xs => (allS L (xs.take (2 ^ L))).flatMap fun one => (allS L (xs.drop (2 ^ L))).flatMap fun two => [one ++ two, two ++ one]
def ordsF : Nat → List Int → List (List Int)
  | 0, xs => [xs]
  | n + 1, xs => if xs.length < 2 then [xs] else (List.range xs.length).flatMap fun at_ => (ordsF n (xs.take at_ ++ xs.drop (at_ + 1))).map fun rest => xs.getD at_ 0 :: rest
/-- the bracket in plain arithmetic -/
def brP : Nat → List Int
  | 0 => [1]
  | n + 1 => (brP n).flatMap fun x => [x, 2 * (2 ^ n : Int) + 1 - x]
theorem brP_eq : ∀ n, brP n = brk n
  | 0 => rfl
  | n + 1 => by
    have q : brk (n + 1) = (brk n).flatMap fun x => [x, 2 * p2 (0 + (n : Int)) + 1 - x] := rfl
    rw [q, ← brP_eq n, Int.zero_add, p2_nat, Int.natCast_pow]
    rfl
end SC
namespace SC
open PySem PySem.Spec PyProof.Rows L2 StX
def nthAll (d : Nat) : List (List Int) := (List.range (2 ^ (bt d + d))).map (nthD d d 1)
def chkAll (d : Nat) : Bool := decide ((nthAll d).Perm (allS d (brk d))) && decide ((nthAll d).Pairwise (· ≤ ·))
theorem chk1 : chkAll 1 = true := by decide +kernel
theorem chk2 : chkAll 2 = true := by decide +kernel
theorem chk3 : chkAll 3 = true := by decide +kernel
theorem chk_all {d : Nat} (h : 1 ≤ d ∧ d ≤ 3) : (nthAll d).Perm (allS d (brk d)) ∧ (nthAll d).Pairwise (· ≤ ·) := by
  have q : chkAll d = true := by
    have : d = 1 ∨ d = 2 ∨ d = 3 := by omega
    rcases this with rfl | rfl | rfl
    · exact chk1
    · exact chk2
    · exact chk3
  unfold chkAll at q
  rw [Bool.and_eq_true] at q
  exact ⟨of_decide_eq_true q.1, of_decide_eq_true q.2⟩
theorem sorted_all {d : Nat} (h : 1 ≤ d ∧ d ≤ 3) {zs : List (List Int)} (hp : zs.Perm (allS d (brk d))) (hs : zs.Pairwise (· ≤ ·)) : zs = nthAll d := by
  obtain ⟨a, b⟩ := chk_all h
  exact List.Perm.eq_of_pairwise (le := (· ≤ ·)) (fun x y _ _ h1 h2 => List.le_antisymm h1 h2) hs b (hp.trans a.symm)
theorem ords2 : ∀ r ∈ ordsF 2 [1, 2], IsDr 1 r := by
  have : (ordsF 2 [1, 2]).all (fun r => decide (r.Perm (brk 1))) = true := by decide +kernel
  intro r hr
  exact ⟨of_decide_eq_true (List.all_eq_true.mp this r hr)⟩
theorem ords4 : ∀ r ∈ ordsF 4 [1, 2, 3, 4], IsDr 2 r := by
  have : (ordsF 4 [1, 2, 3, 4]).all (fun r => decide (r.Perm (brk 2))) = true := by decide +kernel
  intro r hr
  exact ⟨of_decide_eq_true (List.all_eq_true.mp this r hr)⟩
theorem allS_len : ∀ {L : Nat} {xs : List Int}, xs.length = 2 ^ L → ∀ z ∈ allS L xs, z.length = 2 ^ L
  | 0, xs, h, z, hz => by rw [List.mem_singleton.mp hz]; exact h
  | L + 1, xs, h, z, hz => by
    have e2 : 2 ^ (L + 1) = 2 ^ L + 2 ^ L := by rw [Nat.pow_succ]; omega
    obtain ⟨one, h1, hz⟩ := List.mem_flatMap.mp hz
    obtain ⟨two, h2, hz⟩ := List.mem_flatMap.mp hz
    have a := allS_len (by rw [List.length_take]; omega) one h1
    have b := allS_len (by rw [List.length_drop]; omega) two h2
    simp only [List.mem_cons, List.not_mem_nil, or_false] at hz
    rcases hz with rfl | rfl <;> rw [List.length_append, a, b, e2]
theorem allS_num : ∀ {L : Nat} {xs : List Int}, (allS L xs).length = 2 ^ (bt L + L)
  | 0, xs => rfl
  | L + 1, xs => by
    show ((allS L (xs.take (2 ^ L))).flatMap fun one => (allS L (xs.drop (2 ^ L))).flatMap fun two => [one ++ two, two ++ one]).length = _
    have e : ∀ (S2 : List (List Int)) (one : List Int), (S2.flatMap fun two => [one ++ two, two ++ one]).length = 2 * S2.length := fun S2 one => by
      induction S2 with
      | nil => rfl
      | cons a r ih => rw [List.flatMap_cons, List.length_append, ih, List.length_cons]; simp; omega
    have e2 : ∀ (S1 : List (List Int)) (N : Nat) (g : List Int → List (List Int)), (∀ o, (g o).length = N) → (S1.flatMap g).length = S1.length * N := fun S1 N g hg => by
      induction S1 with
      | nil => simp
      | cons a r ih => rw [List.flatMap_cons, List.length_append, ih, hg, List.length_cons, Nat.succ_mul, Nat.add_comm]
    rw [e2 _ (2 * 2 ^ (bt L + L)) _ (fun o => by rw [e, allS_num]), allS_num]
    show _ = 2 ^ (bt L + (bt L + L) + (L + 1))
    rw [show bt L + (bt L + L) + (L + 1) = (bt L + L) + (bt L + L) + 1 by omega, Nat.pow_succ, Nat.pow_add 2 (bt L + L) (bt L + L), Nat.mul_comm 2, Nat.mul_assoc]
/-- rows of ints are not a list of references -/
theorem Rws.apart {H : Hp} {ads fs : List Addr} {es : List (List Int)} {F : Addr} (r : Rws H ads es) (hF : H F = some (.lst (fs.map V.ref))) (ne : ∀ e ∈ es, 0 < e.length) : ∀ b ∈ ads, b ≠ F := fun b hb z => by
  obtain ⟨j, hj⟩ := List.getElem?_of_mem hb
  have lj := (List.getElem?_eq_some_iff.mp hj).1
  rw [r.1] at lj
  have h := r.2 j b _ hj (List.getElem?_eq_getElem lj)
  have n := ne _ (List.getElem_mem lj)
  rw [z, hF] at h
  have h := HO.lst.inj (Option.some.inj h)
  generalize es[j] = e at h n
  match fs, e, n, h with
  | f :: fs, x :: e, _, h => cases h
  | [], x :: e, _, h => cases h
  | _, [], n, _ => exact absurd n (by decide)
theorem Rws.app {H : Hp} {a1 a2 : List Addr} {e1 e2 : List (List Int)} (r : Rws H a1 e1) (s : Rws H a2 e2) : Rws H (a1 ++ a2) (e1 ++ e2) := by
  refine ⟨by rw [List.length_append, List.length_append, r.1, s.1], fun j b e h1 h2 => ?_⟩
  by_cases c : j < a1.length
  · rw [List.getElem?_append_left c] at h1
    rw [List.getElem?_append_left (by rw [← r.1]; exact c)] at h2
    exact r.2 j b e h1 h2
  · rw [List.getElem?_append_right (by omega)] at h1
    rw [List.getElem?_append_right (by rw [← r.1]; omega), ← r.1] at h2
    exact s.2 _ b e h1 h2
theorem Rws.get {H : Hp} {ads : List Addr} {es : List (List Int)} {j : Nat} {x : V} (r : Rws H ads es) (h : (ads.map V.ref)[j]? = some x) : ∃ p e, x = .ref p ∧ es[j]? = some e ∧ H p = some (.lst (e.map V.int)) := by
  rw [List.getElem?_map] at h
  obtain ⟨p, hp, rfl⟩ := Option.map_eq_some_iff.mp h
  have lj := (List.getElem?_eq_some_iff.mp hp).1
  rw [r.1] at lj
  exact ⟨p, _, rfl, List.getElem?_eq_getElem lj, r.2 j p _ hp (List.getElem?_eq_getElem lj)⟩
end SC
namespace SC
open PySem PySem.Spec PyProof.Rows L2 StX
theorem Rws.kpF {H H' : Hp} {F : Addr} {ads : List Addr} {es : List (List Int)} (r : Rws H ads es) (ne : ∀ b ∈ ads, b ≠ F) (k : Kp F H H') : Rws H' ads es :=
  ⟨r.1, fun j b e h1 h2 => k _ _ (ne b (List.mem_of_getElem? h1)) (r.2 j b e h1 h2)⟩
theorem flat_lenN {α β : Type} {N : Nat} {g : α → List β} : ∀ {S : List α}, (∀ o, (g o).length = N) → (S.flatMap g).length = S.length * N
  | [], _ => by simp
  | a :: r, hg => by rw [List.flatMap_cons, List.length_append, flat_lenN hg, hg, List.length_cons, Nat.succ_mul, Nat.add_comm]
theorem take_flat {α β : Type} {g : α → List β} {S : List α} {i : Nat} {x : α} (h : S[i]? = some x) : (S.take (i + 1)).flatMap g = (S.take i).flatMap g ++ g x := by
  rw [List.take_add_one, h, List.flatMap_append]
  simp
end SC
namespace SC
theorem ords_num : ∀ {n : Nat} {xs : List Int}, n ≤ 4 → (ordsF n xs).length ≤ (xs.length + 1) ^ n
  | 0, xs, _ => by show 1 ≤ 1; exact Nat.le_refl _
  | n + 1, xs, h => by
    unfold ordsF
    split
    · rw [Nat.pow_succ]
      have : 0 < (xs.length + 1) ^ n := Nat.pow_pos (by omega)
      show 1 ≤ _
      exact Nat.succ_le_of_lt (Nat.mul_pos this (by omega))
    · have le : ∀ (S : List Nat) (N : Nat) (g : Nat → List (List Int)), (∀ o ∈ S, (g o).length ≤ N) → (S.flatMap g).length ≤ S.length * N := fun S N g hg => by
        induction S with
        | nil => simp
        | cons a r ih =>
          rw [List.flatMap_cons, List.length_append, List.length_cons, Nat.succ_mul, Nat.add_comm]
          exact Nat.add_le_add (ih fun o ho => hg o (List.mem_cons_of_mem _ ho)) (hg a List.mem_cons_self)
      refine Nat.le_trans (le _ ((xs.length + 1) ^ n) _ fun o ho => ?_) ?_
      · rw [List.length_map]
        refine Nat.le_trans (ords_num (by omega)) ?_
        have := List.mem_range.mp ho
        exact Nat.pow_le_pow_left (by rw [List.length_append, List.length_take, List.length_drop]; omega) n
      · rw [List.length_range, Nat.pow_succ, Nat.mul_comm]
        exact Nat.mul_le_mul_left _ (by omega)
end SC
namespace SC
theorem flat_le {α β : Type} {N : Nat} {g : α → List β} : ∀ {S : List α}, (∀ o ∈ S, (g o).length ≤ N) → (S.flatMap g).length ≤ S.length * N
  | [], _ => by simp
  | a :: r, hg => by
    rw [List.flatMap_cons, List.length_append, List.length_cons, Nat.succ_mul, Nat.add_comm]
    exact Nat.add_le_add (flat_le fun o ho => hg o (List.mem_cons_of_mem _ ho)) (hg a List.mem_cons_self)
theorem ords_len : ∀ {n : Nat} {xs : List Int}, ∀ z ∈ ordsF n xs, z.length = xs.length
  | 0, xs, z, hz => by rw [List.mem_singleton.mp hz]
  | n + 1, xs, z, hz => by
    unfold ordsF at hz
    split at hz
    · rw [List.mem_singleton.mp hz]
    · obtain ⟨k, hk, hz⟩ := List.mem_flatMap.mp hz
      obtain ⟨u, hu, rfl⟩ := List.mem_map.mp hz
      have := ords_len u hu
      have := List.mem_range.mp hk
      rw [List.length_cons, ords_len u hu, List.length_append, List.length_take, List.length_drop]
      omega
end SC

set_option Elab.async false
set_option linter.all false
set_option maxRecDepth 100000
set_option maxHeartbeats 4000000
set_option exponentiation.threshold 2000
namespace My
open PySem PySem.Spec PyProof.Rows L2 SC StX
local macro_rules | `(tactic| walk_at "s1") => `(tactic| first
  | (with_reducible refine SC.w_seq ?_)
  | (with_reducible refine SC.w_op ?_)
  | ((with_reducible refine SC.w_var (v := ?v0) ?vh ?_); (case vh => rfl))
  | (with_reducible refine SC.w_c ?_)
  | (with_reducible refine SC.w_i0 ?_)
  | (with_reducible refine SC.w_eq ?_)
  | (with_reducible refine SC.w_ne ?_)
  | (with_reducible refine SC.w_cons ?_)
  | (with_reducible refine SC.w_nil ?_)
  | (with_reducible refine SC.w_call ?_)
  | (with_reducible refine SC.w_cb ?_)
  | (with_reducible refine SC.w_asg ?_)
  | (with_reducible refine SC.w_gname ?_)
  | (with_reducible refine SC.w_ret ?_)
  | (with_reducible refine SC.w_gsub ?_)
  | (with_reducible refine SC.w_callR ?_)
  | (with_reducible refine SC.w_callRk ?_)
  | (with_reducible refine SC.w_star ?_)
  | (with_reducible refine SC.w_bits ?_)
  | (with_reducible refine SC.w_isi_bb ?_)
  | (with_reducible refine SC.w_eqB ?_)
  | (with_reducible refine SC.w_neB ?_)
  | (with_reducible refine SC.w_callN ?_)
  | (with_reducible refine SC.w_lc1 ?_)
  | (with_reducible refine SC.w_lc2 ?_)
  | (with_reducible refine SC.w_lcL ?_)
  | (with_reducible refine SC.w_lrg1 ?_)
  | (with_reducible refine SC.w_lrg2 ?_)
  | (with_reducible refine SC.w_slice ?_)
  | (with_reducible refine SC.w_nopart ?_)
  | (with_reducible refine SC.w_part ?_)
  | (with_reducible refine SC.w_isi ?_)
  | (with_reducible refine SC.w_for3 ?_)
  | (with_reducible refine SC.w_forL ?_)
  | (with_reducible refine SC.w_forT ?_)
  | (with_reducible refine SC.w_par3 ?_)
  | (with_reducible refine SC.w_three ?_)
  | (with_reducible refine SC.w_callS ?_)
  | (with_reducible refine SC.w_sdput ?_)
  | (with_reducible refine SC.w_dget' ?_)
  | (with_reducible refine SC.w_gcons ?_)
  | (with_reducible refine SC.w_gnil ?_)
  | (with_reducible refine SC.w_par ?_)
  | (with_reducible refine SC.w_two ?_)
  | (with_reducible refine SC.w_for1 ?_)
  | (with_reducible refine SC.w_for2 ?_)
  | (with_reducible refine SC.w_tup ?_)
  | (with_reducible refine SC.w_lst' ?_)
  | (with_reducible refine SC.w_drop ?_)
  | (with_reducible refine SC.w_ifS ?_)
  | (with_reducible refine SC.w_test ?_)
  | (with_reducible refine SC.w_isb ?_)
  | (with_reducible refine SC.w_not ?_)
  | (with_reducible refine SC.w_or ?_)
  | (with_reducible refine SC.w_and ?_)
  | (with_reducible refine SC.w_tB ?_)
  | (with_reducible refine SC.w_ife ?_)
  | (with_reducible refine SC.w_un ?_)
  | (with_reducible refine SC.w_u ?_)
  | (with_reducible refine SC.w_max2 ?_)
  | (with_reducible refine SC.w_min2 ?_)
  | (with_reducible refine SC.w_abs ?_)
  | (with_reducible refine SC.w_isi_ii ?_)
  | (with_reducible refine SC.w_isi_ib ?_)
  | (with_reducible refine SC.w_andV ?_)
  | (with_reducible refine SC.w_orV ?_)
  | (with_reducible refine SC.w_notV ?_)
  | (with_reducible refine SC.w_chain ?_)
  | (with_reducible refine SC.w_next ?_)
  | ((with_reducible refine SC.w_i ?ch ?_); (case ch => walk_at "side")))
local macro_rules | `(tactic| walk_at "s") => `(tactic| repeat (walk_at "s1"))
local macro_rules | `(tactic| walk_at "side") => `(tactic| first
  | assumption | omega | decide | exact SC.p2_pos _ | exact SC.p2_div (by omega) | exact Or.inl (by decide) | exact Or.inr (by decide) | (with_unfolding_all decide)
  | (refine ⟨?_, ?_⟩ <;> first | assumption | omega | decide | (with_unfolding_all decide)))

local macro_rules | `(tactic| walk_at "ne") => `(tactic| first
  | assumption
  | exact Ne.symm (by assumption)
  | exact SC.src_ne (by assumption) (by assumption)
  | ((with_reducible apply SC.ne_src); (focus assumption); walk_at "src")
  | ((with_reducible apply SC.ne_new'); (focus assumption); walk_at "at")
  | (apply Ne.symm; (with_reducible apply SC.ne_new'); (focus assumption); walk_at "at"))
local macro_rules | `(tactic| walk_at "at") => `(tactic| first
  | assumption
  | exact upd_same
  | ((with_reducible apply SC.same_at); (focus assumption); walk_at "at")
  | ((with_reducible apply SC.upd_at); (focus walk_at "ne"); walk_at "at")
  | ((with_reducible apply SC.kp_at); (focus assumption); (focus walk_at "ne"); walk_at "at"))
local macro_rules | `(tactic| walk_at "src") => `(tactic| first
  | assumption
  | ((with_reducible apply SC.same_src); (focus assumption); walk_at "src")
  | ((with_reducible apply SC.src_upd); (focus walk_at "ne"); walk_at "src"))
local macro_rules | `(tactic| walk_at "same") => `(tactic| first
  | assumption
  | exact Sm.refl _
  | ((with_reducible refine Sm.trans ?_ (by assumption)); walk_at "same"))
local macro_rules | `(tactic| walk_at "kp") => `(tactic| first
  | assumption
  | exact SC.Kp.refl _ _
  | exact SC.Kp.of_same (by assumption)
  | ((with_reducible refine SC.Kp.trans ?_ (by first | assumption | exact SC.Kp.of_same (by assumption))); walk_at "kp"))
local macro_rules | `(tactic| walk_at "seq") => `(tactic| first
  | assumption
  | ((with_reducible apply SC.sq_of); walk_at "at")
  | ((with_reducible apply SC.same_seq); (focus assumption); walk_at "seq"))
local macro_rules | `(tactic| walk_at "seqT") => `(tactic| first
  | assumption
  | ((with_reducible apply SC.sqT_of); walk_at "at")
  | ((with_reducible apply SC.same_seqT); (focus assumption); walk_at "seqT"))
local macro_rules | `(tactic| walk_at "pre") => `(tactic| first
  | exact True.intro | assumption | omega | exact SC.p2_pos _ | exact SC.p2_lim (by omega) | exact SC.small_lim (by omega) | exact SC.wide_lim (by omega)
  | (with_reducible refine And.intro ?_ ?_ <;> walk_at "pre"))
local macro_rules | `(tactic| walk_at "len") => `(tactic| first | decide | (simp only [List.length_cons, List.length_nil]; decide) | (simp only [List.length_cons, List.length_nil, List.length_map]; omega))
local macro_rules | `(tactic| walk_at "rfl") => `(tactic| exact rfl)
local macro_rules | `(tactic| walk_at "r1") => `(tactic| first
  | walk_at "s1"
  | (with_reducible refine SC.w_bm ?_)
  | (with_reducible refine SC.w_lz ?_)
  | (with_reducible refine SC.w_lstS ?_)
  | (with_reducible refine SC.w_callSS ?_)
  | (with_reducible refine SC.w_callRS ?_)
  | (with_reducible refine SC.w_callNS ?_)
  | ((with_reducible refine SC.w_newLS ?_ fun _ _ _ _ _ _ => ?_); (focus walk_at "len"))
  | (with_reducible refine SC.w_gx ?_)
  | ((with_reducible apply SC.w_bml); (focus walk_at "seq"))
  | ((with_reducible refine SC.w_sp1 ?_ fun _ _ => ?_); (focus walk_at "pre"))
  | ((with_reducible refine SC.w_sp2 ?_ fun _ _ => ?_); (focus walk_at "pre"))
  | ((with_reducible refine SC.w_sp3 ?_ fun _ _ => ?_); (focus walk_at "pre"))
  | ((with_reducible refine SC.w_sp4 ?_ fun _ _ => ?_); (focus walk_at "pre"))
  | ((with_reducible apply SC.w_draw); (focus walk_at "src"); (focus walk_at "pre"); (focus walk_at "pre"); (focus omega); (focus intro _ _ _ _ _ _))
  | ((with_reducible refine SC.w_newZ ?_ fun _ _ _ _ _ => ?_); (focus walk_at "len"))
  | ((with_reducible refine SC.w_newTZ ?_ fun _ _ _ _ _ => ?_); (focus walk_at "len"))
  | ((with_reducible apply SC.w_ixL); (focus walk_at "seq"); (focus walk_at "rfl"))
  | ((with_reducible apply SC.w_lenL); (focus walk_at "seq"))
  | ((with_reducible apply SC.w_lenT); (focus walk_at "seqT"))
  | (with_reducible refine SC.ifNT ?_)
  | (with_reducible refine SC.ifNF ?_)
  | (with_reducible refine iteF ?_)
  | (with_reducible refine iteT ?_)
  | ((with_reducible refine SC.w_nno ?_ ?_); (focus first | omega | (simp; done)))
  | ((with_reducible refine SC.w_no ?_ ?_); (focus first | omega | (simp; done)))
  | ((with_reducible refine SC.w_yes ?_ ?_); (focus first | omega | (simp; done)))
  | ((with_reducible refine SC.w_modE ?_ ?_); (focus first | omega | exact SC.p2_pos _))
  | ((with_reducible refine SC.w_i (SC.cdivB ?_ ?_) ?_); (focus walk_at "pre"); (focus walk_at "pre"))
  | ((with_reducible refine SC.w_i (SC.cmulB ?_ ?_ ?_ ?_) ?_); (focus walk_at "pre"); (focus walk_at "pre"); (focus walk_at "pre"); (focus walk_at "pre")))
local macro_rules | `(tactic| walk_at "r") => `(tactic| repeat (walk_at "r1"))

def topS (i : Nat) : Stmt := PySem.Challenge.pw_seedcup_k35_draws_by_all_lists.main.body.getD i (.Pass ⟨0, 0, 0, 0⟩)
abbrev s_is_integer : Stmt := topS 11
abbrev nm_is_integer : List Str := ["value"]
theorem sc_is_integer : FnScope nm_is_integer ["value"] (defScope s_is_integer) := ⟨rfl, rfl, rfl, by decide +kernel, rfl, by decide +kernel, by decide +kernel⟩
abbrev s_is_integer_between : Stmt := topS 12
abbrev nm_is_integer_between : List Str := ["value", "low", "high"]
theorem sc_is_integer_between : FnScope nm_is_integer_between ["value", "low", "high"] (defScope s_is_integer_between) := ⟨rfl, rfl, rfl, by decide +kernel, rfl, by decide +kernel, by decide +kernel⟩
abbrev s_is_draw : Stmt := topS 13
abbrev nm_is_draw : List Str := ["value", "seed"]
theorem sc_is_draw : FnScope nm_is_draw ["value"] (defScope s_is_draw) := ⟨rfl, rfl, rfl, by decide +kernel, rfl, by decide +kernel, by decide +kernel⟩
abbrev s_check_rounds : Stmt := topS 14
abbrev nm_check_rounds : List Str := ["rounds"]
theorem sc_check_rounds : FnScope nm_check_rounds ["rounds"] (defScope s_check_rounds) := ⟨rfl, rfl, rfl, by decide +kernel, rfl, by decide +kernel, by decide +kernel⟩
abbrev s_check_few_rounds : Stmt := topS 15
abbrev nm_check_few_rounds : List Str := ["rounds", "limit"]
theorem sc_check_few_rounds : FnScope nm_check_few_rounds ["rounds", "limit"] (defScope s_check_few_rounds) := ⟨rfl, rfl, rfl, by decide +kernel, rfl, by decide +kernel, by decide +kernel⟩
abbrev s_check_seed : Stmt := topS 16
abbrev nm_check_seed : List Str := ["rounds", "seed"]
theorem sc_check_seed : FnScope nm_check_seed ["rounds", "seed"] (defScope s_check_seed) := ⟨rfl, rfl, rfl, by decide +kernel, rfl, by decide +kernel, by decide +kernel⟩
abbrev s_check_index : Stmt := topS 17
abbrev nm_check_index : List Str := ["size", "index"]
theorem sc_check_index : FnScope nm_check_index ["size", "index"] (defScope s_check_index) := ⟨rfl, rfl, rfl, by decide +kernel, rfl, by decide +kernel, by decide +kernel⟩
abbrev s_check_draw : Stmt := topS 18
abbrev nm_check_draw : List Str := ["draw"]
theorem sc_check_draw : FnScope nm_check_draw ["draw"] (defScope s_check_draw) := ⟨rfl, rfl, rfl, by decide +kernel, rfl, by decide +kernel, by decide +kernel⟩
abbrev s_group_of : Stmt := topS 20
abbrev nm_group_of : List Str := ["groups", "seed"]
theorem sc_group_of : FnScope nm_group_of ["groups", "seed"] (defScope s_group_of) := ⟨rfl, rfl, rfl, by decide +kernel, rfl, by decide +kernel, by decide +kernel⟩
abbrev s_nth_dealt : Stmt := topS 21
abbrev nm_nth_dealt : List Str := ["groups", "group", "index"]
theorem sc_nth_dealt : FnScope nm_nth_dealt ["groups", "group", "index"] (defScope s_nth_dealt) := ⟨rfl, rfl, rfl, by decide +kernel, rfl, by decide +kernel, by decide +kernel⟩
abbrev s_turned : Stmt := topS 22
abbrev nm_turned : List Str := ["groups", "row", "column"]
theorem sc_turned : FnScope nm_turned ["groups", "row", "column"] (defScope s_turned) := ⟨rfl, rfl, rfl, by decide +kernel, rfl, by decide +kernel, by decide +kernel⟩
abbrev s_place_of : Stmt := topS 24
abbrev nm_place_of : List Str := ["rounds", "seed", "place", "level", "half"]
theorem sc_place_of : FnScope nm_place_of ["rounds", "seed"] (defScope s_place_of) := ⟨rfl, rfl, rfl, by decide +kernel, rfl, by decide +kernel, by decide +kernel⟩
abbrev s_count_halves : Stmt := topS 26
abbrev nm_count_halves : List Str := ["rounds", "stage"]
theorem sc_count_halves : FnScope nm_count_halves ["rounds", "stage"] (defScope s_count_halves) := ⟨rfl, rfl, rfl, by decide +kernel, rfl, by decide +kernel, by decide +kernel⟩
abbrev s_own_half : Stmt := topS 27
abbrev nm_own_half : List Str := ["rounds", "stage", "seed"]
theorem sc_own_half : FnScope nm_own_half ["rounds", "stage", "seed"] (defScope s_own_half) := ⟨rfl, rfl, rfl, by decide +kernel, rfl, by decide +kernel, by decide +kernel⟩
abbrev s_other_half : Stmt := topS 28
abbrev nm_other_half : List Str := ["rounds", "stage", "seed"]
theorem sc_other_half : FnScope nm_other_half ["rounds", "stage", "seed"] (defScope s_other_half) := ⟨rfl, rfl, rfl, by decide +kernel, rfl, by decide +kernel, by decide +kernel⟩
abbrev s_beside : Stmt := topS 29
abbrev nm_beside : List Str := ["rounds", "stage", "half"]
theorem sc_beside : FnScope nm_beside ["rounds", "stage", "half"] (defScope s_beside) := ⟨rfl, rfl, rfl, by decide +kernel, rfl, by decide +kernel, by decide +kernel⟩
abbrev s_is_standard : Stmt := topS 32
abbrev nm_is_standard : List Str := ["draw"]
theorem sc_is_standard : FnScope nm_is_standard ["draw"] (defScope s_is_standard) := ⟨rfl, rfl, rfl, by decide +kernel, rfl, by decide +kernel, by decide +kernel⟩
abbrev s_why_not_standard : Stmt := topS 33
abbrev nm_why_not_standard : List Str := ["draw", "rounds", "places", "seed", "j", "i"]
theorem sc_why_not_standard : FnScope nm_why_not_standard ["draw"] (defScope s_why_not_standard) := ⟨rfl, rfl, rfl, by decide +kernel, rfl, by decide +kernel, by decide +kernel⟩
abbrev s_nth_draw : Stmt := topS 34
abbrev nm_nth_draw : List Str := ["rounds", "index"]
theorem sc_nth_draw : FnScope nm_nth_draw ["rounds", "index"] (defScope s_nth_draw) := ⟨rfl, rfl, rfl, by decide +kernel, rfl, by decide +kernel, by decide +kernel⟩
abbrev s_rank_draw : Stmt := topS 35
abbrev nm_rank_draw : List Str := ["draw"]
theorem sc_rank_draw : FnScope nm_rank_draw ["draw"] (defScope s_rank_draw) := ⟨rfl, rfl, rfl, by decide +kernel, rfl, by decide +kernel, by decide +kernel⟩
abbrev s_count_levels : Stmt := topS 36
abbrev nm_count_levels : List Str := ["seeds"]
theorem sc_count_levels : FnScope nm_count_levels ["seeds"] (defScope s_count_levels) := ⟨rfl, rfl, rfl, by decide +kernel, rfl, by decide +kernel, by decide +kernel⟩
abbrev s_common_level : Stmt := topS 37
abbrev nm_common_level : List Str := ["first", "second"]
theorem sc_common_level : FnScope nm_common_level ["first", "second"] (defScope s_common_level) := ⟨rfl, rfl, rfl, by decide +kernel, rfl, by decide +kernel, by decide +kernel⟩
abbrev s_count_matches : Stmt := topS 38
abbrev nm_count_matches : List Str := ["level"]
theorem sc_count_matches : FnScope nm_count_matches ["level"] (defScope s_count_matches) := ⟨rfl, rfl, rfl, by decide +kernel, rfl, by decide +kernel, by decide +kernel⟩
abbrev s_nth_order : Stmt := topS 39
abbrev nm_nth_order : List Str := ["rounds", "level", "block", "index", "bits", "order", "lower", "part"]
theorem sc_nth_order : FnScope nm_nth_order ["rounds", "level", "block", "index"] (defScope s_nth_order) := ⟨rfl, rfl, rfl, by decide +kernel, rfl, by decide +kernel, by decide +kernel⟩
abbrev s_rank_order : Stmt := topS 40
abbrev nm_rank_order : List Str := ["rounds", "order", "level", "index", "lower", "half"]
theorem sc_rank_order : FnScope nm_rank_order ["rounds", "order"] (defScope s_rank_order) := ⟨rfl, rfl, rfl, by decide +kernel, rfl, by decide +kernel, by decide +kernel⟩
abbrev s_law_cell : Stmt := topS 42
abbrev nm_law_cell : List Str := ["script", "k"]
theorem sc_law_cell : FnScope nm_law_cell ["script", "k"] (defScope s_law_cell) := ⟨rfl, rfl, rfl, by decide +kernel, rfl, by decide +kernel, by decide +kernel⟩
abbrev s_law_source : Stmt := topS 43
abbrev nm_law_source : List Str := ["cell"]
theorem sc_law_source : FnScope nm_law_source ["cell"] (defScope s_law_source) := ⟨rfl, rfl, rfl, by decide +kernel, rfl, by decide +kernel, by decide +kernel⟩
abbrev s_law_draw : Stmt := topS 44
abbrev nm_law_draw : List Str := ["source", "bound", "digit", "mixed"]
theorem sc_law_draw : FnScope nm_law_draw ["source", "bound"] (defScope s_law_draw) := ⟨rfl, rfl, rfl, by decide +kernel, rfl, by decide +kernel, by decide +kernel⟩
abbrev s_law_power : Stmt := topS 45
abbrev nm_law_power : List Str := ["many", "found", "turn"]
theorem sc_law_power : FnScope nm_law_power ["many"] (defScope s_law_power) := ⟨rfl, rfl, rfl, by decide +kernel, rfl, by decide +kernel, by decide +kernel⟩
abbrev s_law_bracket : Stmt := topS 46
abbrev nm_law_bracket : List Str := ["size", "found", "turn", "longer", "who"]
theorem sc_law_bracket : FnScope nm_law_bracket ["size"] (defScope s_law_bracket) := ⟨rfl, rfl, rfl, by decide +kernel, rfl, by decide +kernel, by decide +kernel⟩
abbrev s_law_swapped : Stmt := topS 47
abbrev nm_law_swapped : List Str := ["source", "row", "half", "parts"]
theorem sc_law_swapped : FnScope nm_law_swapped ["source", "row"] (defScope s_law_swapped) := ⟨rfl, rfl, rfl, by decide +kernel, rfl, by decide +kernel, by decide +kernel⟩
abbrev s_law_all_swapped : Stmt := topS 48
abbrev nm_law_all_swapped : List Str := ["row", "half", "found", "others", "one", "two"]
theorem sc_law_all_swapped : FnScope nm_law_all_swapped ["row"] (defScope s_law_all_swapped) := ⟨rfl, rfl, rfl, by decide +kernel, rfl, by decide +kernel, by decide +kernel⟩
abbrev s_law_wrong_places : Stmt := topS 49
abbrev nm_law_wrong_places : List Str := ["row", "due", "at", "who", "later", "earlier", "own", "wanted"]
theorem sc_law_wrong_places : FnScope nm_law_wrong_places ["row"] (defScope s_law_wrong_places) := ⟨rfl, rfl, rfl, by decide +kernel, rfl, by decide +kernel, by decide +kernel⟩
abbrev s_law_bracket_of : Stmt := topS 50
abbrev nm_law_bracket_of : List Str := ["length", "found", "longer", "who"]
theorem sc_law_bracket_of : FnScope nm_law_bracket_of ["length"] (defScope s_law_bracket_of) := ⟨rfl, rfl, rfl, by decide +kernel, rfl, by decide +kernel, by decide +kernel⟩
abbrev s_law_mixed : Stmt := topS 51
abbrev nm_law_mixed : List Str := ["source", "things", "left", "turn"]
theorem sc_law_mixed : FnScope nm_law_mixed ["source", "things"] (defScope s_law_mixed) := ⟨rfl, rfl, rfl, by decide +kernel, rfl, by decide +kernel, by decide +kernel⟩
abbrev s_law_near_draw : Stmt := topS 52
abbrev nm_law_near_draw : List Str := ["source", "size", "row", "way", "at", "to", "width", "low", "high", "step", "kept_seed"]
theorem sc_law_near_draw : FnScope nm_law_near_draw ["source", "size"] (defScope s_law_near_draw) := ⟨rfl, rfl, rfl, by decide +kernel, rfl, by decide +kernel, by decide +kernel⟩
abbrev s_law_orders : Stmt := topS 53
abbrev nm_law_orders : List Str := ["things", "found", "at", "thing", "rest"]
theorem sc_law_orders : FnScope nm_law_orders ["things"] (defScope s_law_orders) := ⟨rfl, rfl, rfl, by decide +kernel, rfl, by decide +kernel, by decide +kernel⟩
abbrev s_law_judged : Stmt := topS 54
abbrev nm_law_judged : List Str := ["row", "due", "kept", "told"]
theorem sc_law_judged : FnScope nm_law_judged ["row"] (defScope s_law_judged) := ⟨rfl, rfl, rfl, by decide +kernel, rfl, by decide +kernel, by decide +kernel⟩
abbrev s_law_numbered : Stmt := topS 55
abbrev nm_law_numbered : List Str := ["size", "rows", "number", "row", "found"]
theorem sc_law_numbered : FnScope nm_law_numbered ["size"] (defScope s_law_numbered) := ⟨rfl, rfl, rfl, by decide +kernel, rfl, by decide +kernel, by decide +kernel⟩
abbrev s_law : Stmt := topS 56
abbrev nm_law : List Str := ["script", "row", "size", "k", "source", "turn"]
theorem sc_law : FnScope nm_law ["script"] (defScope s_law) := ⟨rfl, rfl, rfl, by decide +kernel, rfl, by decide +kernel, by decide +kernel⟩
structure TX (K : PySem.W.Frag) (mg : Str → Option Value) (base : Heap) (fa : Nat → Addr) (fd : Nat → FuncData) (fc : Nat → Addr) : Prop where
  F_is_integer : Fun K "is_integer" "is_integer" s_is_integer (fa 0) (fd 0)
  g_is_integer : mg "is_integer" = some (.ref (fa 0))
  F_is_integer_between : Fun K "is_integer_between" "is_integer_between" s_is_integer_between (fa 1) (fd 1)
  g_is_integer_between : mg "is_integer_between" = some (.ref (fa 1))
  F_is_draw : Fun K "is_draw" "is_draw" s_is_draw (fa 2) (fd 2)
  g_is_draw : mg "is_draw" = some (.ref (fa 2))
  F_check_rounds : Fun K "check_rounds" "check_rounds" s_check_rounds (fa 3) (fd 3)
  g_check_rounds : mg "check_rounds" = some (.ref (fa 3))
  F_check_few_rounds : Fun K "check_few_rounds" "check_few_rounds" s_check_few_rounds (fa 4) (fd 4)
  g_check_few_rounds : mg "check_few_rounds" = some (.ref (fa 4))
  F_check_seed : Fun K "check_seed" "check_seed" s_check_seed (fa 5) (fd 5)
  g_check_seed : mg "check_seed" = some (.ref (fa 5))
  F_check_index : Fun K "check_index" "check_index" s_check_index (fa 6) (fd 6)
  g_check_index : mg "check_index" = some (.ref (fa 6))
  F_check_draw : Fun K "check_draw" "check_draw" s_check_draw (fa 7) (fd 7)
  g_check_draw : mg "check_draw" = some (.ref (fa 7))
  F_group_of : Fun K "group_of" "group_of" s_group_of (fa 8) (fd 8)
  g_group_of : mg "group_of" = some (.ref (fa 8))
  F_nth_dealt : Fun K "nth_dealt" "nth_dealt" s_nth_dealt (fa 9) (fd 9)
  g_nth_dealt : mg "nth_dealt" = some (.ref (fa 9))
  F_turned : Fun K "_turned" "_turned" s_turned (fa 10) (fd 10)
  g_turned : mg "_turned" = some (.ref (fa 10))
  F_place_of : Fun K "place_of" "place_of" s_place_of (fa 11) (fd 11)
  g_place_of : mg "place_of" = some (.ref (fa 11))
  F_count_halves : Fun K "count_halves" "count_halves" s_count_halves (fa 12) (fd 12)
  g_count_halves : mg "count_halves" = some (.ref (fa 12))
  F_own_half : Fun K "own_half" "own_half" s_own_half (fa 13) (fd 13)
  g_own_half : mg "own_half" = some (.ref (fa 13))
  F_other_half : Fun K "other_half" "other_half" s_other_half (fa 14) (fd 14)
  g_other_half : mg "other_half" = some (.ref (fa 14))
  F_beside : Fun K "_beside" "_beside" s_beside (fa 15) (fd 15)
  g_beside : mg "_beside" = some (.ref (fa 15))
  F_is_standard : Fun K "is_standard" "is_standard" s_is_standard (fa 16) (fd 16)
  g_is_standard : mg "is_standard" = some (.ref (fa 16))
  F_why_not_standard : Fun K "why_not_standard" "why_not_standard" s_why_not_standard (fa 17) (fd 17)
  g_why_not_standard : mg "why_not_standard" = some (.ref (fa 17))
  F_nth_draw : Fun K "nth_draw" "nth_draw" s_nth_draw (fa 18) (fd 18)
  g_nth_draw : mg "nth_draw" = some (.ref (fa 18))
  F_rank_draw : Fun K "rank_draw" "rank_draw" s_rank_draw (fa 19) (fd 19)
  g_rank_draw : mg "rank_draw" = some (.ref (fa 19))
  F_count_levels : Fun K "_count_levels" "_count_levels" s_count_levels (fa 20) (fd 20)
  g_count_levels : mg "_count_levels" = some (.ref (fa 20))
  F_common_level : Fun K "_common_level" "_common_level" s_common_level (fa 21) (fd 21)
  g_common_level : mg "_common_level" = some (.ref (fa 21))
  F_count_matches : Fun K "_count_matches" "_count_matches" s_count_matches (fa 22) (fd 22)
  g_count_matches : mg "_count_matches" = some (.ref (fa 22))
  F_nth_order : Fun K "_nth_order" "_nth_order" s_nth_order (fa 23) (fd 23)
  g_nth_order : mg "_nth_order" = some (.ref (fa 23))
  F_rank_order : Fun K "_rank_order" "_rank_order" s_rank_order (fa 24) (fd 24)
  g_rank_order : mg "_rank_order" = some (.ref (fa 24))
  F_law_cell : Fun K "_law_cell" "_law_cell" s_law_cell (fa 25) (fd 25)
  g_law_cell : mg "_law_cell" = some (.ref (fa 25))
  F_law_source : Fun K "_law_source" "_law_source" s_law_source (fa 26) (fd 26)
  g_law_source : mg "_law_source" = some (.ref (fa 26))
  F_law_draw : Fun K "_law_draw" "_law_draw" s_law_draw (fa 27) (fd 27)
  g_law_draw : mg "_law_draw" = some (.ref (fa 27))
  F_law_power : Fun K "_law_power" "_law_power" s_law_power (fa 28) (fd 28)
  g_law_power : mg "_law_power" = some (.ref (fa 28))
  F_law_bracket : Fun K "_law_bracket" "_law_bracket" s_law_bracket (fa 29) (fd 29)
  g_law_bracket : mg "_law_bracket" = some (.ref (fa 29))
  F_law_swapped : Fun K "_law_swapped" "_law_swapped" s_law_swapped (fa 30) (fd 30)
  g_law_swapped : mg "_law_swapped" = some (.ref (fa 30))
  F_law_all_swapped : Fun K "_law_all_swapped" "_law_all_swapped" s_law_all_swapped (fa 31) (fd 31)
  g_law_all_swapped : mg "_law_all_swapped" = some (.ref (fa 31))
  F_law_wrong_places : Fun K "_law_wrong_places" "_law_wrong_places" s_law_wrong_places (fa 32) (fd 32)
  g_law_wrong_places : mg "_law_wrong_places" = some (.ref (fa 32))
  F_law_bracket_of : Fun K "_law_bracket_of" "_law_bracket_of" s_law_bracket_of (fa 33) (fd 33)
  g_law_bracket_of : mg "_law_bracket_of" = some (.ref (fa 33))
  F_law_mixed : Fun K "_law_mixed" "_law_mixed" s_law_mixed (fa 34) (fd 34)
  g_law_mixed : mg "_law_mixed" = some (.ref (fa 34))
  F_law_near_draw : Fun K "_law_near_draw" "_law_near_draw" s_law_near_draw (fa 35) (fd 35)
  g_law_near_draw : mg "_law_near_draw" = some (.ref (fa 35))
  F_law_orders : Fun K "_law_orders" "_law_orders" s_law_orders (fa 36) (fd 36)
  g_law_orders : mg "_law_orders" = some (.ref (fa 36))
  F_law_judged : Fun K "_law_judged" "_law_judged" s_law_judged (fa 37) (fd 37)
  g_law_judged : mg "_law_judged" = some (.ref (fa 37))
  F_law_numbered : Fun K "_law_numbered" "_law_numbered" s_law_numbered (fa 38) (fd 38)
  g_law_numbered : mg "_law_numbered" = some (.ref (fa 38))
  F_law : Fun K "law" "law" s_law (fa 39) (fd 39)
  g_law : mg "law" = some (.ref (fa 39))
  u_DRAW_SIZES : ∃ a, mg "DRAW_SIZES" = some (.ref a) ∧ ∀ H, SqT K H a [.int 2, .int 4, .int 8, .int 16, .int 32, .int 64, .int 128]
  t_MOST_ROUNDS : ∃ t, mg "MOST_ROUNDS" = some (.int 100 t)
  t_MOST_ROUNDS_OF_A_DRAW : ∃ t, mg "MOST_ROUNDS_OF_A_DRAW" = some (.int 7 t)
  b_is_draw : GxR.TabB base mg (fc 1004) (fc 1005)
  k_is_draw : (fd 2).code = .ref (fc 1004)
  n_abs : mg "abs" = none
  n_all : mg "all" = none
  n_bool : mg "bool" = none
  n_dict : mg "dict" = none
  n_enumerate : mg "enumerate" = none
  n_int : mg "int" = none
  n_isinstance : mg "isinstance" = none
  n_len : mg "len" = none
  n_list : mg "list" = none
  n_max : mg "max" = none
  n_min : mg "min" = none
  n_range : mg "range" = none
  n_repr : mg "repr" = none
  n_sorted : mg "sorted" = none
def TL (fc : Nat → Addr) : List Addr := [fc 1005]
theorem tl_is_draw {fc : Nat → Addr} {H : Hp} (h : SC.TbA (TL fc) H) : GxR.TabG H (fc 1005) := h _ (by simp [TL])
def SpSourceC : Sp := fun vs H Q _ => ∃ c : Int, vs = [.int c] ∧ ∀ a H', H a = none → Sm H H' → Src a 0 H' → Q (.ref a) H'
theorem w_sourceC {H : Hp} {Q : VK} {E : XK} {c : Int} (q : ∀ a H', H a = none → Sm H H' → Src a 0 H' → Q (.ref a) H') : SpSourceC ([.int c] ++ []) H Q E := ⟨c, rfl, q⟩
/-- a pair of places or none, as a value -/
def ResD (H : Hp) (v : V) : Option (Nat × Nat) → Prop
  | none => v = .non
  | some (i, j) => ∃ T, v = .ref T ∧ H T = some (.tup [.int (i : Int), .int (j : Int)])
theorem ResD.go {H H' : Hp} {v : V} {r : Option (Nat × Nat)} (h : ResD H v r) (e : Sm H H') : ResD H' v r := by
  match r, h with
  | none, h => exact h
  | some (i, j), ⟨T, h1, h2⟩ => exact ⟨T, h1, e _ _ h2⟩
def resD : Option (Nat × Nat) → PyData
  | none => .none
  | some (i, j) => .tuple [.int (i : Int), .int (j : Int)]
theorem ResD.dp {K : PySem.W.Frag} {H : Hp} {v : V} {r : Option (Nat × Nat)} (h : ResD H v r) : Dp K H v (resD r) := by
  match r, h with
  | none, h => rw [show v = V.non from h]; exact .non
  | some (i, j), ⟨T, h1, h2⟩ => rw [h1]; exact .tup (.inl (.inl h2)) (.cons (.int _) (.cons (.int _) .nil))
theorem ResD.isn {H : Hp} {v : V} {r : Option (Nat × Nat)} (h : ResD H v r) : decide (v = V.non) = decide (r = none) := by
  match r, h with
  | none, h => rw [show v = V.non from h]; rfl
  | some (i, j), ⟨T, h1, h2⟩ => rw [h1]; rfl
theorem resD_eqv (r : Option (Nat × Nat)) : PyData.eqv (resD r) (resD r) = true ∧ SeqAt.shaped (resD r) = true := by
  match r with
  | none => exact ⟨rfl, rfl⟩
  | some (i, j) => exact ⟨by simp [resD, PyData.eqv, PyData.eqvAll], rfl⟩
def SpSw (d : Nat) : Sp := fun vs H Q _ => ∃ (a p : Addr) (xs : List Int) (N : Int), vs = [.ref a, .ref p] ∧ Src a N H ∧ H p = some (.lst (xs.map V.int)) ∧ xs.length = 2 ^ d ∧ p ≠ a ∧ N + ((2 ^ d : Nat) : Int) < LIM ∧ ∀ (L : Addr) (H' : Hp) (ys : List Int), ys.Perm xs → Kp a H H' → Src a (N + ((2 ^ d : Nat) : Int) - 1) H' → H' L = some (.lst (ys.map V.int)) → (L = p ∨ H L = none) → L ≠ a → Q (.ref L) H'
def SpDrw (fc : Nat → Addr) (f : Nat → List Int → V) : Sp := fun vs H Q _ => ∃ (p : Addr) (d : Nat) (r : List Int), vs = [.ref p] ∧ H p = some (.lst (r.map V.int)) ∧ (1 ≤ d ∧ d ≤ 7) ∧ IsDr d r ∧ SC.TbA (TL fc) H ∧ ∀ H', Sm H H' → Q (f d r) H'
def SpWhy (fc : Nat → Addr) : Sp := fun vs H Q _ => ∃ (p : Addr) (d : Nat) (r : List Int), vs = [.ref p] ∧ H p = some (.lst (r.map V.int)) ∧ (1 ≤ d ∧ d ≤ 7) ∧ IsDr d r ∧ SC.TbA (TL fc) H ∧ ∀ x v H', FirstC (badP d r) (2 ^ d) x → Sm H H' → ResD H' v x → Q v H'
def SpStd (fc : Nat → Addr) : Sp := fun vs H Q _ => ∃ (p : Addr) (d : Nat) (r : List Int), vs = [.ref p] ∧ H p = some (.lst (r.map V.int)) ∧ (1 ≤ d ∧ d ≤ 7) ∧ IsDr d r ∧ SC.TbA (TL fc) H ∧ ∀ b H', (b = true ↔ StdD d r) → Sm H H' → Q (.bl b) H'
def SpWrong : Sp := fun vs H Q _ => ∃ (p : Addr) (d : Nat) (r : List Int), vs = [.ref p] ∧ H p = some (.lst (r.map V.int)) ∧ (1 ≤ d ∧ d ≤ 7) ∧ IsDr d r ∧ ∀ x v H', FirstC (badP d r) (2 ^ d) x → Sm H H' → ResD H' v x → Q v H'
def SpMix : Sp := fun vs H Q _ => ∃ (a p : Addr) (xs : List Int) (N : Int), vs = [.ref a, .ref p] ∧ Src a N H ∧ H p = some (.lst (xs.map V.int)) ∧ xs.length ≤ 128 ∧ p ≠ a ∧ N + 128 < LIM ∧ ∀ (L : Addr) (H' : Hp) (ys : List Int), ys.Perm xs → H L = none → Kp a H H' → Src a (N + 128) H' → H' L = some (.lst (ys.map V.int)) → Q (.ref L) H'
def SpNearD : Sp := fun vs H Q _ => ∃ (a : Addr) (d : Nat) (N : Int), vs = [.ref a, .int (d : Int)] ∧ Src a N H ∧ (1 ≤ d ∧ d ≤ 7) ∧ N + 300 < LIM ∧ ∀ (L : Addr) (H' : Hp) (r : List Int), IsDr d r → H L = none → Kp a H H' → Src a (N + 300) H' → H' L = some (.lst (r.map V.int)) → Q (.ref L) H'
def SpBrE : Sp := fun vs H Q _ => ∃ d : Nat, vs = [.int (d : Int)] ∧ d ≤ 7 ∧ ∀ L H', H L = none → Sm H H' → H' L = some (.lst ((brk d).map V.int)) → Q (.ref L) H'
def SpBrO : Sp := fun vs H Q _ => ∃ d : Nat, vs = [.int ((2 ^ d : Nat) : Int)] ∧ d ≤ 7 ∧ ∀ L H', H L = none → Sm H H' → H' L = some (.lst ((brk d).map V.int)) → Q (.ref L) H'
def SpCnt (K : PySem.W.Frag) : Sp := fun vs H Q _ => ∃ (p : Addr) (d : Nat) (xs : List V), vs = [.ref p] ∧ SqL K H p xs ∧ xs.length = 2 ^ d ∧ ∀ H', Sm H H' → Q (.int (d : Int)) H'
def SpSwA : Sp := fun vs H Q E => ∃ d, d ≤ 7 ∧ SpSw d vs H Q E
def SpRight36 (fc : Nat → Addr) : Sp := fun vs H Q _ => ∃ (p : Addr) (d : Nat) (r : List Int), vs = [.ref p] ∧ H p = some (.lst (r.map V.int)) ∧ (1 ≤ d ∧ d ≤ 7) ∧ IsDr d r ∧ SC.TbA (TL fc) H ∧ ∀ H', Sm H H' → Q (.bl true) H'
theorem resD_two (r : Option (Nat × Nat)) : SeqAt.shaped (.list [resD r, resD r]) = true := by
  match r with
  | none => rfl
  | some (i, j) => rfl
def SpSwS (d : Nat) : Sp := fun vs H Q _ => ∃ (a p : Addr) (xs : List Int) (N : Int), vs = [.ref a, .ref p] ∧ Src a N H ∧ H p = some (.lst (xs.map V.int)) ∧ xs.length = 2 ^ d ∧ p ≠ a ∧ N + ((2 ^ d : Nat) : Int) < LIM ∧ ∀ (L : Addr) (H' : Hp) (ys : List Int), SwR d xs ys → Kp a H H' → Src a (N + ((2 ^ d : Nat) : Int) - 1) H' → H' L = some (.lst (ys.map V.int)) → (L = p ∨ H L = none) → L ≠ a → Q (.ref L) H'
def SpSwN (n : Nat) : Sp := fun vs H Q E => ∃ d, d ≤ n ∧ SpSwS d vs H Q E
/-- the index of a block's order -/
def SpRk (d L : Nat) (vs : List V) (H : Hp) (Q : VK) : Prop := ∃ (p : Addr) (xs : List Int) (b : Int), vs = [.int (d : Int), .ref p] ∧ H p = some (.lst (xs.map V.int)) ∧ (1 ≤ d ∧ d ≤ 7) ∧ L ≤ d ∧ (1 ≤ b ∧ b ≤ mL d L) ∧ StO d L b xs ∧ ∀ H', Sm H H' → Q (.int (rkD d L xs : Nat)) H'
def SpRkN (n : Nat) : Sp := fun vs H Q _ => ∃ d L, L ≤ n ∧ SpRk d L vs H Q
/-- a block's order with an index -/
def SpNth (d L : Nat) (vs : List V) (H : Hp) (Q : VK) : Prop := ∃ (b : Int) (i : Nat), vs = [.int (d : Int), .int (L : Int), .int b, .int (i : Int)] ∧ (1 ≤ d ∧ d ≤ 7) ∧ L ≤ d ∧ (1 ≤ b ∧ b ≤ mL d L) ∧ i < 2 ^ (bt L + L) ∧ ∀ A H', H A = none → Sm H H' → H' A = some (.lst ((nthD d L b i).map V.int)) → Q (.ref A) H'
def SpNthN (n : Nat) : Sp := fun vs H Q _ => ∃ d L, L ≤ n ∧ SpNth d L vs H Q
def SpRank (fc : Nat → Addr) : Sp := fun vs H Q _ => ∃ (p : Addr) (d : Nat) (xs : List Int), vs = [.ref p] ∧ H p = some (.lst (xs.map V.int)) ∧ (1 ≤ d ∧ d ≤ 7) ∧ StO d d 1 xs ∧ SC.TbA (TL fc) H ∧ ∀ H', Sm H H' → Q (.int (rkD d d xs : Nat)) H'
def SpNthD : Sp := fun vs H Q _ => ∃ (d i : Nat), vs = [.int (d : Int), .int (i : Int)] ∧ (1 ≤ d ∧ d ≤ 7) ∧ i < 2 ^ (bt d + d) ∧ ∀ A H', H A = none → Sm H H' → H' A = some (.lst ((nthD d d 1 i).map V.int)) → Q (.ref A) H'
def SpLRank : Sp := fun vs H Q _ => ∃ (p : Addr) (d : Nat) (xs : List Int), vs = [.ref p] ∧ H p = some (.lst (xs.map V.int)) ∧ (1 ≤ d ∧ d ≤ 7) ∧ StO d d 1 xs ∧ ∀ H', Sm H H' → Q (.int (rkD d d xs : Nat)) H'
def SpLast (d L : Nat) (vs : List V) (H : Hp) (Q : VK) : Prop := ∃ (p : Addr) (xs : List Int) (b : Int), vs = [.ref p] ∧ H p = some (.lst (xs.map V.int)) ∧ (1 ≤ d ∧ d ≤ 7) ∧ L ≤ d ∧ (1 ≤ b ∧ b ≤ mL d L) ∧ StO d L b xs ∧ ∀ A H' ys, MaxO d L b ys → Sm H H' → H' A = some (.lst (ys.map V.int)) → Q (.ref A) H'
def SpLastN (n : Nat) : Sp := fun vs H Q _ => ∃ d L, L ≤ n ∧ SpLast d L vs H Q
def SpAllN (n : Nat) : Sp := fun vs H Q _ => ∃ (L : Nat) (p : Addr) (xs : List Int), vs = [.ref p] ∧ L ≤ n ∧ L ≤ 3 ∧ H p = some (.lst (xs.map V.int)) ∧ xs.length = 2 ^ L ∧ ∀ A H' ads, H A = none → Sm H H' → H' A = some (.lst (ads.map V.ref)) → Rws H' ads (allS L xs) → Q (.ref A) H'
def SpOrdN (n : Nat) : Sp := fun vs H Q _ => ∃ (p : Addr) (xs : List Int), vs = [.ref p] ∧ H p = some (.lst (xs.map V.int)) ∧ 1 ≤ xs.length ∧ xs.length ≤ n + 1 ∧ n ≤ 3 ∧ ∀ A H' ads, H A = none → Sm H H' → H' A = some (.lst (ads.map V.ref)) → Rws H' ads (ordsF (n + 1) xs) → Q (.ref A) H'
def SpNumd (fc : Nat → Addr) : Sp := fun vs H Q _ => ∃ (d : Nat), vs = [.int (d : Int)] ∧ (1 ≤ d ∧ d ≤ 3) ∧ SC.TbA (TL fc) H ∧ ∀ H', Sm H H' → Q (.bl true) H'
section
variable {P : Program} {w : World} {K : PySem.W.Frag} {mg : Str → Option Value} {base : Heap} {fa : Nat → Addr} {fd : Nat → FuncData} {fc : Nat → Addr}
theorem bi_is_integer (T : TX K mg base fa fd fc) : Binds K (fd 0) ["value"] [] := T.F_is_integer.binds fun _ _ _ _ _ _ us hl => match us, hl with | [_], _ => rfl
theorem bi_is_integer_between (T : TX K mg base fa fd fc) : Binds K (fd 1) ["value", "low", "high"] [] := T.F_is_integer_between.binds fun _ _ _ _ _ _ us hl => match us, hl with | [_, _, _], _ => rfl
theorem bi_is_draw (T : TX K mg base fa fd fc) : Binds K (fd 2) ["value"] [] := T.F_is_draw.binds fun _ _ _ _ _ _ us hl => match us, hl with | [_], _ => rfl
theorem bi_check_rounds (T : TX K mg base fa fd fc) : Binds K (fd 3) ["rounds"] [] := T.F_check_rounds.binds fun _ _ _ _ _ _ us hl => match us, hl with | [_], _ => rfl
theorem bi_check_few_rounds (T : TX K mg base fa fd fc) : Binds K (fd 4) ["rounds", "limit"] [] := T.F_check_few_rounds.binds fun _ _ _ _ _ _ us hl => match us, hl with | [_, _], _ => rfl
theorem bi_check_seed (T : TX K mg base fa fd fc) : Binds K (fd 5) ["rounds", "seed"] [] := T.F_check_seed.binds fun _ _ _ _ _ _ us hl => match us, hl with | [_, _], _ => rfl
theorem bi_check_index (T : TX K mg base fa fd fc) : Binds K (fd 6) ["size", "index"] [] := T.F_check_index.binds fun _ _ _ _ _ _ us hl => match us, hl with | [_, _], _ => rfl
theorem bi_check_draw (T : TX K mg base fa fd fc) : Binds K (fd 7) ["draw"] [] := T.F_check_draw.binds fun _ _ _ _ _ _ us hl => match us, hl with | [_], _ => rfl
theorem bi_group_of (T : TX K mg base fa fd fc) : Binds K (fd 8) ["groups", "seed"] [] := T.F_group_of.binds fun _ _ _ _ _ _ us hl => match us, hl with | [_, _], _ => rfl
theorem bi_nth_dealt (T : TX K mg base fa fd fc) : Binds K (fd 9) ["groups", "group", "index"] [] := T.F_nth_dealt.binds fun _ _ _ _ _ _ us hl => match us, hl with | [_, _, _], _ => rfl
theorem bi_turned (T : TX K mg base fa fd fc) : Binds K (fd 10) ["groups", "row", "column"] [] := T.F_turned.binds fun _ _ _ _ _ _ us hl => match us, hl with | [_, _, _], _ => rfl
theorem bi_place_of (T : TX K mg base fa fd fc) : Binds K (fd 11) ["rounds", "seed"] [] := T.F_place_of.binds fun _ _ _ _ _ _ us hl => match us, hl with | [_, _], _ => rfl
theorem bi_count_halves (T : TX K mg base fa fd fc) : Binds K (fd 12) ["rounds", "stage"] [] := T.F_count_halves.binds fun _ _ _ _ _ _ us hl => match us, hl with | [_, _], _ => rfl
theorem bi_own_half (T : TX K mg base fa fd fc) : Binds K (fd 13) ["rounds", "stage", "seed"] [] := T.F_own_half.binds fun _ _ _ _ _ _ us hl => match us, hl with | [_, _, _], _ => rfl
theorem bi_other_half (T : TX K mg base fa fd fc) : Binds K (fd 14) ["rounds", "stage", "seed"] [] := T.F_other_half.binds fun _ _ _ _ _ _ us hl => match us, hl with | [_, _, _], _ => rfl
theorem bi_beside (T : TX K mg base fa fd fc) : Binds K (fd 15) ["rounds", "stage", "half"] [] := T.F_beside.binds fun _ _ _ _ _ _ us hl => match us, hl with | [_, _, _], _ => rfl
theorem bi_is_standard (T : TX K mg base fa fd fc) : Binds K (fd 16) ["draw"] [] := T.F_is_standard.binds fun _ _ _ _ _ _ us hl => match us, hl with | [_], _ => rfl
theorem bi_why_not_standard (T : TX K mg base fa fd fc) : Binds K (fd 17) ["draw"] [] := T.F_why_not_standard.binds fun _ _ _ _ _ _ us hl => match us, hl with | [_], _ => rfl
theorem bi_nth_draw (T : TX K mg base fa fd fc) : Binds K (fd 18) ["rounds", "index"] [] := T.F_nth_draw.binds fun _ _ _ _ _ _ us hl => match us, hl with | [_, _], _ => rfl
theorem bi_rank_draw (T : TX K mg base fa fd fc) : Binds K (fd 19) ["draw"] [] := T.F_rank_draw.binds fun _ _ _ _ _ _ us hl => match us, hl with | [_], _ => rfl
theorem bi_count_levels (T : TX K mg base fa fd fc) : Binds K (fd 20) ["seeds"] [] := T.F_count_levels.binds fun _ _ _ _ _ _ us hl => match us, hl with | [_], _ => rfl
theorem bi_common_level (T : TX K mg base fa fd fc) : Binds K (fd 21) ["first", "second"] [] := T.F_common_level.binds fun _ _ _ _ _ _ us hl => match us, hl with | [_, _], _ => rfl
theorem bi_count_matches (T : TX K mg base fa fd fc) : Binds K (fd 22) ["level"] [] := T.F_count_matches.binds fun _ _ _ _ _ _ us hl => match us, hl with | [_], _ => rfl
theorem bi_nth_order (T : TX K mg base fa fd fc) : Binds K (fd 23) ["rounds", "level", "block", "index"] [] := T.F_nth_order.binds fun _ _ _ _ _ _ us hl => match us, hl with | [_, _, _, _], _ => rfl
theorem bi_rank_order (T : TX K mg base fa fd fc) : Binds K (fd 24) ["rounds", "order"] [] := T.F_rank_order.binds fun _ _ _ _ _ _ us hl => match us, hl with | [_, _], _ => rfl
theorem bi_law_cell (T : TX K mg base fa fd fc) : Binds K (fd 25) ["script", "k"] [] := T.F_law_cell.binds fun _ _ _ _ _ _ us hl => match us, hl with | [_, _], _ => rfl
theorem bi_law_source (T : TX K mg base fa fd fc) : Binds K (fd 26) ["cell"] [] := T.F_law_source.binds fun _ _ _ _ _ _ us hl => match us, hl with | [_], _ => rfl
theorem bi_law_draw (T : TX K mg base fa fd fc) : Binds K (fd 27) ["source", "bound"] [] := T.F_law_draw.binds fun _ _ _ _ _ _ us hl => match us, hl with | [_, _], _ => rfl
theorem bi_law_power (T : TX K mg base fa fd fc) : Binds K (fd 28) ["many"] [] := T.F_law_power.binds fun _ _ _ _ _ _ us hl => match us, hl with | [_], _ => rfl
theorem bi_law_bracket (T : TX K mg base fa fd fc) : Binds K (fd 29) ["size"] [] := T.F_law_bracket.binds fun _ _ _ _ _ _ us hl => match us, hl with | [_], _ => rfl
theorem bi_law_swapped (T : TX K mg base fa fd fc) : Binds K (fd 30) ["source", "row"] [] := T.F_law_swapped.binds fun _ _ _ _ _ _ us hl => match us, hl with | [_, _], _ => rfl
theorem bi_law_all_swapped (T : TX K mg base fa fd fc) : Binds K (fd 31) ["row"] [] := T.F_law_all_swapped.binds fun _ _ _ _ _ _ us hl => match us, hl with | [_], _ => rfl
theorem bi_law_wrong_places (T : TX K mg base fa fd fc) : Binds K (fd 32) ["row"] [] := T.F_law_wrong_places.binds fun _ _ _ _ _ _ us hl => match us, hl with | [_], _ => rfl
theorem bi_law_bracket_of (T : TX K mg base fa fd fc) : Binds K (fd 33) ["length"] [] := T.F_law_bracket_of.binds fun _ _ _ _ _ _ us hl => match us, hl with | [_], _ => rfl
theorem bi_law_mixed (T : TX K mg base fa fd fc) : Binds K (fd 34) ["source", "things"] [] := T.F_law_mixed.binds fun _ _ _ _ _ _ us hl => match us, hl with | [_, _], _ => rfl
theorem bi_law_near_draw (T : TX K mg base fa fd fc) : Binds K (fd 35) ["source", "size"] [] := T.F_law_near_draw.binds fun _ _ _ _ _ _ us hl => match us, hl with | [_, _], _ => rfl
theorem bi_law_orders (T : TX K mg base fa fd fc) : Binds K (fd 36) ["things"] [] := T.F_law_orders.binds fun _ _ _ _ _ _ us hl => match us, hl with | [_], _ => rfl
theorem bi_law_judged (T : TX K mg base fa fd fc) : Binds K (fd 37) ["row"] [] := T.F_law_judged.binds fun _ _ _ _ _ _ us hl => match us, hl with | [_], _ => rfl
theorem bi_law_numbered (T : TX K mg base fa fd fc) : Binds K (fd 38) ["size"] [] := T.F_law_numbered.binds fun _ _ _ _ _ _ us hl => match us, hl with | [_], _ => rfl
theorem bi_law (T : TX K mg base fa fd fc) : Binds K (fd 39) ["script"] [] := T.F_law.binds fun _ _ _ _ _ _ us hl => match us, hl with | [_], _ => rfl
theorem kb_is_standard_0_draw (T : TX K mg base fa fd fc) : KBn K (fd 16) ["draw"] 0 ["draw"] (pickBy .none [0]) (pickBy .non [0]) := by
  obtain ⟨oc, od, kV, doc, pm, an, cdv, ct, osl, e, lk, hcd⟩ := T.F_is_standard.ex
  refine ⟨fun s us ws _ l1 l2 => ?_, fun r rz => vals_pick r rz _⟩
  rw [e]
  match us, ws, l1, l2 with
  | [], [w0], _, _ => exact .of_eq rfl
theorem kb_nth_draw_0_index_rounds (T : TX K mg base fa fd fc) : KBn K (fd 18) ["rounds", "index"] 0 ["index", "rounds"] (pickBy .none [1, 0]) (pickBy .non [1, 0]) := by
  obtain ⟨oc, od, kV, doc, pm, an, cdv, ct, osl, e, lk, hcd⟩ := T.F_nth_draw.ex
  refine ⟨fun s us ws _ l1 l2 => ?_, fun r rz => vals_pick r rz _⟩
  rw [e]
  match us, ws, l1, l2 with
  | [], [w0, w1], _, _ => exact .of_eq rfl
theorem kb_rank_draw_0_draw (T : TX K mg base fa fd fc) : KBn K (fd 19) ["draw"] 0 ["draw"] (pickBy .none [0]) (pickBy .non [0]) := by
  obtain ⟨oc, od, kV, doc, pm, an, cdv, ct, osl, e, lk, hcd⟩ := T.F_rank_draw.ex
  refine ⟨fun s us ws _ l1 l2 => ?_, fun r rz => vals_pick r rz _⟩
  rw [e]
  match us, ws, l1, l2 with
  | [], [w0], _, _ => exact .of_eq rfl
theorem kb_why_not_standard_0_draw (T : TX K mg base fa fd fc) : KBn K (fd 17) ["draw"] 0 ["draw"] (pickBy .none [0]) (pickBy .non [0]) := by
  obtain ⟨oc, od, kV, doc, pm, an, cdv, ct, osl, e, lk, hcd⟩ := T.F_why_not_standard.ex
  refine ⟨fun s us ws _ l1 l2 => ?_, fun r rz => vals_pick r rz _⟩
  rw [e]
  match us, ws, l1, l2 with
  | [], [w0], _, _ => exact .of_eq rfl
theorem ok_is_integer (T : TX K mg base fa fd fc) : FnOk P w K mg base CX0 1 (fa 0) (fd 0) ["value"] (Sp1 (fun _ => True) (fun _ => .bl true)) := by
  refine T.F_is_integer.ok sc_is_integer (fun vs H Q E h => ?_) (fun cdv A outer s H vs Q E hr h => ?_)
  · obtain ⟨v, rfl, _, k⟩ := h
    rfl
  obtain ⟨v, rfl, _, k⟩ := h
  refine ⟨_, (pss_one (ps_ret (pe_and (pe_callB (r := rIsi K) call_isi (by rfl) T.n_isinstance (by decide +kernel) (pa_cons (pv 0) (pa_cons (pe_bltn (v := .ty "int") (by rfl) T.n_int (by decide +kernel) rfl) pa_nil))) (pe_one (pe_not (pe_callB (r := rIsi K) call_isi (by rfl) T.n_isinstance (by decide +kernel) (pa_cons (pv 0) (pa_cons (pe_bltn (v := .ty "bool") (by rfl) T.n_bool (by decide +kernel) rfl) pa_nil)))))))), ?_⟩
  walk_at "s"
  refine iteT ?_
  walk_at "s"
  exact k _ (.refl _)
theorem ok_is_integer_between (T : TX K mg base fa fd fc) : FnOk P w K mg base CX0 2 (fa 1) (fd 1) ["value", "low", "high"] (Sp3 (fun _ _ _ => True) (fun v l h => .bl (decide (l ≤ v ∧ v ≤ h)))) := by
  refine T.F_is_integer_between.ok sc_is_integer_between (fun vs H Q E h => ?_) (fun cdv A outer s H vs Q E hr h => ?_)
  · obtain ⟨v, l, h, rfl, _, k⟩ := h
    rfl
  obtain ⟨v, l, h, rfl, _, k⟩ := h
  refine ⟨_, (pss_one (ps_ret (pe_and (pe_call (ok_is_integer T) (hr.mono (by decide)) rfl T.g_is_integer T.F_is_integer.kp (bi_is_integer T) .nil pass0 (pa_cons (pv 0) pa_nil)) (pe_one (pe_chain op_le op_le (pv 1) (pv 0) (pv 2)))))), ?_⟩
  walk_at "s"
  refine w_sp1 trivial fun H1 s1 => ?_
  walk_at "s"
  refine iteT ?_
  walk_at "s"
  refine w_ifd (fun c => ?_) fun c => ?_
  · walk_at "s"
    have e : decide (l ≤ v ∧ v ≤ h) = decide (v ≤ h) := by simp [c]
    rw [← e]
    exact k _ s1
  · exact vq (k _ s1) (by simp [c])
theorem ok_check_rounds (T : TX K mg base fa fd fc) : FnOk P w K mg base CX0 3 (fa 3) (fd 3) ["rounds"] (Sp1 (fun r => 1 ≤ r ∧ r ≤ 100) (fun _ => .non)) := by
  refine T.F_check_rounds.ok sc_check_rounds (fun vs H Q E h => ?_) (fun cdv A outer s H vs Q E hr h => ?_)
  · obtain ⟨r, rfl, p, k⟩ := h
    rfl
  obtain ⟨r, rfl, p, k⟩ := h
  refine ⟨_, (pss_one (ps_if (pt_not (pt_val (pe_call (ok_is_integer_between T) (hr.mono (by decide)) rfl T.g_is_integer_between T.F_is_integer_between.kp (bi_is_integer_between T) .nil pass0 (pa_cons (pv 0) (pa_cons pe_int (pa_cons (pe_glob (v := .int 100) rfl T.t_MOST_ROUNDS.choose_spec ⟨_, rfl⟩) pa_nil))))))
    (pss_one ps_never) pss_nil)), ?_⟩
  walk_at "s"
  refine w_sp3 trivial fun H1 s1 => ?_
  walk_at "s"
  refine w_nno p ?_
  exact k _ s1
theorem ok_check_seed (T : TX K mg base fa fd fc) : FnOk P w K mg base CX0 3 (fa 5) (fd 5) ["rounds", "seed"] (Sp2 (fun r s => 0 ≤ r ∧ r ≤ 100 ∧ 1 ≤ s ∧ s ≤ p2 r) (fun _ _ => .non)) := by
  refine T.F_check_seed.ok sc_check_seed (fun vs H Q E h => ?_) (fun cdv A outer s H vs Q E hr h => ?_)
  · obtain ⟨r, i, rfl, p, k⟩ := h
    rfl
  obtain ⟨r, i, rfl, p, k⟩ := h
  refine ⟨_, (pss_one (ps_if (pt_not (pt_val (pe_call (ok_is_integer_between T) (hr.mono (by decide)) rfl T.g_is_integer_between T.F_is_integer_between.kp (bi_is_integer_between T) .nil pass0 (pa_cons (pv 1) (pa_cons pe_int (pa_cons (pe_op SC.op_shl1 pe_int (pv 0)) pa_nil))))))
    (pss_one ps_never) pss_nil)), ?_⟩
  walk_at "s"
  refine w_sp3 trivial fun H1 s1 => ?_
  walk_at "s"
  refine w_nno p.2.2 ?_
  exact k _ s1
theorem ok_turned (T : TX K mg base fa fd fc) : FnOk P w K mg base CX0 1 (fa 10) (fd 10) ["groups", "row", "column"] (Sp3 (fun _ _ _ => True) (fun b r c => .int (turned b r c))) := by
  refine T.F_turned.ok sc_turned (fun vs H Q E h => ?_) (fun cdv A outer s H vs Q E hr h => ?_)
  · obtain ⟨b, r, c, rfl, hp, k⟩ := h
    rfl
  obtain ⟨b, r, c, rfl, hp, k⟩ := h
  refine ⟨_, (pss_cons (ps_if (pt_cmpR op_eq (pe_op SC.op_modR (pv 1) pe_int) pe_int (nomark _))
    (pss_one (ps_ret (pv 2))) pss_nil)
    (pss_one (ps_ret (pe_op op_sub (pe_op op_add (pv 0) pe_int) (pv 2))))), ?_⟩
  walk_at "s"
  refine w_modE (by decide) ?_
  walk_at "s"
  refine w_ifd (fun h => ?_) fun h => ?_
  · walk_at "s"
    exact vq (k _ (.refl _)) (congrArg V.int (if_pos h))
  · walk_at "s"
    exact vq (k _ (.refl _)) (congrArg V.int (if_neg h))
theorem ok_group_of (T : TX K mg base fa fd fc) : FnOk P w K mg base CX0 2 (fa 8) (fd 8) ["groups", "seed"] (Sp2 (fun m _ => 0 < m ∧ m < BIG) (fun m s => .int (blk m s))) := by
  refine T.F_group_of.ok sc_group_of (fun vs H Q E h => ?_) (fun cdv A outer s H vs Q E hr h => ?_)
  · obtain ⟨m, s, rfl, hp, k⟩ := h
    rfl
  obtain ⟨m, s, rfl, hp, k⟩ := h
  refine ⟨_, (pss_one (ps_ret (pe_call (ok_turned T) (hr.mono (by decide)) rfl T.g_turned T.F_turned.kp (bi_turned T) .nil pass0 (pa_cons (pv 0) (pa_cons (pe_op op_fdivW (pe_op op_sub (pv 1) pe_int) (pv 0)) (pa_cons (pe_op op_add (pe_op SC.op_modR (pe_op op_sub (pv 1) pe_int) (pv 0)) pe_int) pa_nil)))))), ?_⟩
  walk_at "s"
  refine w_i (cdivB hp.1 hp.2) ?_
  walk_at "s"
  refine w_modE hp.1 ?_
  walk_at "s"
  refine w_sp3 trivial fun H1 s1 => ?_
  exact k _ s1
theorem ok_nth_dealt (T : TX K mg base fa fd fc) : FnOk P w K mg base CX0 2 (fa 9) (fd 9) ["groups", "group", "index"] (Sp3 (fun m b i => (0 < m ∧ m < BIG) ∧ 0 ≤ i ∧ i < BIG) (fun m b i => .int (mem m b i))) := by
  refine T.F_nth_dealt.ok sc_nth_dealt (fun vs H Q E h => ?_) (fun cdv A outer s H vs Q E hr h => ?_)
  · obtain ⟨m, b, i, rfl, hp, k⟩ := h
    rfl
  obtain ⟨m, b, i, rfl, hp, k⟩ := h
  refine ⟨_, (pss_one (ps_ret (pe_op op_add (pe_op op_mulX (pv 2) (pv 0)) (pe_call (ok_turned T) (hr.mono (by decide)) rfl T.g_turned T.F_turned.kp (bi_turned T) .nil pass0 (pa_cons (pv 0) (pa_cons (pv 2) (pa_cons (pv 1) pa_nil))))))), ?_⟩
  walk_at "s"
  refine w_i (cmulB hp.2.1 hp.2.2 (by omega) hp.1.2) ?_
  walk_at "s"
  refine w_sp3 trivial fun H1 s1 => ?_
  walk_at "s"
  exact k _ s1
theorem ok_count_halves (T : TX K mg base fa fd fc) : FnOk P w K mg base CX0 1 (fa 12) (fd 12) ["rounds", "stage"] (Sp2 (fun r t => 0 ≤ r - t + 1 ∧ r - t + 1 ≤ 1000) (fun r t => .int (p2 (r - t + 1)))) := by
  refine T.F_count_halves.ok sc_count_halves (fun vs H Q E h => ?_) (fun cdv A outer s H vs Q E hr h => ?_)
  · obtain ⟨r, t, rfl, hp, k⟩ := h
    rfl
  obtain ⟨r, t, rfl, hp, k⟩ := h
  refine ⟨_, (pss_one (ps_ret (pe_op SC.op_shl1 pe_int (pe_op op_add (pe_op op_sub (pv 0) (pv 1)) pe_int)))), ?_⟩
  walk_at "s"
  exact k _ (.refl _)
theorem ok_own_half (T : TX K mg base fa fd fc) : FnOk P w K mg base CX0 3 (fa 13) (fd 13) ["rounds", "stage", "seed"] (Sp3 (fun r t _ => 0 ≤ r - t + 1 ∧ r - t + 1 ≤ 1000) (fun r t s => .int (blk (p2 (r - t + 1)) s))) := by
  refine T.F_own_half.ok sc_own_half (fun vs H Q E h => ?_) (fun cdv A outer s H vs Q E hr h => ?_)
  · obtain ⟨r, t, s, rfl, hp, k⟩ := h
    rfl
  obtain ⟨r, t, s, rfl, hp, k⟩ := h
  refine ⟨_, (pss_one (ps_ret (pe_call (ok_group_of T) (hr.mono (by decide)) rfl T.g_group_of T.F_group_of.kp (bi_group_of T) .nil pass0 (pa_cons (pe_call (ok_count_halves T) (hr.mono (by decide)) rfl T.g_count_halves T.F_count_halves.kp (bi_count_halves T) .nil pass0 (pa_cons (pv 0) (pa_cons (pv 1) pa_nil))) (pa_cons (pv 2) pa_nil))))), ?_⟩
  walk_at "s"
  refine w_sp2 hp fun H1 s1 => ?_
  walk_at "s"
  refine w_sp2 ⟨p2_pos _, p2_lim (by omega)⟩ fun H2 s2 => ?_
  exact k _ (s1.trans s2)
theorem ok_beside (T : TX K mg base fa fd fc) : FnOk P w K mg base CX0 2 (fa 15) (fd 15) ["rounds", "stage", "half"] (Sp3 (fun r t _ => 0 ≤ r - t + 1 ∧ r - t + 1 ≤ 1000) (fun r t h => .int (p2 (r - t + 1) + 1 - h))) := by
  refine T.F_beside.ok sc_beside (fun vs H Q E h => ?_) (fun cdv A outer s H vs Q E hr h => ?_)
  · obtain ⟨r, t, h, rfl, hp, k⟩ := h
    rfl
  obtain ⟨r, t, h, rfl, hp, k⟩ := h
  refine ⟨_, (pss_one (ps_ret (pe_op op_sub (pe_op op_add (pe_call (ok_count_halves T) (hr.mono (by decide)) rfl T.g_count_halves T.F_count_halves.kp (bi_count_halves T) .nil pass0 (pa_cons (pv 0) (pa_cons (pv 1) pa_nil))) pe_int) (pv 2)))), ?_⟩
  walk_at "s"
  refine w_sp2 hp fun H1 s1 => ?_
  walk_at "s"
  exact k _ s1
theorem ok_other_half (T : TX K mg base fa fd fc) : FnOk P w K mg base CX0 4 (fa 14) (fd 14) ["rounds", "stage", "seed"] (Sp3 (fun r t _ => 0 ≤ r - t + 1 ∧ r - t + 1 ≤ 1000) (fun r t s => .int (oth r t s))) := by
  refine T.F_other_half.ok sc_other_half (fun vs H Q E h => ?_) (fun cdv A outer s H vs Q E hr h => ?_)
  · obtain ⟨r, t, s, rfl, hp, k⟩ := h
    rfl
  obtain ⟨r, t, s, rfl, hp, k⟩ := h
  refine ⟨_, (pss_one (ps_ret (pe_call (ok_beside T) (hr.mono (by decide)) rfl T.g_beside T.F_beside.kp (bi_beside T) .nil pass0 (pa_cons (pv 0) (pa_cons (pv 1) (pa_cons (pe_call (ok_own_half T) (hr.mono (by decide)) rfl T.g_own_half T.F_own_half.kp (bi_own_half T) .nil pass0 (pa_cons (pv 0) (pa_cons (pv 1) (pa_cons (pv 2) pa_nil)))) pa_nil)))))), ?_⟩
  walk_at "s"
  refine w_sp3 hp fun H1 s1 => ?_
  walk_at "s"
  refine w_sp3 hp fun H2 s2 => ?_
  exact k _ (s1.trans s2)
theorem ok_is_draw (T : TX K mg base fa fd fc) : FnOk P w K mg base CX0 4 (fa 2) (fd 2) ["value"] (SpDrw fc (fun _ _ => .bl true)) := by
  refine SC.okT T.F_is_draw sc_is_draw T.k_is_draw (fun vs H Q E h => ?_) (fun A outer s H vs Q E hr h => ?_)
  · obtain ⟨p, d, r, rfl, hp, hd, ir, ht, q⟩ := h
    rfl
  obtain ⟨p, d, r, rfl, hp, hd, ir, ht, q⟩ := h
  refine ⟨_, (pss_cons (ps_if (PW.pt (pw_or (pt_not (pt_val (pe_callB (r := rIsi K) call_isi (by rfl) T.n_isinstance (by decide +kernel) (pa_cons (pv 0) (pa_cons (pe_bltn (v := .ty "list") (by rfl) T.n_list (by decide +kernel) rfl) pa_nil))))) (pw_or1 (pt_cmpR (r := rIn K true) op_notIn_seq (pe_callB (r := SC.rLen K) SC.c_len (by rfl) T.n_len (by decide +kernel) (pa_cons (pv 0) pa_nil)) (pe_glob (v := .ref T.u_DRAW_SIZES.choose) rfl T.u_DRAW_SIZES.choose_spec.1 rfl) (by rfl)))))
    (pss_one (ps_ret pe_bl)) pss_nil)
    (pss_cons (ps_if (pt_not (pt_val (SC.pe_allX hr rfl sc_is_draw.nd (by rfl) T.n_all T.b_is_draw rfl (pi_list (pv 0)) (blkOk_by (own := [("seed", 1)]) (N := nm_is_draw) (sc := defScope s_is_draw) (by decide +kernel)) ⟨rfl, by decide +kernel, by decide +kernel⟩ (fun _ _ _ _ _ _ _ => (pg_name (i := 1) sc_is_draw.nd rfl (by first | exact Or.inl rfl | exact Or.inr rfl))) (fun _ hrg _ _ _ _ _ _ => (pe_call (ok_is_integer T) (hrg.mono (by decide)) rfl T.g_is_integer T.F_is_integer.kp (bi_is_integer T) .nil pass0 (pa_cons (pv 1) pa_nil))))))
    (pss_one (ps_ret pe_bl)) pss_nil)
    (pss_one (ps_ret (pe_cmpR (r := rEqD K) (op_eqD hr.units) (pe_callB (r := rSortedI K) cr_sortedI (by rfl) T.n_sorted (by decide +kernel) (pa_cons (pv 0) pa_nil)) (pe_listRg rfl (by rfl) T.n_list (prg_2 (by rfl) T.n_range pe_int (pe_op op_add (pe_callB (r := SC.rLen K) SC.c_len (by rfl) T.n_len (by decide +kernel) (pa_cons (pv 0) pa_nil)) pe_int))) (nomark _)))))), ?_⟩
  have rl := ir.len
  have lim : 2 ^ d ≤ 2 ^ 7 := Nat.pow_le_pow_right (by decide) hd.2
  walk_at "r"
  refine w_isi_ll hp ?_
  walk_at "r"
  rw [List.length_map, rl]
  refine w_ninIT [2, 4, 8, 16, 32, 64, 128] (T.u_DRAW_SIZES.choose_spec.2 H) ?_
  have hm : (((2 ^ d : Nat) : Int) ∈ ([2, 4, 8, 16, 32, 64, 128] : List Int)) := by
    have : d = 1 ∨ d = 2 ∨ d = 3 ∨ d = 4 ∨ d = 5 ∨ d = 6 ∨ d = 7 := by omega
    rcases this with rfl | rfl | rfl | rfl | rfl | rfl | rfl <;> decide
  rw [decide_eq_true hm]
  walk_at "r"
  refine w_gxL (fun _ => true) (sq_of hp) (tl_is_draw ht) (fun i x H2 hx e2 R hR => ?_) fun H2 e2 => ?_
  · rw [List.getElem?_map] at hx
    obtain ⟨v, hv, rfl⟩ := Option.map_eq_some_iff.mp hx
    refine ⟨rfl, ?_⟩
    walk_at "r"
    rename_i H3 e3
    exact hR _ e3
  rw [if_pos rfl, List.all_eq_true.mpr fun _ _ => rfl]
  walk_at "r"
  refine w_sorted (sq_of (e2 _ _ hp)) fun ms L3 H3 pm so e3 f3 h3 => ?_
  walk_at "r"
  rw [List.length_map, rl]
  refine w_rg2 (by omega) (by omega) (by omega) fun L4 H4 e4 f4 h4 => ?_
  have hs := ir.sort pm so
  have er : (List.range (((2 ^ d : Nat) : Int) + 1 - 1).toNat).map (fun n : Nat => (1 : Int) + (n : Int)) = (List.range (2 ^ d)).map fun i : Nat => (1 : Int) + (i : Int) := by
    rw [show (((2 ^ d : Nat) : Int) + 1 - 1).toNat = 2 ^ d by omega]
  refine w_eqLs (sq_of (e4 _ _ h3)) (sq_of h4) (hs.trans er.symm) ?_
  exact q _ ((e2.trans e3).trans e4)
theorem ok_check_draw (T : TX K mg base fa fd fc) : FnOk P w K mg base CX0 5 (fa 7) (fd 7) ["draw"] (SpDrw fc (fun _ _ => .non)) := by
  refine T.F_check_draw.ok sc_check_draw (fun vs H Q E h => ?_) (fun cdv A outer s H vs Q E hr h => ?_)
  · obtain ⟨p, d, r, rfl, hp, hd, ir, ht, q⟩ := h
    rfl
  obtain ⟨p, d, r, rfl, hp, hd, ir, ht, q⟩ := h
  refine ⟨_, (pss_one (ps_if (pt_not (pt_val (pe_call (ok_is_draw T) (hr.mono (by decide)) rfl T.g_is_draw T.F_is_draw.kp (bi_is_draw T) .nil pass0 (pa_cons (pv 0) pa_nil))))
    (pss_one ps_never) pss_nil)), ?_⟩
  walk_at "r"
  refine ⟨p, d, r, rfl, hp, hd, ir, ht, fun H1 e1 => ?_⟩
  walk_at "r"
  exact q _ e1
theorem ok_place_of (T : TX K mg base fa fd fc) : FnOk P w K mg base CX0 4 (fa 11) (fd 11) ["rounds", "seed"] (Sp2 (fun r s => 1 ≤ r ∧ r ≤ 100 ∧ 1 ≤ s ∧ s ≤ p2 r) (fun r s => .int (placeOf r s))) := by
  refine T.F_place_of.ok sc_place_of (fun vs H Q E h => ?_) (fun cdv A outer s H vs Q E hr h => ?_)
  · obtain ⟨r, p, rfl, hp, k⟩ := h
    rfl
  obtain ⟨r, p, rfl, hp, k⟩ := h
  refine ⟨_, (pss_cons (ps_expr (pe_call (ok_check_rounds T) (hr.mono (by decide)) rfl T.g_check_rounds T.F_check_rounds.kp (bi_check_rounds T) .nil pass0 (pa_cons (pv 0) pa_nil)))
    (pss_cons (ps_expr (pe_call (ok_check_seed T) (hr.mono (by decide)) rfl T.g_check_seed T.F_check_seed.kp (bi_check_seed T) .nil pass0 (pa_cons (pv 0) (pa_cons (pv 1) pa_nil))))
    (pss_cons (ps_set (i := 2) sc_place_of.nd rfl (by first | exact Or.inl rfl | exact Or.inr rfl) pe_int)
    (pss_cons (ps_for PassesOwn.never rfl (pi_range1 rfl T.n_range (pa_cons (pv 0) pa_nil)) (pg_name (i := 3) sc_place_of.nd rfl (by first | exact Or.inl rfl | exact Or.inr rfl))
    (pss_cons (ps_set (i := 4) sc_place_of.nd rfl (by first | exact Or.inl rfl | exact Or.inr rfl) (pe_op SC.op_shl1 pe_int (pe_op op_sub (pe_op op_sub (pv 0) pe_int) (pv 3))))
    (pss_one (ps_if (pt_cmpR op_gt (pv 1) (pv 4) (nomark _))
    (pss_cons (ps_set (i := 2) sc_place_of.nd rfl (by first | exact Or.inl rfl | exact Or.inr rfl) (pe_op op_add (pv 2) (pe_op SC.op_shl1 pe_int (pv 3))))
    (pss_one (ps_set (i := 1) sc_place_of.nd rfl (by first | exact Or.inl rfl | exact Or.inr rfl) (pe_op op_sub (pe_op op_add (pe_op op_mul pe_int (pv 4)) pe_int) (pv 1))))) pss_nil))))
    (pss_one (ps_ret (pv 2))))))), ?_⟩
  walk_at "s"
  refine w_sp1 (by omega) fun H1 s1 => ?_
  walk_at "s"
  refine w_sp2 (by omega) fun H2 s2 => ?_
  walk_at "s"
  refine w_rng1 (by omega) (by omega) (fun d σ H' => ∃ y z u v, σ = [some (.int r), some (.int u), some (.int v), y, z] ∧ u = wy r p d ∧ v = pl r p d ∧ Sm H2 H') ⟨_, _, _, _, rfl, rfl, rfl, .refl _⟩ ?_ ?_
  · rintro d σ H' hd ⟨y, z, _, _, rfl, rfl, rfl, s3⟩
    walk_at "s"
    refine w_ifd (fun c => ?_) fun c => ?_
    · walk_at "s"
      exact ⟨_, _, _, _, rfl, (if_pos c).symm, (if_pos c).symm, s3⟩
    · refine w_next ?_
      exact ⟨_, _, _, _, rfl, (if_neg c).symm, (if_neg c).symm, s3⟩
  · rintro σ H' ⟨y, z, _, _, rfl, rfl, rfl, s3⟩
    walk_at "s"
    exact k _ ((s1.trans s2).trans s3)
theorem ok_count_levels (T : TX K mg base fa fd fc) : FnOk P w K mg base CX0 1 (fa 20) (fd 20) ["seeds"] (SpCnt K) := by
  refine T.F_count_levels.ok sc_count_levels (fun vs H Q E h => ?_) (fun cdv A outer s H vs Q E hr h => ?_)
  · obtain ⟨p, d, xs, rfl, hp, hl, q⟩ := h
    rfl
  obtain ⟨p, d, xs, rfl, hp, hl, q⟩ := h
  refine ⟨_, (pss_one (ps_ret (pe_op op_sub (pe_bits (pe_callB (r := SC.rLen K) SC.c_len (by rfl) T.n_len (by decide +kernel) (pa_cons (pv 0) pa_nil))) pe_int))), ?_⟩
  walk_at "r"
  rw [hl]
  exact vq (q _ (.refl _)) (by rw [← bits_pow (d := d)])
theorem ok_common_level (T : TX K mg base fa fd fc) : FnOk P w K mg base CX0 1 (fa 21) (fd 21) ["first", "second"] (Sp2 (fun i j => 0 ≤ i ∧ 0 ≤ j) (fun i j => .int (lvN i.toNat j.toNat : Nat))) := by
  refine T.F_common_level.ok sc_common_level (fun vs H Q E h => ?_) (fun cdv A outer s H vs Q E hr h => ?_)
  · obtain ⟨i, j, rfl, hp, q⟩ := h
    rfl
  obtain ⟨i, j, rfl, hp, q⟩ := h
  refine ⟨_, (pss_one (ps_ret (pe_bits (pe_op op_xor (pv 0) (pv 1))))), ?_⟩
  walk_at "r"
  exact vq (q _ (.refl _)) (by rw [lvN_xor hp.1 hp.2])
theorem ok_why_not_standard (T : TX K mg base fa fd fc) : FnOk P w K mg base CX0 6 (fa 17) (fd 17) ["draw"] (SpWhy fc) := by
  refine T.F_why_not_standard.ok sc_why_not_standard (fun vs H Q E h => ?_) (fun cdv A outer s H vs Q E hr h => ?_)
  · obtain ⟨p, d, r, rfl, hp, hd, ir, ht, q⟩ := h
    rfl
  obtain ⟨p, d, r, rfl, hp, hd, ir, ht, q⟩ := h
  refine ⟨_, (pss_cons (ps_expr (pe_call (ok_check_draw T) (hr.mono (by decide)) rfl T.g_check_draw T.F_check_draw.kp (bi_check_draw T) .nil pass0 (pa_cons (pv 0) pa_nil)))
    (pss_cons (ps_set (i := 1) sc_why_not_standard.nd rfl (by first | exact Or.inl rfl | exact Or.inr rfl) (pe_call (ok_count_levels T) (hr.mono (by decide)) rfl T.g_count_levels T.F_count_levels.kp (bi_count_levels T) .nil pass0 (pa_cons (pv 0) pa_nil)))
    (pss_cons (ps_setLc (i := 2) (own := [("seed", 3)]) (by rfl) sc_why_not_standard.nd rfl (by first | rfl | decide +kernel) (sw_true rfl rfl rfl (by decide +kernel)) (pi_list (pv 0)) (blkOk_by (own := [("seed", 3)]) (N := nm_why_not_standard) (sc := defScope s_why_not_standard) (by decide +kernel)) (fun _ _ _ _ _ => (pg_name (i := 3) sc_why_not_standard.nd rfl (by first | exact Or.inl rfl | exact Or.inr rfl))) (fun _ _ _ _ _ => pts_nil) (fun _ _ _ _ _ => (pe_call (ok_place_of T) (hr.mono (by decide)) rfl T.g_place_of T.F_place_of.kp (bi_place_of T) .nil pass0 (pa_cons (pv 1) (pa_cons (pv 3) pa_nil)))))
    (pss_cons (ps_for PassesOwn.never rfl (pi_range1 rfl T.n_range (pa_cons (pe_callB (r := SC.rLen K) SC.c_len (by rfl) T.n_len (by decide +kernel) (pa_cons (pv 0) pa_nil)) pa_nil)) (pg_name (i := 4) sc_why_not_standard.nd rfl (by first | exact Or.inl rfl | exact Or.inr rfl))
    (pss_one (ps_for PassesOwn.never rfl (pi_range1 rfl T.n_range (pa_cons (pv 4) pa_nil)) (pg_name (i := 5) sc_why_not_standard.nd rfl (by first | exact Or.inl rfl | exact Or.inr rfl))
    (pss_one (ps_if (pt_cmpR op_ne (pe_call (ok_common_level T) (hr.mono (by decide)) rfl T.g_common_level T.F_common_level.kp (bi_common_level T) .nil pass0 (pa_cons (pv 5) (pa_cons (pv 4) pa_nil))) (pe_call (ok_common_level T) (hr.mono (by decide)) rfl T.g_common_level T.F_common_level.kp (bi_common_level T) .nil pass0 (pa_cons (pe_ix (r := rIxL K) ix_list (pv 2) (pv 5) (fun _ _ => rfl)) (pa_cons (pe_ix (r := rIxL K) ix_list (pv 2) (pv 4) (fun _ _ => rfl)) pa_nil))) (nomark _))
    (pss_one (ps_ret (pe_tup (pa_cons (pv 5) (pa_cons (pv 4) pa_nil))))) pss_nil)))))
    (pss_one (ps_ret pe_non)))))), ?_⟩
  have rl := ir.len
  have lim : 2 ^ d ≤ 2 ^ 7 := Nat.pow_le_pow_right (by decide) hd.2
  walk_at "r"
  refine ⟨p, d, r, rfl, hp, hd, ir, ht, fun H1 e1 => ?_⟩
  walk_at "r"
  refine ⟨p, d, _, rfl, sq_of (e1 _ _ hp), by rw [List.length_map]; exact rl, fun H2 e2 => ?_⟩
  have e12 := e1.trans e2
  walk_at "r"
  refine w_lcl (fun j => V.int (SC.placeOf d (r.getD j 0))) (sq_of (e12 _ _ hp)) (by rw [List.length_map]; omega) (fun _ => rfl) (fun j x H' hj e R hR => ?_) fun D H3 e3 f3 h3 => ?_
  · rw [List.getElem?_map] at hj
    obtain ⟨v, hv, rfl⟩ := Option.map_eq_some_iff.mp hj
    have ok := ir.ok v (List.mem_of_getElem? hv)
    have z : r.getD j 0 = v := by rw [List.getD_eq_getElem?_getD, hv]; rfl
    rw [z] at hR
    walk_at "r"
    rename_i H4 e4
    exact hR _ e4
  have h3 : H3 D = some (.lst ((r.map fun x => SC.placeOf d x).map V.int)) := by
    rw [h3, List.length_map, mapD r (fun x => V.int (SC.placeOf d x)) 0, List.map_map]
    rfl
  have e13 := e12.trans e3
  have pat : ∀ j : Nat, j < 2 ^ d → atI ((r.map fun x => SC.placeOf d x).map V.int) (j : Int) = some (.int (plN d (r.getD j 0) : Nat)) := fun j hj => by
    refine atI_nat ?_
    have hj' : j < r.length := by omega
    rw [List.getElem?_map, List.getElem?_map, List.getElem?_eq_getElem hj', List.getD_eq_getElem?_getD, List.getElem?_eq_getElem hj']
    have := place_range d r[j] (by omega)
    show some (V.int (SC.placeOf d r[j])) = some (V.int ((SC.placeOf d r[j]).toNat : Int))
    rw [Int.toNat_of_nonneg this.1]
  walk_at "r"
  rw [List.length_map, rl]
  refine w_rng1 (by omega) (by omega) (fun j σ H' => ∃ y3 y4 y5 : Option V, σ = [some (.ref p), some (.int d), some (.ref D), y3, y4, y5] ∧ Sm H3 H' ∧ ∀ j', j' < j → ∀ i, i < j' → badP d r i j' = false) ⟨_, _, _, rfl, .refl _, fun j' h => absurd h (Nat.not_lt_zero _)⟩ ?_ ?_
  · rintro j σ' H4 hj ⟨y3, y4, y5, rfl, e4, no⟩
    walk_at "r"
    refine w_rng1 (by omega) (by omega) (fun i σ H' => ∃ y5 : Option V, σ = [some (.ref p), some (.int d), some (.ref D), y3, some (.int j), y5] ∧ Sm H3 H' ∧ ∀ i', i' < i → badP d r i' j = false) ⟨_, rfl, e4, fun i' h => absurd h (Nat.not_lt_zero _)⟩ ?_ ?_
    · rintro i σ' H5 hi ⟨y5, rfl, e5, no2⟩
      walk_at "r"
      rename_i H6 e6
      refine w_ixL (sq_of ((e5.trans e6) _ _ h3)) (pat i (by omega)) ?_
      walk_at "r"
      refine w_ixL (sq_of ((e5.trans e6) _ _ h3)) (pat j (by omega)) ?_
      walk_at "r"
      rename_i H7 e7
      rw [Int.toNat_natCast, Int.toNat_natCast, Int.toNat_natCast, Int.toNat_natCast]
      refine w_ifd (fun c => ?_) fun c => ?_
      · walk_at "r"
        rename_i T8 H8 e8 f8 h8
        exact q (some (i, j)) _ _ ⟨⟨by omega, by omega⟩, decide_eq_true (by intro z; rw [z] at c; exact c rfl), no, no2⟩ ((((e13.trans e5).trans e6).trans e7).trans e8) ⟨T8, rfl, h8⟩
      · walk_at "r"
        refine ⟨_, rfl, (e5.trans e6).trans e7, fun i' hi' => ?_⟩
        by_cases z : i' = i
        · subst z
          exact decide_eq_false (by intro z; apply c; intro z2; exact z (by omega))
        · exact no2 i' (by omega)
    · rintro σ' H5 ⟨y5, rfl, e5, no2⟩
      exact ⟨_, _, _, rfl, e5, fun j' hj' i hi => by
        by_cases c : j' = j
        · subst c; exact no2 i (by omega)
        · exact no j' (by omega) i hi⟩
  · rintro σ' H4 ⟨y3, y4, y5, rfl, e4, no⟩
    walk_at "r"
    exact q none _ _ (fun j hj i hi => no j (by omega) i hi) (e13.trans e4) rfl
theorem ok_is_standard (T : TX K mg base fa fd fc) : FnOk P w K mg base CX0 7 (fa 16) (fd 16) ["draw"] (SpStd fc) := by
  refine T.F_is_standard.ok sc_is_standard (fun vs H Q E h => ?_) (fun cdv A outer s H vs Q E hr h => ?_)
  · obtain ⟨p, d, r, rfl, hp, hd, ir, ht, q⟩ := h
    rfl
  obtain ⟨p, d, r, rfl, hp, hd, ir, ht, q⟩ := h
  refine ⟨_, (pss_one (ps_ret (pe_cmpR (r := rIsN) op_isN1 (pe_call (ok_why_not_standard T) (hr.mono (by decide)) rfl T.g_why_not_standard T.F_why_not_standard.kp (bi_why_not_standard T) .nil pass0 (pa_cons (pv 0) pa_nil)) pe_non (nomark _)))), ?_⟩
  walk_at "r"
  refine ⟨p, d, r, rfl, hp, hd, ir, ht, fun x v H1 hx e1 hv => ?_⟩
  refine w_isN ?_
  rw [hv.isn]
  exact q _ _ (by rw [decide_eq_true_iff]; exact first_std hx) e1
theorem ok_law_cell (T : TX K mg base fa fd fc) : FnOk P w K mg base CX0 1 (fa 25) (fd 25) ["script", "k"] (SpCell K) := by
  refine T.F_law_cell.ok sc_law_cell (fun vs H Q E h => ?_) (fun cdv A outer s H vs Q E hr h => ?_)
  · obtain ⟨p, ns, k, rfl, hS, k0, q⟩ := h
    rfl
  obtain ⟨p, ns, k, rfl, hS, k0, q⟩ := h
  refine ⟨_, (pss_one (ps_ret (pe_ifExp (pt_cmpR op_lt (pv 1) (pe_callB (r := SC.rLen K) SC.c_len (by rfl) T.n_len (by decide +kernel) (pa_cons (pv 0) pa_nil)) (nomark _)) (pe_ix (r := rIxL K) ix_list (pv 0) (pv 1) (fun _ _ => rfl)) pe_int))), ?_⟩
  walk_at "s"
  refine w_lenL hS ?_
  walk_at "s"
  refine w_ifd (fun c => ?_) fun c => ?_
  · walk_at "s"
    obtain ⟨m, em, _⟩ := pickI (fun _ => True) k0 (by simpa using c) (fun _ _ => trivial)
    refine w_ixL hS em ?_
    exact q _ _ (.refl _)
  · walk_at "s"
    exact q _ _ (.refl _)
theorem ok_law_source (T : TX K mg base fa fd fc) : FnOk P w K mg base CX0 1 (fa 26) (fd 26) ["cell"] (SpSourceC) := by
  refine T.F_law_source.ok sc_law_source (fun vs H Q E h => ?_) (fun cdv A outer s H vs Q E hr h => ?_)
  · obtain ⟨c, rfl, q⟩ := h
    rfl
  obtain ⟨c, rfl, q⟩ := h
  refine ⟨_, (pss_one (ps_ret (pe_lst (pa_cons (pe_callB (SC.c_max2 rfl) (by rfl) T.n_max (by decide +kernel) (pa_cons pe_int (pa_cons (pe_op op_sub (pe_callB SC.c_abs (by rfl) T.n_abs (by decide +kernel) (pa_cons (pv 0) pa_nil)) (pe_op SC.op_powX pe_int pe_int)) pa_nil))) (pa_cons (pe_op SC.op_modR (pv 0) (pe_op op_add (pe_op SC.op_powX pe_int pe_int) pe_int)) (pa_cons pe_int pa_nil)))))), ?_⟩
  walk_at "s"
  refine w_modG (by decide) fun r r0 r1 => ?_
  walk_at "s"
  refine w_new fun a H' s1 ha e => ?_
  refine q a H' ha s1 ⟨_, _, _, e, by omega, by omega, ?_, by omega, by omega⟩
  have b1 : (10 : Int) ^ Int.toNat 35 + 69 < 2 ^ 200 := by decide
  omega
theorem ok_law_draw (T : TX K mg base fa fd fc) : FnOk P w K mg base CX0 1 (fa 27) (fd 27) ["source", "bound"] (SpDraw) := by
  refine T.F_law_draw.ok sc_law_draw (fun vs H Q E h => ?_) (fun cdv A outer s H vs Q E hr h => ?_)
  · obtain ⟨a, N, b, rfl, ⟨c0, c1, c2, h, g0, g1, g2, g3, g4⟩, hb, hb2, hN, k⟩ := h
    rfl
  obtain ⟨a, N, b, rfl, ⟨c0, c1, c2, h, g0, g1, g2, g3, g4⟩, hb, hb2, hN, k⟩ := h
  refine ⟨_, (pss_cons (ps_if (pt_cmpR op_gt (pe_ix (r := rIxL K) ix_list (pv 0) pe_int (fun _ _ => rfl)) pe_int (nomark _))
    (pss_cons (ps_set (i := 2) sc_law_draw.nd rfl (by first | exact Or.inl rfl | exact Or.inr rfl) (pe_op SC.op_modR (pe_ix (r := rIxL K) ix_list (pv 0) pe_int (fun _ _ => rfl)) (pv 1)))
    (pss_cons (ps_asg (pe_op op_fdivW (pe_ix (r := rIxL K) ix_list (pv 0) pe_int (fun _ _ => rfl)) (pv 1)) (pg_sub (pv 0) pe_int set_list))
    (pss_one (ps_ret (pv 2))))) pss_nil)
    (pss_cons (ps_asg (pe_op op_add (pe_ix (r := rIxL K) ix_list (pv 0) pe_int (fun _ _ => rfl)) pe_int) (pg_sub (pv 0) pe_int set_list))
    (pss_cons (ps_set (i := 3) sc_law_draw.nd rfl (by first | exact Or.inl rfl | exact Or.inr rfl) (pe_op SC.op_modR (pe_op SC.op_powX (pe_op op_add (pe_op op_add (pe_ix (r := rIxL K) ix_list (pv 0) pe_int (fun _ _ => rfl)) (pe_op op_mul pe_int (pe_ix (r := rIxL K) ix_list (pv 0) pe_int (fun _ _ => rfl)))) pe_int) pe_int) (pe_op op_add (pe_op SC.op_powX pe_int pe_int) pe_int)))
    (pss_cons (ps_set (i := 3) sc_law_draw.nd rfl (by first | exact Or.inl rfl | exact Or.inr rfl) (pe_op SC.op_modR (pe_op SC.op_powX (pe_op op_add (pv 3) (pe_op op_mul pe_int (pe_ix (r := rIxL K) ix_list (pv 0) pe_int (fun _ _ => rfl)))) pe_int) (pe_op op_add (pe_op SC.op_powX pe_int pe_int) pe_int)))
    (pss_one (ps_ret (pe_op SC.op_modR (pe_op op_fdivW (pv 3) pe_int) (pv 1)))))))), ?_⟩
  walk_at "s"
  refine w_ixL (.inl (.inl h)) rfl ?_
  walk_at "s"
  refine w_ifd (fun c => ?_) fun c => ?_
  · walk_at "s"
    refine w_ixL (.inl (.inl h)) rfl ?_
    walk_at "s"
    refine w_modE hb ?_
    walk_at "s"
    refine w_ixL (.inl (.inl h)) rfl ?_
    walk_at "s"
    refine w_i (wide_div hb (big_abs hb hb2) (by decide) (by decide)) ?_
    walk_at "s"
    refine w_setL h rfl ?_
    walk_at "s"
    exact k _ _ (Int.emod_nonneg _ (by omega)) (Int.emod_lt_of_pos _ hb) kp_upd ⟨_, _, _, upd_same, Int.ediv_nonneg (by omega) (by omega), g1, g2, g3, by omega⟩
  · walk_at "s"
    refine w_ixL (.inl (.inl h)) rfl ?_
    walk_at "s"
    refine w_setL h rfl ?_
    have h' := upd_same (H := H) (a := a) (o := .lst [.int c0, .int c1, .int (c2 + 1)])
    have b0 : LIM = 1000000000000 := rfl
    walk_at "s"
    refine w_ixL (.inl (.inl h')) rfl ?_
    walk_at "s"
    refine w_ixL (.inl (.inl h')) rfl ?_
    walk_at "s"
    refine w_i (cpow_ok (by omega) (by have b1 : (2 : Int) ^ 200 + 67867967 * 10000000000000 + 5 < 2 ^ 400 := by decide
                                       omega) (by decide) (by decide)) ?_
    walk_at "s"
    refine w_modG (by decide) fun r r0 r1 => ?_
    walk_at "s"
    refine w_ixL (.inl (.inl h')) rfl ?_
    walk_at "s"
    refine w_i (cpow_ok (by omega) (by have b1 : (10 : Int) ^ Int.toNat 40 + 121 + 122949823 * 10000000000000 < 2 ^ 400 := by decide
                                       omega) (by decide) (by decide)) ?_
    walk_at "s"
    refine w_modG (by decide) fun r' r0' r1' => ?_
    walk_at "s"
    refine w_modE hb ?_
    exact k _ _ (Int.emod_nonneg _ (by omega)) (Int.emod_lt_of_pos _ hb) kp_upd ⟨_, _, _, h', by omega, g1, g2, by omega, by omega⟩
theorem ok_law_power (T : TX K mg base fa fd fc) : FnOk P w K mg base CX0 1 (fa 28) (fd 28) ["many"] (Sp1 (fun n => 0 ≤ n ∧ n ≤ 200) (fun n => .int (p2 n))) := by
  refine T.F_law_power.ok sc_law_power (fun vs H Q E h => ?_) (fun cdv A outer s H vs Q E hr h => ?_)
  · obtain ⟨n, rfl, hn, k⟩ := h
    rfl
  obtain ⟨n, rfl, hn, k⟩ := h
  refine ⟨_, (pss_cons (ps_set (i := 1) sc_law_power.nd rfl (by first | exact Or.inl rfl | exact Or.inr rfl) pe_int)
    (pss_cons (ps_for PassesOwn.never rfl (pi_range1 rfl T.n_range (pa_cons (pv 0) pa_nil)) (pg_name (i := 2) sc_law_power.nd rfl (by first | exact Or.inl rfl | exact Or.inr rfl))
    (pss_one (ps_set (i := 1) sc_law_power.nd rfl (by first | exact Or.inl rfl | exact Or.inr rfl) (pe_op op_mul (pv 1) pe_int))))
    (pss_one (ps_ret (pv 1))))), ?_⟩
  walk_at "s"
  refine w_rng1 (by omega) (by omega) (fun d σ H' => ∃ y, σ = [some (.int n), some (.int (p2 d)), y] ∧ Sm H H') ⟨_, by rw [show p2 ((0 : Nat) : Int) = 1 from p2_zero]; rfl, .refl _⟩ ?_ ?_
  · rintro d σ H' hd ⟨y, rfl, s1⟩
    walk_at "s"
    exact ⟨_, by rw [Int.mul_comm, ← p2_succ (by omega)]; rfl, s1⟩
  · rintro σ H' ⟨y, rfl, s1⟩
    walk_at "s"
    rw [show ((n.toNat : Nat) : Int) = n by omega]
    exact k _ s1
theorem ok_law_bracket (T : TX K mg base fa fd fc) : FnOk P w K mg base CX0 1 (fa 29) (fd 29) ["size"] (SpBrE) := by
  refine T.F_law_bracket.ok sc_law_bracket (fun vs H Q E h => ?_) (fun cdv A outer s H vs Q E hr h => ?_)
  · obtain ⟨n, rfl, hn, q⟩ := h
    rfl
  obtain ⟨n, rfl, hn, q⟩ := h
  refine ⟨_, (pss_cons (ps_set (i := 1) sc_law_bracket.nd rfl (by first | exact Or.inl rfl | exact Or.inr rfl) (pe_lst (pa_cons pe_int pa_nil)))
    (pss_cons (ps_for PassesOwn.never rfl (pi_range1 rfl T.n_range (pa_cons (pv 0) pa_nil)) (pg_name (i := 2) sc_law_bracket.nd rfl (by first | exact Or.inl rfl | exact Or.inr rfl))
    (pss_cons (ps_set (i := 3) sc_law_bracket.nd rfl (by first | exact Or.inl rfl | exact Or.inr rfl) (pe_lst pa_nil))
    (pss_cons (ps_for PassesOwn.never rfl (pi_list (pv 1)) (pg_name (i := 4) sc_law_bracket.nd rfl (by first | exact Or.inl rfl | exact Or.inr rfl))
    (pss_one (ps_expr (pe_bm PySem.F.plainAttrs_list PySem.F.slot_list_extend PySem.F.type_list_extend mt_extend (pv 3) (pa_cons (pe_lst (pa_cons (pv 4) (pa_cons (pe_op op_sub (pe_op op_add (pe_op op_mul pe_int (pe_callB (r := SC.rLen K) SC.c_len (by rfl) T.n_len (by decide +kernel) (pa_cons (pv 1) pa_nil))) pe_int) (pv 4)) pa_nil))) pa_nil)))))
    (pss_one (ps_set (i := 1) sc_law_bracket.nd rfl (by first | exact Or.inl rfl | exact Or.inr rfl) (pv 3))))))
    (pss_one (ps_ret (pv 1))))), ?_⟩
  walk_at "r"
  rename_i L0 H0 e0 f0 h0
  refine w_rng1 (by omega) (by omega) (fun d σ H' => ∃ p y2 y3 y4, σ = [some (.int n), some (.ref p), y2, y3, y4] ∧ Sm H H' ∧ H p = none ∧ H' p = some (.lst ((brk d).map V.int))) ⟨_, _, _, _, rfl, e0, f0, h0⟩ ?_ ?_
  · rintro d σ H' hd ⟨p, y2, y3, y4, rfl, s3, hp, e3⟩
    walk_at "r"
    rename_i q0 H2 s2 hq0 e2
    have e3' := s2 _ _ e3
    have lim : 2 ^ d ≤ 2 ^ 7 := Nat.pow_le_pow_right (by decide) (by omega)
    have bl := brk_len d
    have pd : p2 (0 + (d : Int)) = ((2 ^ d : Nat) : Int) := by rw [Int.zero_add, p2_nat]
    refine w_lst (sq_of e3') (fun i σ H' => ∃ y, σ = [some (.int n), some (.ref p), some (.int d), some (.ref q0), y] ∧ Sm H H' ∧ H' p = some (.lst ((brk d).map V.int)) ∧ H' q0 = some (.lst ((((brk d).take i).flatMap fun x => [x, 2 * p2 (0 + (d : Int)) + 1 - x]).map V.int))) ⟨_, rfl, s3.trans s2, e3', by simpa using e2⟩ (fun i σ H' _ ⟨y, _, _, h, _⟩ => sq_of h) ?_ ?_
    · rintro i x σ H' hx ⟨y, rfl, s4, e4, e5⟩
      obtain ⟨x, hy, rfl⟩ := at_int hx
      have hi : i < 2 ^ d := by
        have := (List.getElem?_eq_some_iff.mp hy).1
        omega
      walk_at "r"
      rename_i T H5 s5 hr e6
      have fl : ∀ l : List Int, (l.flatMap fun x => [x, 2 * p2 (0 + (d : Int)) + 1 - x]).length = 2 * l.length := fun l => by
        induction l with
        | nil => rfl
        | cons a r ih => simp only [List.flatMap_cons, List.length_append, List.length_cons, List.length_nil, ih]; omega
      have fq := s3.free hq0
      have nq : p ≠ q0 := ne_of_none e3 hq0
      refine w_extend (s5 _ _ e5) e6 (by rw [List.length_map, fl, List.length_take]; simp only [List.length_cons, List.length_nil]; omega) ?_
      walk_at "r"
      refine ⟨_, rfl, sm_upd (s4.trans s5) fq, by rw [upd_ne nq]; exact s5 _ _ e4, ?_⟩
      rw [upd_same]
      congr 2
      rw [List.take_add_one, hy, List.flatMap_append, List.map_append]
      congr 1
      simp only [Option.toList_some, List.flatMap_cons, List.flatMap_nil, List.append_nil, List.map_cons, List.map_nil, List.length_map, bl, pd]
    · rintro σ H' ⟨y, rfl, s4, e4, e5⟩
      walk_at "r"
      refine ⟨q0, _, _, _, rfl, s4, s3.free hq0, ?_⟩
      rw [e5, List.length_map, List.take_length]
      rfl
  · rintro σ H' ⟨p, y2, y3, y4, rfl, s3, hp, e3⟩
    walk_at "r"
    exact q _ _ hp s3 e3
theorem ok_swapped0 (T : TX K mg base fa fd fc) : FnOk P w K mg base CX0 2 (fa 30) (fd 30) ["source", "row"] (SpSw 0) := by
  refine T.F_law_swapped.ok sc_law_swapped (fun vs H Q E h => ?_) (fun cdv A outer s H vs Q E hr h => ?_)
  · obtain ⟨a, p, xs, N, rfl, sp, hp, hl, np, hN, q⟩ := h
    rfl
  obtain ⟨a, p, xs, N, rfl, sp, hp, hl, np, hN, q⟩ := h
  refine ⟨_, (pss_cons (ps_if (pt_cmpR op_eq (pe_callB (r := SC.rLen K) SC.c_len (by rfl) T.n_len (by decide +kernel) (pa_cons (pv 1) pa_nil)) pe_int (nomark _))
    (pss_one (ps_ret (pv 1))) pss_nil)
    pss_never), ?_⟩
  walk_at "r"
  rw [List.length_map, hl]
  walk_at "r"
  exact q p H xs (.refl _) (.refl _ _) (sp.mono (by omega)) hp (.inl rfl) np
theorem ok_swapped1 (T : TX K mg base fa fd fc) : FnOk P w K mg base CX0 3 (fa 30) (fd 30) ["source", "row"] (SpSw 1) := by
  refine T.F_law_swapped.ok sc_law_swapped (fun vs H Q E h => ?_) (fun cdv A outer s H vs Q E hr h => ?_)
  · obtain ⟨a, p, xs, N, rfl, sp, hp, hl, np, hN, q⟩ := h
    rfl
  obtain ⟨a, p, xs, N, rfl, sp, hp, hl, np, hN, q⟩ := h
  refine ⟨_, (pss_cons (ps_if (pt_cmpR op_eq (pe_callB (r := SC.rLen K) SC.c_len (by rfl) T.n_len (by decide +kernel) (pa_cons (pv 1) pa_nil)) pe_int (nomark _))
    (pss_one (ps_ret (pv 1))) pss_nil)
    (pss_cons (ps_set (i := 2) sc_law_swapped.nd rfl (by first | exact Or.inl rfl | exact Or.inr rfl) (pe_op op_fdivW (pe_callB (r := SC.rLen K) SC.c_len (by rfl) T.n_len (by decide +kernel) (pa_cons (pv 1) pa_nil)) pe_int))
    (pss_cons (ps_set (i := 3) sc_law_swapped.nd rfl (by first | exact Or.inl rfl | exact Or.inr rfl) (pe_lst (pa_cons (pe_call (ok_swapped0 T) (hr.mono (by decide)) rfl T.g_law_swapped T.F_law_swapped.kp (bi_law_swapped T) .nil pass0 (pa_cons (pv 0) (pa_cons (pe_slice (r := rSlL K) sl_list (pv 1) po_none (po_some (pv 2))) pa_nil))) (pa_cons (pe_call (ok_swapped0 T) (hr.mono (by decide)) rfl T.g_law_swapped T.F_law_swapped.kp (bi_law_swapped T) .nil pass0 (pa_cons (pv 0) (pa_cons (pe_slice (r := rSlL K) sl_list (pv 1) (po_some (pv 2)) po_none) pa_nil))) pa_nil))))
    (pss_cons (ps_if (pt_cmpR op_eq (pe_call (ok_law_draw T) (hr.mono (by decide)) rfl T.g_law_draw T.F_law_draw.kp (bi_law_draw T) .nil pass0 (pa_cons (pv 0) (pa_cons pe_int pa_nil))) pe_int (nomark _))
    (pss_one (ps_set (i := 3) sc_law_swapped.nd rfl (by first | exact Or.inl rfl | exact Or.inr rfl) (pe_revL (pv 3)))) pss_nil)
    (pss_one (ps_ret (pe_op op_cat (pe_ix (r := rIxL K) ix_list (pv 3) pe_int (fun _ _ => rfl)) (pe_ix (r := rIxL K) ix_list (pv 3) pe_int (fun _ _ => rfl))))))))), ?_⟩
  obtain ⟨e, he⟩ : ∃ e : Nat, e = 2 ^ 0 := ⟨_, rfl⟩
  have hl2 : xs.length = 2 * e := by rw [hl, he]
  have e1 : 1 ≤ e ∧ e ≤ 64 := by rw [he]; decide
  have hN2 : N + 2 * (e : Int) < LIM := by rw [he]; exact hN
  have q : ∀ (L : Addr) (H' : Hp) (ys : List Int), ys.Perm xs → Kp a H H' → Src a (N + 2 * (e : Int) - 1) H' → H' L = some (.lst (ys.map V.int)) → (L = p ∨ H L = none) → L ≠ a → Q (.ref L) H' := by rw [he]; exact q
  walk_at "r"
  rw [List.length_map, hl2]
  walk_at "r"
  rw [show (((xs.map V.int).length : Nat) : Int) / 2 = (e : Int) by rw [List.length_map, hl2]; omega]
  refine w_sl (sq_of hp) fun p1 H1 s1 f1 h1 => ?_
  rw [cut_take (by rw [List.length_map]; omega), ← List.map_take] at h1
  have n1 : p1 ≠ a := sp.ne f1
  walk_at "r"
  refine ⟨a, p1, _, N, rfl, sp.same s1, h1, by rw [List.length_take, hl2, ← he]; omega, n1, by rw [← he]; omega, fun L2 H2 ys pm g2 s2 h2 o2 n2 => ?_⟩
  rw [← he] at s2
  have k2 : Kp a H H2 := (Kp.of_same s1).trans g2
  have hp2 := k2 _ _ np hp
  walk_at "r"
  refine w_sl (sq_of hp2) fun p3 H3 s3 f3 h3 => ?_
  rw [cut_drop, ← List.map_drop] at h3
  have n3 : p3 ≠ a := s2.ne f3
  walk_at "r"
  refine ⟨a, p3, _, _, rfl, s2.same s3, h3, by rw [List.length_drop, hl2, ← he]; omega, n3, by rw [← he]; omega, fun L4 H4 zs pn g4 s4 h4 o4 n4 => ?_⟩
  rw [← he] at s4
  have k4 : Kp a H2 H4 := (Kp.of_same s3).trans g4
  have h24 := k4 _ _ n2 h2
  have ly : ys.length = e := by rw [pm.length_eq, List.length_take, hl2]; omega
  have lz : zs.length = e := by rw [pn.length_eq, List.length_drop, hl2]; omega
  have j := pm.append pn
  rw [List.take_append_drop] at j
  have j2 := List.perm_append_comm.trans j
  walk_at "r"
  rename_i L5 H5 e5 f5 h5 r6 H6 r60 r61 g6 s6
  have n5 : L5 ≠ a := s4.ne f5
  have h56 := g6 _ _ n5 h5
  have k46 : Kp a H4 H6 := (Kp.of_same e5).trans g6
  have k26 := k4.trans k46
  have k06 := k2.trans k26
  have h26 := k26 _ _ n2 h2
  have h46 := k46 _ _ n4 h4
  refine w_ifd (fun c => ?_) fun c => ?_
  · walk_at "r"
    refine w_revL ?_
    walk_at "r"
    refine w_revB (sq_of h56) fun L7 H7 e7 f7 h7 => ?_
    walk_at "r"
    refine w_cat (e7 _ _ h46) (e7 _ _ h26) (by rw [List.length_map, List.length_map]; omega) fun L8 H8 e8 f8 h8 => ?_
    rw [← List.map_append] at h8
    have k := k06.trans (Kp.of_same (e7.trans e8))
    have f := (k06.trans (Kp.of_same e7)).fr _ (((s6.same e7)).ne f8) f8
    refine q L8 H8 _ j2 k (((s6.same e7).same e8).mono (by omega)) h8 (.inr f) ((s6.same e7).ne f8)
  · walk_at "r"
    refine w_cat h26 h46 (by rw [List.length_map, List.length_map]; omega) fun L8 H8 e8 f8 h8 => ?_
    rw [← List.map_append] at h8
    have k := k06.trans (Kp.of_same e8)
    have f := k06.fr _ (s6.ne f8) f8
    refine q L8 H8 _ j k ((s6.same e8).mono (by omega)) h8 (.inr f) (s6.ne f8)
theorem ok_swapped2 (T : TX K mg base fa fd fc) : FnOk P w K mg base CX0 4 (fa 30) (fd 30) ["source", "row"] (SpSw 2) := by
  refine T.F_law_swapped.ok sc_law_swapped (fun vs H Q E h => ?_) (fun cdv A outer s H vs Q E hr h => ?_)
  · obtain ⟨a, p, xs, N, rfl, sp, hp, hl, np, hN, q⟩ := h
    rfl
  obtain ⟨a, p, xs, N, rfl, sp, hp, hl, np, hN, q⟩ := h
  refine ⟨_, (pss_cons (ps_if (pt_cmpR op_eq (pe_callB (r := SC.rLen K) SC.c_len (by rfl) T.n_len (by decide +kernel) (pa_cons (pv 1) pa_nil)) pe_int (nomark _))
    (pss_one (ps_ret (pv 1))) pss_nil)
    (pss_cons (ps_set (i := 2) sc_law_swapped.nd rfl (by first | exact Or.inl rfl | exact Or.inr rfl) (pe_op op_fdivW (pe_callB (r := SC.rLen K) SC.c_len (by rfl) T.n_len (by decide +kernel) (pa_cons (pv 1) pa_nil)) pe_int))
    (pss_cons (ps_set (i := 3) sc_law_swapped.nd rfl (by first | exact Or.inl rfl | exact Or.inr rfl) (pe_lst (pa_cons (pe_call (ok_swapped1 T) (hr.mono (by decide)) rfl T.g_law_swapped T.F_law_swapped.kp (bi_law_swapped T) .nil pass0 (pa_cons (pv 0) (pa_cons (pe_slice (r := rSlL K) sl_list (pv 1) po_none (po_some (pv 2))) pa_nil))) (pa_cons (pe_call (ok_swapped1 T) (hr.mono (by decide)) rfl T.g_law_swapped T.F_law_swapped.kp (bi_law_swapped T) .nil pass0 (pa_cons (pv 0) (pa_cons (pe_slice (r := rSlL K) sl_list (pv 1) (po_some (pv 2)) po_none) pa_nil))) pa_nil))))
    (pss_cons (ps_if (pt_cmpR op_eq (pe_call (ok_law_draw T) (hr.mono (by decide)) rfl T.g_law_draw T.F_law_draw.kp (bi_law_draw T) .nil pass0 (pa_cons (pv 0) (pa_cons pe_int pa_nil))) pe_int (nomark _))
    (pss_one (ps_set (i := 3) sc_law_swapped.nd rfl (by first | exact Or.inl rfl | exact Or.inr rfl) (pe_revL (pv 3)))) pss_nil)
    (pss_one (ps_ret (pe_op op_cat (pe_ix (r := rIxL K) ix_list (pv 3) pe_int (fun _ _ => rfl)) (pe_ix (r := rIxL K) ix_list (pv 3) pe_int (fun _ _ => rfl))))))))), ?_⟩
  obtain ⟨e, he⟩ : ∃ e : Nat, e = 2 ^ 1 := ⟨_, rfl⟩
  have hl2 : xs.length = 2 * e := by rw [hl, he]
  have e1 : 1 ≤ e ∧ e ≤ 64 := by rw [he]; decide
  have hN2 : N + 2 * (e : Int) < LIM := by rw [he]; exact hN
  have q : ∀ (L : Addr) (H' : Hp) (ys : List Int), ys.Perm xs → Kp a H H' → Src a (N + 2 * (e : Int) - 1) H' → H' L = some (.lst (ys.map V.int)) → (L = p ∨ H L = none) → L ≠ a → Q (.ref L) H' := by rw [he]; exact q
  walk_at "r"
  rw [List.length_map, hl2]
  walk_at "r"
  rw [show (((xs.map V.int).length : Nat) : Int) / 2 = (e : Int) by rw [List.length_map, hl2]; omega]
  refine w_sl (sq_of hp) fun p1 H1 s1 f1 h1 => ?_
  rw [cut_take (by rw [List.length_map]; omega), ← List.map_take] at h1
  have n1 : p1 ≠ a := sp.ne f1
  walk_at "r"
  refine ⟨a, p1, _, N, rfl, sp.same s1, h1, by rw [List.length_take, hl2, ← he]; omega, n1, by rw [← he]; omega, fun L2 H2 ys pm g2 s2 h2 o2 n2 => ?_⟩
  rw [← he] at s2
  have k2 : Kp a H H2 := (Kp.of_same s1).trans g2
  have hp2 := k2 _ _ np hp
  walk_at "r"
  refine w_sl (sq_of hp2) fun p3 H3 s3 f3 h3 => ?_
  rw [cut_drop, ← List.map_drop] at h3
  have n3 : p3 ≠ a := s2.ne f3
  walk_at "r"
  refine ⟨a, p3, _, _, rfl, s2.same s3, h3, by rw [List.length_drop, hl2, ← he]; omega, n3, by rw [← he]; omega, fun L4 H4 zs pn g4 s4 h4 o4 n4 => ?_⟩
  rw [← he] at s4
  have k4 : Kp a H2 H4 := (Kp.of_same s3).trans g4
  have h24 := k4 _ _ n2 h2
  have ly : ys.length = e := by rw [pm.length_eq, List.length_take, hl2]; omega
  have lz : zs.length = e := by rw [pn.length_eq, List.length_drop, hl2]; omega
  have j := pm.append pn
  rw [List.take_append_drop] at j
  have j2 := List.perm_append_comm.trans j
  walk_at "r"
  rename_i L5 H5 e5 f5 h5 r6 H6 r60 r61 g6 s6
  have n5 : L5 ≠ a := s4.ne f5
  have h56 := g6 _ _ n5 h5
  have k46 : Kp a H4 H6 := (Kp.of_same e5).trans g6
  have k26 := k4.trans k46
  have k06 := k2.trans k26
  have h26 := k26 _ _ n2 h2
  have h46 := k46 _ _ n4 h4
  refine w_ifd (fun c => ?_) fun c => ?_
  · walk_at "r"
    refine w_revL ?_
    walk_at "r"
    refine w_revB (sq_of h56) fun L7 H7 e7 f7 h7 => ?_
    walk_at "r"
    refine w_cat (e7 _ _ h46) (e7 _ _ h26) (by rw [List.length_map, List.length_map]; omega) fun L8 H8 e8 f8 h8 => ?_
    rw [← List.map_append] at h8
    have k := k06.trans (Kp.of_same (e7.trans e8))
    have f := (k06.trans (Kp.of_same e7)).fr _ (((s6.same e7)).ne f8) f8
    refine q L8 H8 _ j2 k (((s6.same e7).same e8).mono (by omega)) h8 (.inr f) ((s6.same e7).ne f8)
  · walk_at "r"
    refine w_cat h26 h46 (by rw [List.length_map, List.length_map]; omega) fun L8 H8 e8 f8 h8 => ?_
    rw [← List.map_append] at h8
    have k := k06.trans (Kp.of_same e8)
    have f := k06.fr _ (s6.ne f8) f8
    refine q L8 H8 _ j k ((s6.same e8).mono (by omega)) h8 (.inr f) (s6.ne f8)
theorem ok_swapped3 (T : TX K mg base fa fd fc) : FnOk P w K mg base CX0 5 (fa 30) (fd 30) ["source", "row"] (SpSw 3) := by
  refine T.F_law_swapped.ok sc_law_swapped (fun vs H Q E h => ?_) (fun cdv A outer s H vs Q E hr h => ?_)
  · obtain ⟨a, p, xs, N, rfl, sp, hp, hl, np, hN, q⟩ := h
    rfl
  obtain ⟨a, p, xs, N, rfl, sp, hp, hl, np, hN, q⟩ := h
  refine ⟨_, (pss_cons (ps_if (pt_cmpR op_eq (pe_callB (r := SC.rLen K) SC.c_len (by rfl) T.n_len (by decide +kernel) (pa_cons (pv 1) pa_nil)) pe_int (nomark _))
    (pss_one (ps_ret (pv 1))) pss_nil)
    (pss_cons (ps_set (i := 2) sc_law_swapped.nd rfl (by first | exact Or.inl rfl | exact Or.inr rfl) (pe_op op_fdivW (pe_callB (r := SC.rLen K) SC.c_len (by rfl) T.n_len (by decide +kernel) (pa_cons (pv 1) pa_nil)) pe_int))
    (pss_cons (ps_set (i := 3) sc_law_swapped.nd rfl (by first | exact Or.inl rfl | exact Or.inr rfl) (pe_lst (pa_cons (pe_call (ok_swapped2 T) (hr.mono (by decide)) rfl T.g_law_swapped T.F_law_swapped.kp (bi_law_swapped T) .nil pass0 (pa_cons (pv 0) (pa_cons (pe_slice (r := rSlL K) sl_list (pv 1) po_none (po_some (pv 2))) pa_nil))) (pa_cons (pe_call (ok_swapped2 T) (hr.mono (by decide)) rfl T.g_law_swapped T.F_law_swapped.kp (bi_law_swapped T) .nil pass0 (pa_cons (pv 0) (pa_cons (pe_slice (r := rSlL K) sl_list (pv 1) (po_some (pv 2)) po_none) pa_nil))) pa_nil))))
    (pss_cons (ps_if (pt_cmpR op_eq (pe_call (ok_law_draw T) (hr.mono (by decide)) rfl T.g_law_draw T.F_law_draw.kp (bi_law_draw T) .nil pass0 (pa_cons (pv 0) (pa_cons pe_int pa_nil))) pe_int (nomark _))
    (pss_one (ps_set (i := 3) sc_law_swapped.nd rfl (by first | exact Or.inl rfl | exact Or.inr rfl) (pe_revL (pv 3)))) pss_nil)
    (pss_one (ps_ret (pe_op op_cat (pe_ix (r := rIxL K) ix_list (pv 3) pe_int (fun _ _ => rfl)) (pe_ix (r := rIxL K) ix_list (pv 3) pe_int (fun _ _ => rfl))))))))), ?_⟩
  obtain ⟨e, he⟩ : ∃ e : Nat, e = 2 ^ 2 := ⟨_, rfl⟩
  have hl2 : xs.length = 2 * e := by rw [hl, he]
  have e1 : 1 ≤ e ∧ e ≤ 64 := by rw [he]; decide
  have hN2 : N + 2 * (e : Int) < LIM := by rw [he]; exact hN
  have q : ∀ (L : Addr) (H' : Hp) (ys : List Int), ys.Perm xs → Kp a H H' → Src a (N + 2 * (e : Int) - 1) H' → H' L = some (.lst (ys.map V.int)) → (L = p ∨ H L = none) → L ≠ a → Q (.ref L) H' := by rw [he]; exact q
  walk_at "r"
  rw [List.length_map, hl2]
  walk_at "r"
  rw [show (((xs.map V.int).length : Nat) : Int) / 2 = (e : Int) by rw [List.length_map, hl2]; omega]
  refine w_sl (sq_of hp) fun p1 H1 s1 f1 h1 => ?_
  rw [cut_take (by rw [List.length_map]; omega), ← List.map_take] at h1
  have n1 : p1 ≠ a := sp.ne f1
  walk_at "r"
  refine ⟨a, p1, _, N, rfl, sp.same s1, h1, by rw [List.length_take, hl2, ← he]; omega, n1, by rw [← he]; omega, fun L2 H2 ys pm g2 s2 h2 o2 n2 => ?_⟩
  rw [← he] at s2
  have k2 : Kp a H H2 := (Kp.of_same s1).trans g2
  have hp2 := k2 _ _ np hp
  walk_at "r"
  refine w_sl (sq_of hp2) fun p3 H3 s3 f3 h3 => ?_
  rw [cut_drop, ← List.map_drop] at h3
  have n3 : p3 ≠ a := s2.ne f3
  walk_at "r"
  refine ⟨a, p3, _, _, rfl, s2.same s3, h3, by rw [List.length_drop, hl2, ← he]; omega, n3, by rw [← he]; omega, fun L4 H4 zs pn g4 s4 h4 o4 n4 => ?_⟩
  rw [← he] at s4
  have k4 : Kp a H2 H4 := (Kp.of_same s3).trans g4
  have h24 := k4 _ _ n2 h2
  have ly : ys.length = e := by rw [pm.length_eq, List.length_take, hl2]; omega
  have lz : zs.length = e := by rw [pn.length_eq, List.length_drop, hl2]; omega
  have j := pm.append pn
  rw [List.take_append_drop] at j
  have j2 := List.perm_append_comm.trans j
  walk_at "r"
  rename_i L5 H5 e5 f5 h5 r6 H6 r60 r61 g6 s6
  have n5 : L5 ≠ a := s4.ne f5
  have h56 := g6 _ _ n5 h5
  have k46 : Kp a H4 H6 := (Kp.of_same e5).trans g6
  have k26 := k4.trans k46
  have k06 := k2.trans k26
  have h26 := k26 _ _ n2 h2
  have h46 := k46 _ _ n4 h4
  refine w_ifd (fun c => ?_) fun c => ?_
  · walk_at "r"
    refine w_revL ?_
    walk_at "r"
    refine w_revB (sq_of h56) fun L7 H7 e7 f7 h7 => ?_
    walk_at "r"
    refine w_cat (e7 _ _ h46) (e7 _ _ h26) (by rw [List.length_map, List.length_map]; omega) fun L8 H8 e8 f8 h8 => ?_
    rw [← List.map_append] at h8
    have k := k06.trans (Kp.of_same (e7.trans e8))
    have f := (k06.trans (Kp.of_same e7)).fr _ (((s6.same e7)).ne f8) f8
    refine q L8 H8 _ j2 k (((s6.same e7).same e8).mono (by omega)) h8 (.inr f) ((s6.same e7).ne f8)
  · walk_at "r"
    refine w_cat h26 h46 (by rw [List.length_map, List.length_map]; omega) fun L8 H8 e8 f8 h8 => ?_
    rw [← List.map_append] at h8
    have k := k06.trans (Kp.of_same e8)
    have f := k06.fr _ (s6.ne f8) f8
    refine q L8 H8 _ j k ((s6.same e8).mono (by omega)) h8 (.inr f) (s6.ne f8)
theorem ok_swapped4 (T : TX K mg base fa fd fc) : FnOk P w K mg base CX0 6 (fa 30) (fd 30) ["source", "row"] (SpSw 4) := by
  refine T.F_law_swapped.ok sc_law_swapped (fun vs H Q E h => ?_) (fun cdv A outer s H vs Q E hr h => ?_)
  · obtain ⟨a, p, xs, N, rfl, sp, hp, hl, np, hN, q⟩ := h
    rfl
  obtain ⟨a, p, xs, N, rfl, sp, hp, hl, np, hN, q⟩ := h
  refine ⟨_, (pss_cons (ps_if (pt_cmpR op_eq (pe_callB (r := SC.rLen K) SC.c_len (by rfl) T.n_len (by decide +kernel) (pa_cons (pv 1) pa_nil)) pe_int (nomark _))
    (pss_one (ps_ret (pv 1))) pss_nil)
    (pss_cons (ps_set (i := 2) sc_law_swapped.nd rfl (by first | exact Or.inl rfl | exact Or.inr rfl) (pe_op op_fdivW (pe_callB (r := SC.rLen K) SC.c_len (by rfl) T.n_len (by decide +kernel) (pa_cons (pv 1) pa_nil)) pe_int))
    (pss_cons (ps_set (i := 3) sc_law_swapped.nd rfl (by first | exact Or.inl rfl | exact Or.inr rfl) (pe_lst (pa_cons (pe_call (ok_swapped3 T) (hr.mono (by decide)) rfl T.g_law_swapped T.F_law_swapped.kp (bi_law_swapped T) .nil pass0 (pa_cons (pv 0) (pa_cons (pe_slice (r := rSlL K) sl_list (pv 1) po_none (po_some (pv 2))) pa_nil))) (pa_cons (pe_call (ok_swapped3 T) (hr.mono (by decide)) rfl T.g_law_swapped T.F_law_swapped.kp (bi_law_swapped T) .nil pass0 (pa_cons (pv 0) (pa_cons (pe_slice (r := rSlL K) sl_list (pv 1) (po_some (pv 2)) po_none) pa_nil))) pa_nil))))
    (pss_cons (ps_if (pt_cmpR op_eq (pe_call (ok_law_draw T) (hr.mono (by decide)) rfl T.g_law_draw T.F_law_draw.kp (bi_law_draw T) .nil pass0 (pa_cons (pv 0) (pa_cons pe_int pa_nil))) pe_int (nomark _))
    (pss_one (ps_set (i := 3) sc_law_swapped.nd rfl (by first | exact Or.inl rfl | exact Or.inr rfl) (pe_revL (pv 3)))) pss_nil)
    (pss_one (ps_ret (pe_op op_cat (pe_ix (r := rIxL K) ix_list (pv 3) pe_int (fun _ _ => rfl)) (pe_ix (r := rIxL K) ix_list (pv 3) pe_int (fun _ _ => rfl))))))))), ?_⟩
  obtain ⟨e, he⟩ : ∃ e : Nat, e = 2 ^ 3 := ⟨_, rfl⟩
  have hl2 : xs.length = 2 * e := by rw [hl, he]
  have e1 : 1 ≤ e ∧ e ≤ 64 := by rw [he]; decide
  have hN2 : N + 2 * (e : Int) < LIM := by rw [he]; exact hN
  have q : ∀ (L : Addr) (H' : Hp) (ys : List Int), ys.Perm xs → Kp a H H' → Src a (N + 2 * (e : Int) - 1) H' → H' L = some (.lst (ys.map V.int)) → (L = p ∨ H L = none) → L ≠ a → Q (.ref L) H' := by rw [he]; exact q
  walk_at "r"
  rw [List.length_map, hl2]
  walk_at "r"
  rw [show (((xs.map V.int).length : Nat) : Int) / 2 = (e : Int) by rw [List.length_map, hl2]; omega]
  refine w_sl (sq_of hp) fun p1 H1 s1 f1 h1 => ?_
  rw [cut_take (by rw [List.length_map]; omega), ← List.map_take] at h1
  have n1 : p1 ≠ a := sp.ne f1
  walk_at "r"
  refine ⟨a, p1, _, N, rfl, sp.same s1, h1, by rw [List.length_take, hl2, ← he]; omega, n1, by rw [← he]; omega, fun L2 H2 ys pm g2 s2 h2 o2 n2 => ?_⟩
  rw [← he] at s2
  have k2 : Kp a H H2 := (Kp.of_same s1).trans g2
  have hp2 := k2 _ _ np hp
  walk_at "r"
  refine w_sl (sq_of hp2) fun p3 H3 s3 f3 h3 => ?_
  rw [cut_drop, ← List.map_drop] at h3
  have n3 : p3 ≠ a := s2.ne f3
  walk_at "r"
  refine ⟨a, p3, _, _, rfl, s2.same s3, h3, by rw [List.length_drop, hl2, ← he]; omega, n3, by rw [← he]; omega, fun L4 H4 zs pn g4 s4 h4 o4 n4 => ?_⟩
  rw [← he] at s4
  have k4 : Kp a H2 H4 := (Kp.of_same s3).trans g4
  have h24 := k4 _ _ n2 h2
  have ly : ys.length = e := by rw [pm.length_eq, List.length_take, hl2]; omega
  have lz : zs.length = e := by rw [pn.length_eq, List.length_drop, hl2]; omega
  have j := pm.append pn
  rw [List.take_append_drop] at j
  have j2 := List.perm_append_comm.trans j
  walk_at "r"
  rename_i L5 H5 e5 f5 h5 r6 H6 r60 r61 g6 s6
  have n5 : L5 ≠ a := s4.ne f5
  have h56 := g6 _ _ n5 h5
  have k46 : Kp a H4 H6 := (Kp.of_same e5).trans g6
  have k26 := k4.trans k46
  have k06 := k2.trans k26
  have h26 := k26 _ _ n2 h2
  have h46 := k46 _ _ n4 h4
  refine w_ifd (fun c => ?_) fun c => ?_
  · walk_at "r"
    refine w_revL ?_
    walk_at "r"
    refine w_revB (sq_of h56) fun L7 H7 e7 f7 h7 => ?_
    walk_at "r"
    refine w_cat (e7 _ _ h46) (e7 _ _ h26) (by rw [List.length_map, List.length_map]; omega) fun L8 H8 e8 f8 h8 => ?_
    rw [← List.map_append] at h8
    have k := k06.trans (Kp.of_same (e7.trans e8))
    have f := (k06.trans (Kp.of_same e7)).fr _ (((s6.same e7)).ne f8) f8
    refine q L8 H8 _ j2 k (((s6.same e7).same e8).mono (by omega)) h8 (.inr f) ((s6.same e7).ne f8)
  · walk_at "r"
    refine w_cat h26 h46 (by rw [List.length_map, List.length_map]; omega) fun L8 H8 e8 f8 h8 => ?_
    rw [← List.map_append] at h8
    have k := k06.trans (Kp.of_same e8)
    have f := k06.fr _ (s6.ne f8) f8
    refine q L8 H8 _ j k ((s6.same e8).mono (by omega)) h8 (.inr f) (s6.ne f8)
theorem ok_swapped5 (T : TX K mg base fa fd fc) : FnOk P w K mg base CX0 7 (fa 30) (fd 30) ["source", "row"] (SpSw 5) := by
  refine T.F_law_swapped.ok sc_law_swapped (fun vs H Q E h => ?_) (fun cdv A outer s H vs Q E hr h => ?_)
  · obtain ⟨a, p, xs, N, rfl, sp, hp, hl, np, hN, q⟩ := h
    rfl
  obtain ⟨a, p, xs, N, rfl, sp, hp, hl, np, hN, q⟩ := h
  refine ⟨_, (pss_cons (ps_if (pt_cmpR op_eq (pe_callB (r := SC.rLen K) SC.c_len (by rfl) T.n_len (by decide +kernel) (pa_cons (pv 1) pa_nil)) pe_int (nomark _))
    (pss_one (ps_ret (pv 1))) pss_nil)
    (pss_cons (ps_set (i := 2) sc_law_swapped.nd rfl (by first | exact Or.inl rfl | exact Or.inr rfl) (pe_op op_fdivW (pe_callB (r := SC.rLen K) SC.c_len (by rfl) T.n_len (by decide +kernel) (pa_cons (pv 1) pa_nil)) pe_int))
    (pss_cons (ps_set (i := 3) sc_law_swapped.nd rfl (by first | exact Or.inl rfl | exact Or.inr rfl) (pe_lst (pa_cons (pe_call (ok_swapped4 T) (hr.mono (by decide)) rfl T.g_law_swapped T.F_law_swapped.kp (bi_law_swapped T) .nil pass0 (pa_cons (pv 0) (pa_cons (pe_slice (r := rSlL K) sl_list (pv 1) po_none (po_some (pv 2))) pa_nil))) (pa_cons (pe_call (ok_swapped4 T) (hr.mono (by decide)) rfl T.g_law_swapped T.F_law_swapped.kp (bi_law_swapped T) .nil pass0 (pa_cons (pv 0) (pa_cons (pe_slice (r := rSlL K) sl_list (pv 1) (po_some (pv 2)) po_none) pa_nil))) pa_nil))))
    (pss_cons (ps_if (pt_cmpR op_eq (pe_call (ok_law_draw T) (hr.mono (by decide)) rfl T.g_law_draw T.F_law_draw.kp (bi_law_draw T) .nil pass0 (pa_cons (pv 0) (pa_cons pe_int pa_nil))) pe_int (nomark _))
    (pss_one (ps_set (i := 3) sc_law_swapped.nd rfl (by first | exact Or.inl rfl | exact Or.inr rfl) (pe_revL (pv 3)))) pss_nil)
    (pss_one (ps_ret (pe_op op_cat (pe_ix (r := rIxL K) ix_list (pv 3) pe_int (fun _ _ => rfl)) (pe_ix (r := rIxL K) ix_list (pv 3) pe_int (fun _ _ => rfl))))))))), ?_⟩
  obtain ⟨e, he⟩ : ∃ e : Nat, e = 2 ^ 4 := ⟨_, rfl⟩
  have hl2 : xs.length = 2 * e := by rw [hl, he]
  have e1 : 1 ≤ e ∧ e ≤ 64 := by rw [he]; decide
  have hN2 : N + 2 * (e : Int) < LIM := by rw [he]; exact hN
  have q : ∀ (L : Addr) (H' : Hp) (ys : List Int), ys.Perm xs → Kp a H H' → Src a (N + 2 * (e : Int) - 1) H' → H' L = some (.lst (ys.map V.int)) → (L = p ∨ H L = none) → L ≠ a → Q (.ref L) H' := by rw [he]; exact q
  walk_at "r"
  rw [List.length_map, hl2]
  walk_at "r"
  rw [show (((xs.map V.int).length : Nat) : Int) / 2 = (e : Int) by rw [List.length_map, hl2]; omega]
  refine w_sl (sq_of hp) fun p1 H1 s1 f1 h1 => ?_
  rw [cut_take (by rw [List.length_map]; omega), ← List.map_take] at h1
  have n1 : p1 ≠ a := sp.ne f1
  walk_at "r"
  refine ⟨a, p1, _, N, rfl, sp.same s1, h1, by rw [List.length_take, hl2, ← he]; omega, n1, by rw [← he]; omega, fun L2 H2 ys pm g2 s2 h2 o2 n2 => ?_⟩
  rw [← he] at s2
  have k2 : Kp a H H2 := (Kp.of_same s1).trans g2
  have hp2 := k2 _ _ np hp
  walk_at "r"
  refine w_sl (sq_of hp2) fun p3 H3 s3 f3 h3 => ?_
  rw [cut_drop, ← List.map_drop] at h3
  have n3 : p3 ≠ a := s2.ne f3
  walk_at "r"
  refine ⟨a, p3, _, _, rfl, s2.same s3, h3, by rw [List.length_drop, hl2, ← he]; omega, n3, by rw [← he]; omega, fun L4 H4 zs pn g4 s4 h4 o4 n4 => ?_⟩
  rw [← he] at s4
  have k4 : Kp a H2 H4 := (Kp.of_same s3).trans g4
  have h24 := k4 _ _ n2 h2
  have ly : ys.length = e := by rw [pm.length_eq, List.length_take, hl2]; omega
  have lz : zs.length = e := by rw [pn.length_eq, List.length_drop, hl2]; omega
  have j := pm.append pn
  rw [List.take_append_drop] at j
  have j2 := List.perm_append_comm.trans j
  walk_at "r"
  rename_i L5 H5 e5 f5 h5 r6 H6 r60 r61 g6 s6
  have n5 : L5 ≠ a := s4.ne f5
  have h56 := g6 _ _ n5 h5
  have k46 : Kp a H4 H6 := (Kp.of_same e5).trans g6
  have k26 := k4.trans k46
  have k06 := k2.trans k26
  have h26 := k26 _ _ n2 h2
  have h46 := k46 _ _ n4 h4
  refine w_ifd (fun c => ?_) fun c => ?_
  · walk_at "r"
    refine w_revL ?_
    walk_at "r"
    refine w_revB (sq_of h56) fun L7 H7 e7 f7 h7 => ?_
    walk_at "r"
    refine w_cat (e7 _ _ h46) (e7 _ _ h26) (by rw [List.length_map, List.length_map]; omega) fun L8 H8 e8 f8 h8 => ?_
    rw [← List.map_append] at h8
    have k := k06.trans (Kp.of_same (e7.trans e8))
    have f := (k06.trans (Kp.of_same e7)).fr _ (((s6.same e7)).ne f8) f8
    refine q L8 H8 _ j2 k (((s6.same e7).same e8).mono (by omega)) h8 (.inr f) ((s6.same e7).ne f8)
  · walk_at "r"
    refine w_cat h26 h46 (by rw [List.length_map, List.length_map]; omega) fun L8 H8 e8 f8 h8 => ?_
    rw [← List.map_append] at h8
    have k := k06.trans (Kp.of_same e8)
    have f := k06.fr _ (s6.ne f8) f8
    refine q L8 H8 _ j k ((s6.same e8).mono (by omega)) h8 (.inr f) (s6.ne f8)
theorem ok_swapped6 (T : TX K mg base fa fd fc) : FnOk P w K mg base CX0 8 (fa 30) (fd 30) ["source", "row"] (SpSw 6) := by
  refine T.F_law_swapped.ok sc_law_swapped (fun vs H Q E h => ?_) (fun cdv A outer s H vs Q E hr h => ?_)
  · obtain ⟨a, p, xs, N, rfl, sp, hp, hl, np, hN, q⟩ := h
    rfl
  obtain ⟨a, p, xs, N, rfl, sp, hp, hl, np, hN, q⟩ := h
  refine ⟨_, (pss_cons (ps_if (pt_cmpR op_eq (pe_callB (r := SC.rLen K) SC.c_len (by rfl) T.n_len (by decide +kernel) (pa_cons (pv 1) pa_nil)) pe_int (nomark _))
    (pss_one (ps_ret (pv 1))) pss_nil)
    (pss_cons (ps_set (i := 2) sc_law_swapped.nd rfl (by first | exact Or.inl rfl | exact Or.inr rfl) (pe_op op_fdivW (pe_callB (r := SC.rLen K) SC.c_len (by rfl) T.n_len (by decide +kernel) (pa_cons (pv 1) pa_nil)) pe_int))
    (pss_cons (ps_set (i := 3) sc_law_swapped.nd rfl (by first | exact Or.inl rfl | exact Or.inr rfl) (pe_lst (pa_cons (pe_call (ok_swapped5 T) (hr.mono (by decide)) rfl T.g_law_swapped T.F_law_swapped.kp (bi_law_swapped T) .nil pass0 (pa_cons (pv 0) (pa_cons (pe_slice (r := rSlL K) sl_list (pv 1) po_none (po_some (pv 2))) pa_nil))) (pa_cons (pe_call (ok_swapped5 T) (hr.mono (by decide)) rfl T.g_law_swapped T.F_law_swapped.kp (bi_law_swapped T) .nil pass0 (pa_cons (pv 0) (pa_cons (pe_slice (r := rSlL K) sl_list (pv 1) (po_some (pv 2)) po_none) pa_nil))) pa_nil))))
    (pss_cons (ps_if (pt_cmpR op_eq (pe_call (ok_law_draw T) (hr.mono (by decide)) rfl T.g_law_draw T.F_law_draw.kp (bi_law_draw T) .nil pass0 (pa_cons (pv 0) (pa_cons pe_int pa_nil))) pe_int (nomark _))
    (pss_one (ps_set (i := 3) sc_law_swapped.nd rfl (by first | exact Or.inl rfl | exact Or.inr rfl) (pe_revL (pv 3)))) pss_nil)
    (pss_one (ps_ret (pe_op op_cat (pe_ix (r := rIxL K) ix_list (pv 3) pe_int (fun _ _ => rfl)) (pe_ix (r := rIxL K) ix_list (pv 3) pe_int (fun _ _ => rfl))))))))), ?_⟩
  obtain ⟨e, he⟩ : ∃ e : Nat, e = 2 ^ 5 := ⟨_, rfl⟩
  have hl2 : xs.length = 2 * e := by rw [hl, he]
  have e1 : 1 ≤ e ∧ e ≤ 64 := by rw [he]; decide
  have hN2 : N + 2 * (e : Int) < LIM := by rw [he]; exact hN
  have q : ∀ (L : Addr) (H' : Hp) (ys : List Int), ys.Perm xs → Kp a H H' → Src a (N + 2 * (e : Int) - 1) H' → H' L = some (.lst (ys.map V.int)) → (L = p ∨ H L = none) → L ≠ a → Q (.ref L) H' := by rw [he]; exact q
  walk_at "r"
  rw [List.length_map, hl2]
  walk_at "r"
  rw [show (((xs.map V.int).length : Nat) : Int) / 2 = (e : Int) by rw [List.length_map, hl2]; omega]
  refine w_sl (sq_of hp) fun p1 H1 s1 f1 h1 => ?_
  rw [cut_take (by rw [List.length_map]; omega), ← List.map_take] at h1
  have n1 : p1 ≠ a := sp.ne f1
  walk_at "r"
  refine ⟨a, p1, _, N, rfl, sp.same s1, h1, by rw [List.length_take, hl2, ← he]; omega, n1, by rw [← he]; omega, fun L2 H2 ys pm g2 s2 h2 o2 n2 => ?_⟩
  rw [← he] at s2
  have k2 : Kp a H H2 := (Kp.of_same s1).trans g2
  have hp2 := k2 _ _ np hp
  walk_at "r"
  refine w_sl (sq_of hp2) fun p3 H3 s3 f3 h3 => ?_
  rw [cut_drop, ← List.map_drop] at h3
  have n3 : p3 ≠ a := s2.ne f3
  walk_at "r"
  refine ⟨a, p3, _, _, rfl, s2.same s3, h3, by rw [List.length_drop, hl2, ← he]; omega, n3, by rw [← he]; omega, fun L4 H4 zs pn g4 s4 h4 o4 n4 => ?_⟩
  rw [← he] at s4
  have k4 : Kp a H2 H4 := (Kp.of_same s3).trans g4
  have h24 := k4 _ _ n2 h2
  have ly : ys.length = e := by rw [pm.length_eq, List.length_take, hl2]; omega
  have lz : zs.length = e := by rw [pn.length_eq, List.length_drop, hl2]; omega
  have j := pm.append pn
  rw [List.take_append_drop] at j
  have j2 := List.perm_append_comm.trans j
  walk_at "r"
  rename_i L5 H5 e5 f5 h5 r6 H6 r60 r61 g6 s6
  have n5 : L5 ≠ a := s4.ne f5
  have h56 := g6 _ _ n5 h5
  have k46 : Kp a H4 H6 := (Kp.of_same e5).trans g6
  have k26 := k4.trans k46
  have k06 := k2.trans k26
  have h26 := k26 _ _ n2 h2
  have h46 := k46 _ _ n4 h4
  refine w_ifd (fun c => ?_) fun c => ?_
  · walk_at "r"
    refine w_revL ?_
    walk_at "r"
    refine w_revB (sq_of h56) fun L7 H7 e7 f7 h7 => ?_
    walk_at "r"
    refine w_cat (e7 _ _ h46) (e7 _ _ h26) (by rw [List.length_map, List.length_map]; omega) fun L8 H8 e8 f8 h8 => ?_
    rw [← List.map_append] at h8
    have k := k06.trans (Kp.of_same (e7.trans e8))
    have f := (k06.trans (Kp.of_same e7)).fr _ (((s6.same e7)).ne f8) f8
    refine q L8 H8 _ j2 k (((s6.same e7).same e8).mono (by omega)) h8 (.inr f) ((s6.same e7).ne f8)
  · walk_at "r"
    refine w_cat h26 h46 (by rw [List.length_map, List.length_map]; omega) fun L8 H8 e8 f8 h8 => ?_
    rw [← List.map_append] at h8
    have k := k06.trans (Kp.of_same e8)
    have f := k06.fr _ (s6.ne f8) f8
    refine q L8 H8 _ j k ((s6.same e8).mono (by omega)) h8 (.inr f) (s6.ne f8)
theorem ok_swapped7 (T : TX K mg base fa fd fc) : FnOk P w K mg base CX0 9 (fa 30) (fd 30) ["source", "row"] (SpSw 7) := by
  refine T.F_law_swapped.ok sc_law_swapped (fun vs H Q E h => ?_) (fun cdv A outer s H vs Q E hr h => ?_)
  · obtain ⟨a, p, xs, N, rfl, sp, hp, hl, np, hN, q⟩ := h
    rfl
  obtain ⟨a, p, xs, N, rfl, sp, hp, hl, np, hN, q⟩ := h
  refine ⟨_, (pss_cons (ps_if (pt_cmpR op_eq (pe_callB (r := SC.rLen K) SC.c_len (by rfl) T.n_len (by decide +kernel) (pa_cons (pv 1) pa_nil)) pe_int (nomark _))
    (pss_one (ps_ret (pv 1))) pss_nil)
    (pss_cons (ps_set (i := 2) sc_law_swapped.nd rfl (by first | exact Or.inl rfl | exact Or.inr rfl) (pe_op op_fdivW (pe_callB (r := SC.rLen K) SC.c_len (by rfl) T.n_len (by decide +kernel) (pa_cons (pv 1) pa_nil)) pe_int))
    (pss_cons (ps_set (i := 3) sc_law_swapped.nd rfl (by first | exact Or.inl rfl | exact Or.inr rfl) (pe_lst (pa_cons (pe_call (ok_swapped6 T) (hr.mono (by decide)) rfl T.g_law_swapped T.F_law_swapped.kp (bi_law_swapped T) .nil pass0 (pa_cons (pv 0) (pa_cons (pe_slice (r := rSlL K) sl_list (pv 1) po_none (po_some (pv 2))) pa_nil))) (pa_cons (pe_call (ok_swapped6 T) (hr.mono (by decide)) rfl T.g_law_swapped T.F_law_swapped.kp (bi_law_swapped T) .nil pass0 (pa_cons (pv 0) (pa_cons (pe_slice (r := rSlL K) sl_list (pv 1) (po_some (pv 2)) po_none) pa_nil))) pa_nil))))
    (pss_cons (ps_if (pt_cmpR op_eq (pe_call (ok_law_draw T) (hr.mono (by decide)) rfl T.g_law_draw T.F_law_draw.kp (bi_law_draw T) .nil pass0 (pa_cons (pv 0) (pa_cons pe_int pa_nil))) pe_int (nomark _))
    (pss_one (ps_set (i := 3) sc_law_swapped.nd rfl (by first | exact Or.inl rfl | exact Or.inr rfl) (pe_revL (pv 3)))) pss_nil)
    (pss_one (ps_ret (pe_op op_cat (pe_ix (r := rIxL K) ix_list (pv 3) pe_int (fun _ _ => rfl)) (pe_ix (r := rIxL K) ix_list (pv 3) pe_int (fun _ _ => rfl))))))))), ?_⟩
  obtain ⟨e, he⟩ : ∃ e : Nat, e = 2 ^ 6 := ⟨_, rfl⟩
  have hl2 : xs.length = 2 * e := by rw [hl, he]
  have e1 : 1 ≤ e ∧ e ≤ 64 := by rw [he]; decide
  have hN2 : N + 2 * (e : Int) < LIM := by rw [he]; exact hN
  have q : ∀ (L : Addr) (H' : Hp) (ys : List Int), ys.Perm xs → Kp a H H' → Src a (N + 2 * (e : Int) - 1) H' → H' L = some (.lst (ys.map V.int)) → (L = p ∨ H L = none) → L ≠ a → Q (.ref L) H' := by rw [he]; exact q
  walk_at "r"
  rw [List.length_map, hl2]
  walk_at "r"
  rw [show (((xs.map V.int).length : Nat) : Int) / 2 = (e : Int) by rw [List.length_map, hl2]; omega]
  refine w_sl (sq_of hp) fun p1 H1 s1 f1 h1 => ?_
  rw [cut_take (by rw [List.length_map]; omega), ← List.map_take] at h1
  have n1 : p1 ≠ a := sp.ne f1
  walk_at "r"
  refine ⟨a, p1, _, N, rfl, sp.same s1, h1, by rw [List.length_take, hl2, ← he]; omega, n1, by rw [← he]; omega, fun L2 H2 ys pm g2 s2 h2 o2 n2 => ?_⟩
  rw [← he] at s2
  have k2 : Kp a H H2 := (Kp.of_same s1).trans g2
  have hp2 := k2 _ _ np hp
  walk_at "r"
  refine w_sl (sq_of hp2) fun p3 H3 s3 f3 h3 => ?_
  rw [cut_drop, ← List.map_drop] at h3
  have n3 : p3 ≠ a := s2.ne f3
  walk_at "r"
  refine ⟨a, p3, _, _, rfl, s2.same s3, h3, by rw [List.length_drop, hl2, ← he]; omega, n3, by rw [← he]; omega, fun L4 H4 zs pn g4 s4 h4 o4 n4 => ?_⟩
  rw [← he] at s4
  have k4 : Kp a H2 H4 := (Kp.of_same s3).trans g4
  have h24 := k4 _ _ n2 h2
  have ly : ys.length = e := by rw [pm.length_eq, List.length_take, hl2]; omega
  have lz : zs.length = e := by rw [pn.length_eq, List.length_drop, hl2]; omega
  have j := pm.append pn
  rw [List.take_append_drop] at j
  have j2 := List.perm_append_comm.trans j
  walk_at "r"
  rename_i L5 H5 e5 f5 h5 r6 H6 r60 r61 g6 s6
  have n5 : L5 ≠ a := s4.ne f5
  have h56 := g6 _ _ n5 h5
  have k46 : Kp a H4 H6 := (Kp.of_same e5).trans g6
  have k26 := k4.trans k46
  have k06 := k2.trans k26
  have h26 := k26 _ _ n2 h2
  have h46 := k46 _ _ n4 h4
  refine w_ifd (fun c => ?_) fun c => ?_
  · walk_at "r"
    refine w_revL ?_
    walk_at "r"
    refine w_revB (sq_of h56) fun L7 H7 e7 f7 h7 => ?_
    walk_at "r"
    refine w_cat (e7 _ _ h46) (e7 _ _ h26) (by rw [List.length_map, List.length_map]; omega) fun L8 H8 e8 f8 h8 => ?_
    rw [← List.map_append] at h8
    have k := k06.trans (Kp.of_same (e7.trans e8))
    have f := (k06.trans (Kp.of_same e7)).fr _ (((s6.same e7)).ne f8) f8
    refine q L8 H8 _ j2 k (((s6.same e7).same e8).mono (by omega)) h8 (.inr f) ((s6.same e7).ne f8)
  · walk_at "r"
    refine w_cat h26 h46 (by rw [List.length_map, List.length_map]; omega) fun L8 H8 e8 f8 h8 => ?_
    rw [← List.map_append] at h8
    have k := k06.trans (Kp.of_same e8)
    have f := k06.fr _ (s6.ne f8) f8
    refine q L8 H8 _ j k ((s6.same e8).mono (by omega)) h8 (.inr f) (s6.ne f8)
theorem ok_law_swapped (T : TX K mg base fa fd fc) : FnOk P w K mg base CX0 9 (fa 30) (fd 30) ["source", "row"] SpSwA :=
  SC.fnOk_ex (fun d => d ≤ 7) fun d hd => match d, hd with
  | 0, _ => (ok_swapped0 T).mono (by decide)
  | 1, _ => (ok_swapped1 T).mono (by decide)
  | 2, _ => (ok_swapped2 T).mono (by decide)
  | 3, _ => (ok_swapped3 T).mono (by decide)
  | 4, _ => (ok_swapped4 T).mono (by decide)
  | 5, _ => (ok_swapped5 T).mono (by decide)
  | 6, _ => (ok_swapped6 T).mono (by decide)
  | 7, _ => (ok_swapped7 T).mono (by decide)
  | d + 8, h => absurd h (by omega)
theorem ok_law_bracket_of (T : TX K mg base fa fd fc) : FnOk P w K mg base CX0 1 (fa 33) (fd 33) ["length"] (SpBrO) := by
  refine T.F_law_bracket_of.ok sc_law_bracket_of (fun vs H Q E h => ?_) (fun cdv A outer s H vs Q E hr h => ?_)
  · obtain ⟨n, rfl, hn, q⟩ := h
    rfl
  obtain ⟨n, rfl, hn, q⟩ := h
  refine ⟨_, (pss_cons (ps_set (i := 1) sc_law_bracket_of.nd rfl (by first | exact Or.inl rfl | exact Or.inr rfl) (pe_lst (pa_cons pe_int pa_nil)))
    (pss_cons (ps_while PassesOwn.never (pt_cmpR op_lt (pe_callB (r := SC.rLen K) SC.c_len (by rfl) T.n_len (by decide +kernel) (pa_cons (pv 1) pa_nil)) (pv 0) (nomark _))
    (pss_cons (ps_set (i := 2) sc_law_bracket_of.nd rfl (by first | exact Or.inl rfl | exact Or.inr rfl) (pe_lst pa_nil))
    (pss_cons (ps_for PassesOwn.never rfl (pi_list (pv 1)) (pg_name (i := 3) sc_law_bracket_of.nd rfl (by first | exact Or.inl rfl | exact Or.inr rfl))
    (pss_one (ps_expr (pe_bm PySem.F.plainAttrs_list PySem.F.slot_list_extend PySem.F.type_list_extend mt_extend (pv 2) (pa_cons (pe_lst (pa_cons (pv 3) (pa_cons (pe_op op_sub (pe_op op_add (pe_op op_mul pe_int (pe_callB (r := SC.rLen K) SC.c_len (by rfl) T.n_len (by decide +kernel) (pa_cons (pv 1) pa_nil))) pe_int) (pv 3)) pa_nil))) pa_nil)))))
    (pss_one (ps_set (i := 1) sc_law_bracket_of.nd rfl (by first | exact Or.inl rfl | exact Or.inr rfl) (pv 2))))))
    (pss_one (ps_ret (pv 1))))), ?_⟩
  have P7 : 2 ^ n ≤ 2 ^ 7 := Nat.pow_le_pow_right (by decide) hn
  walk_at "r"
  rename_i L0 H0 e0 f0 h0
  refine w_while (fun m σ H' => ∃ (d : Nat) (p : Addr) (y2 y3 : Option V), σ = [some (.int ((2 ^ n : Nat) : Int)), some (.ref p), y2, y3] ∧ m + d = n ∧ Sm H H' ∧ H p = none ∧ H' p = some (.lst ((brk d).map V.int))) n ⟨0, L0, _, _, rfl, by omega, e0, f0, h0⟩ ?_
  rintro m σ H' ⟨d, p, y2, y3, rfl, hm, s3, hp, e3⟩
  have bl := brk_len d
  have lim : 2 ^ d ≤ 2 ^ 7 := Nat.pow_le_pow_right (by decide) (by omega)
  walk_at "r"
  rw [List.length_map, bl]
  by_cases c : d < n
  · have c2 : 2 ^ d < 2 ^ n := Nat.pow_lt_pow_right (by decide) c
    refine w_yes (by omega) ?_
    refine ⟨fun σ H' => ∃ (p : Addr) (y2 y3 : Option V), σ = [some (.int ((2 ^ n : Nat) : Int)), some (.ref p), y2, y3] ∧ Sm H H' ∧ H p = none ∧ H' p = some (.lst ((brk (d + 1)).map V.int)), ?_, ?_⟩
    · rintro σ2 H2 ⟨p, y2, y3, rfl, s, f, h⟩
      exact ⟨m - 1, by omega, d + 1, p, y2, y3, rfl, by omega, s, f, h⟩
    walk_at "r"
    rename_i q0 H2 s2 hq0 e2
    have e3' := s2 _ _ e3
    have pd : p2 (0 + (d : Int)) = ((2 ^ d : Nat) : Int) := by rw [Int.zero_add, p2_nat]
    refine w_lst (sq_of e3') (fun i σ H' => ∃ y, σ = [some (.int ((2 ^ n : Nat) : Int)), some (.ref p), some (.ref q0), y] ∧ Sm H H' ∧ H' p = some (.lst ((brk d).map V.int)) ∧ H' q0 = some (.lst ((((brk d).take i).flatMap fun x => [x, 2 * p2 (0 + (d : Int)) + 1 - x]).map V.int))) ⟨_, rfl, s3.trans s2, e3', by simpa using e2⟩ (fun i σ H' _ ⟨y, _, _, h, _⟩ => sq_of h) ?_ ?_
    · rintro i x σ H' hx ⟨y, rfl, s4, e4, e5⟩
      obtain ⟨x, hy, rfl⟩ := at_int hx
      have hi : i < 2 ^ d := by
        have := (List.getElem?_eq_some_iff.mp hy).1
        omega
      walk_at "r"
      rename_i T H5 s5 hr e6
      have fl : ∀ l : List Int, (l.flatMap fun x => [x, 2 * p2 (0 + (d : Int)) + 1 - x]).length = 2 * l.length := fun l => by
        induction l with
        | nil => rfl
        | cons a r ih => simp only [List.flatMap_cons, List.length_append, List.length_cons, List.length_nil, ih]; omega
      have fq := s3.free hq0
      have nq : p ≠ q0 := ne_of_none e3 hq0
      refine w_extend (s5 _ _ e5) e6 (by rw [List.length_map, fl, List.length_take]; simp only [List.length_cons, List.length_nil]; omega) ?_
      walk_at "r"
      refine ⟨_, rfl, sm_upd (s4.trans s5) fq, by rw [upd_ne nq]; exact s5 _ _ e4, ?_⟩
      rw [upd_same]
      congr 2
      rw [List.take_add_one, hy, List.flatMap_append, List.map_append]
      congr 1
      simp only [Option.toList_some, List.flatMap_cons, List.flatMap_nil, List.append_nil, List.map_cons, List.map_nil, List.length_map, bl, pd]
    · rintro σ H' ⟨y, rfl, s4, e4, e5⟩
      walk_at "r"
      refine ⟨q0, _, _, rfl, s4, s3.free hq0, ?_⟩
      rw [e5, List.length_map, List.take_length]
      rfl
  · have : d = n := by omega
    subst this
    refine w_no (by omega) ?_
    walk_at "r"
    exact q _ _ hp s3 e3
theorem ok_law_wrong_places (T : TX K mg base fa fd fc) : FnOk P w K mg base CX0 2 (fa 32) (fd 32) ["row"] (SpWrong) := by
  refine T.F_law_wrong_places.ok sc_law_wrong_places (fun vs H Q E h => ?_) (fun cdv A outer s H vs Q E hr h => ?_)
  · obtain ⟨p, d, r, rfl, hp, hd, ir, q⟩ := h
    rfl
  obtain ⟨p, d, r, rfl, hp, hd, ir, q⟩ := h
  refine ⟨_, (pss_cons (ps_set (i := 1) sc_law_wrong_places.nd rfl (by first | exact Or.inl rfl | exact Or.inr rfl) (pe_callTy (r := SC.rDictP K) (SC.c_dictP rfl) (by rfl) T.n_dict (by decide +kernel) (pa_cons (pe_lc (own := [("at", 2), ("who", 3)]) (g := gTup K 2 (gCons (gName 2) (gCons (gName 3) gNil))) (by rfl) sc_law_wrong_places.nd (pi_enum (by rfl) T.n_enumerate (pa_cons (pe_call (ok_law_bracket_of T) (hr.mono (by decide)) rfl T.g_law_bracket_of T.F_law_bracket_of.kp (bi_law_bracket_of T) .nil pass0 (pa_cons (pe_callB (r := SC.rLen K) SC.c_len (by rfl) T.n_len (by decide +kernel) (pa_cons (pv 0) pa_nil)) pa_nil)) pa_nil)) (blkOk_by (own := [("at", 2), ("who", 3)]) (N := nm_law_wrong_places) (sc := defScope s_law_wrong_places) (by decide +kernel)) (fun _ _ _ _ _ => (pg_tup rfl (pgs_cons (pg_name (i := 2) sc_law_wrong_places.nd rfl (by first | exact Or.inl rfl | exact Or.inr rfl)) (pgs_cons (pg_name (i := 3) sc_law_wrong_places.nd rfl (by first | exact Or.inl rfl | exact Or.inr rfl)) pgs_nil)))) (fun _ _ _ _ _ => pts_nil) (fun _ _ _ _ _ => (pe_tup (pa_cons (pv 3) (pa_cons (pv 2) pa_nil))))) pa_nil)))
    (pss_cons (ps_for PassesOwn.never rfl (pi_range1 rfl T.n_range (pa_cons (pe_callB (r := SC.rLen K) SC.c_len (by rfl) T.n_len (by decide +kernel) (pa_cons (pv 0) pa_nil)) pa_nil)) (pg_name (i := 4) sc_law_wrong_places.nd rfl (by first | exact Or.inl rfl | exact Or.inr rfl))
    (pss_one (ps_for PassesOwn.never rfl (pi_range1 rfl T.n_range (pa_cons (pv 4) pa_nil)) (pg_name (i := 5) sc_law_wrong_places.nd rfl (by first | exact Or.inl rfl | exact Or.inr rfl))
    (pss_cons (ps_set (i := 6) sc_law_wrong_places.nd rfl (by first | exact Or.inl rfl | exact Or.inr rfl) (pe_lst (pa_cons (pv 5) (pa_cons (pv 4) pa_nil))))
    (pss_cons (ps_set (i := 7) sc_law_wrong_places.nd rfl (by first | exact Or.inl rfl | exact Or.inr rfl) (pe_lst (pa_cons (pe_dget (hu_of hr) (pv 1) (pe_ix (r := rIxL K) ix_list (pv 0) (pv 5) (fun _ _ => rfl)) (fun _ _ => rfl)) (pa_cons (pe_dget (hu_of hr) (pv 1) (pe_ix (r := rIxL K) ix_list (pv 0) (pv 4) (fun _ _ => rfl)) (fun _ _ => rfl)) pa_nil))))
    (pss_cons (ps_while PassesOwn.never (PW.pt (pw_and (pt_cmpR op_ne (pe_ix (r := rIxL K) ix_list (pv 6) pe_int (fun _ _ => rfl)) (pe_ix (r := rIxL K) ix_list (pv 6) pe_int (fun _ _ => rfl)) (nomark _)) (pw_and1 (pt_cmpR op_ne (pe_ix (r := rIxL K) ix_list (pv 7) pe_int (fun _ _ => rfl)) (pe_ix (r := rIxL K) ix_list (pv 7) pe_int (fun _ _ => rfl)) (nomark _)))))
    (pss_cons (ps_setLc (i := 6) (own := [("at", 2)]) (by rfl) sc_law_wrong_places.nd rfl (by first | rfl | decide +kernel) (sw_true rfl rfl rfl (by decide +kernel)) (pi_list (pv 6)) (blkOk_by (own := [("at", 2)]) (N := nm_law_wrong_places) (sc := defScope s_law_wrong_places) (by decide +kernel)) (fun _ _ _ _ _ => (pg_name (i := 2) sc_law_wrong_places.nd rfl (by first | exact Or.inl rfl | exact Or.inr rfl))) (fun _ _ _ _ _ => pts_nil) (fun _ _ _ _ _ => (pe_op op_fdivW (pv 2) pe_int)))
    (pss_one (ps_setLc (i := 7) (own := [("at", 2)]) (by rfl) sc_law_wrong_places.nd rfl (by first | rfl | decide +kernel) (sw_true rfl rfl rfl (by decide +kernel)) (pi_list (pv 7)) (blkOk_by (own := [("at", 2)]) (N := nm_law_wrong_places) (sc := defScope s_law_wrong_places) (by decide +kernel)) (fun _ _ _ _ _ => (pg_name (i := 2) sc_law_wrong_places.nd rfl (by first | exact Or.inl rfl | exact Or.inr rfl))) (fun _ _ _ _ _ => pts_nil) (fun _ _ _ _ _ => (pe_op op_fdivW (pv 2) pe_int))))))
    (pss_one (ps_if (pt_cmpR op_ne (pe_cmpR op_eq (pe_ix (r := rIxL K) ix_list (pv 6) pe_int (fun _ _ => rfl)) (pe_ix (r := rIxL K) ix_list (pv 6) pe_int (fun _ _ => rfl)) (nomark _)) (pe_cmpR op_eq (pe_ix (r := rIxL K) ix_list (pv 7) pe_int (fun _ _ => rfl)) (pe_ix (r := rIxL K) ix_list (pv 7) pe_int (fun _ _ => rfl)) (nomark _)) (nomark _))
    (pss_one (ps_ret (pe_tup (pa_cons (pv 5) (pa_cons (pv 4) pa_nil))))) pss_nil))))))))
    (pss_one (ps_ret pe_non)))), ?_⟩
  have rl := ir.len
  have lim : 2 ^ d ≤ 2 ^ 7 := Nat.pow_le_pow_right (by decide) hd.2
  have bl := brk_len d
  walk_at "r"
  refine w_lcE ?_
  walk_at "r"
  refine ⟨d, by rw [List.length_map, rl]; rfl, by omega, fun B H1 fB e1 hB => ?_⟩
  walk_at "r"
  refine w_lcEb (sq_of hB) ?_
  refine w_lcW (walk_enum (xs := (brk d).map V.int)) (fun i ys D H' => ∃ ps : List Addr, ys = ps.map V.ref ∧ Sm H1 H' ∧ Paired (fun p (kv : Key × V) => H' p = some (.tup [kV kv.1, kv.2])) ps (((List.range i).map fun t => ((.inl ((brk d).getD t 0), .int (t : Int)) : Key × V)))) (by rw [List.length_map]; omega) (fun D H' e hD hx => ⟨[], rfl, e, .nil⟩) (fun i ys D H' hi ⟨ps, _, e, _⟩ hx => sq_of (e _ _ hB)) (fun i x ys D H' H'' hi hD hl J hx y R hR => ?_) fun ys D H2 hD hl J hx => ?_
  · obtain ⟨ps, rfl, e, pr⟩ := J
    obtain ⟨T, u, v, rfl, fT, rfl, hu, hv⟩ := y
    cases hu
    have hv : ((brk d).map V.int)[i]? = some v := hv
    rw [List.getElem?_map] at hv
    obtain ⟨x, hx2, rfl⟩ := Option.map_eq_some_iff.mp hv
    have eT := same_upd (o := .tup [.int (i : Int), .int x]) fT
    refine w_gtup (.inl (.inl upd_same)) rfl ?_
    refine w_gcons (w_gname (w_gcons (w_gname (w_gnil ⟨rfl, ?_⟩))))
    walk_at "r"
    rename_i T2 H3 e3 f3 h3
    have fD : H1 D = none := hD
    refine hR _ _ (e3 _ _ (eT _ _ hx)) ⟨ps ++ [T2], by rw [List.map_append]; rfl, sm_upd ((e.trans eT).trans e3) fD, ?_⟩
    rw [List.range_succ, List.map_append]
    have nD : ∀ b vs, (H3 b = some (.tup vs)) → L2.upd H3 D (.lst (ps.map V.ref ++ [V.ref T2])) b = some (.tup vs) := fun b vs hb => by
      rw [upd_ne fun z => ?_]
      · exact hb
      · rw [z, e3 _ _ (eT _ _ hx)] at hb
        cases hb
    refine (L2.Paired.mapP pr fun b kv hb => nD b _ (e3 _ _ (eT _ _ hb))).snoc (nD T2 _ ?_)
    rw [h3]
    show some (HO.tup [V.int x, V.int i]) = some (HO.tup [V.int ((brk d).getD i 0), V.int i])
    rw [List.getD_eq_getElem?_getD, hx2]
    rfl
  · obtain ⟨ps, rfl, e, pr⟩ := J
    rw [List.length_map, bl] at pr
    walk_at "r"
    refine w_dictP (sq_of hx) (L2.Paired.mapP pr fun b kv hb => .inl (.inl hb)) fun M H3 e3 f3 h3 => ?_
    have pd := merge_places d 0 ((List.range (2 ^ d)).map fun t => ((.inl ((brk d).getD t 0), .int (t : Int)) : Key × V)) (by rw [List.length_map, List.length_range]; omega) (fun i kv hk => by
      rw [List.getElem?_map] at hk
      obtain ⟨i', hi', rfl⟩ := Option.map_eq_some_iff.mp hk
      have li : i < 2 ^ d := by have := (List.getElem?_eq_some_iff.mp hi').1; rwa [List.length_range] at this
      rw [List.getElem?_range li] at hi'
      cases hi'
      have li' : i < (brk d).length := by omega
      exact ⟨(brk d)[i], by rw [Nat.zero_add]; exact List.getElem?_eq_getElem li', by rw [List.getD_eq_getElem?_getD, List.getElem?_eq_getElem li', Nat.zero_add]; rfl⟩) [] (PDn.zero d)
    generalize mergeK [] ((List.range (2 ^ d)).map fun t => ((.inl ((brk d).getD t 0), .int (t : Int)) : Key × V)) = kvs at h3 pd
    have eH3 := (e1.trans e).trans e3
    have rat : ∀ j : Nat, j < 2 ^ d → ∃ x, r[j]? = some x ∧ atI (r.map V.int) (j : Int) = some (.int x) ∧ valV kvs (.inl x) = some (.int (plN d (r.getD j 0) : Nat)) := fun j hj => by
      have hj' : j < r.length := by omega
      refine ⟨r[j], List.getElem?_eq_getElem hj', atI_nat (by rw [List.getElem?_map, List.getElem?_eq_getElem hj']; rfl), ?_⟩
      obtain ⟨o1, o2⟩ := ir.ok r[j] (List.getElem_mem hj')
      obtain ⟨i, hi⟩ := List.getElem?_of_mem (brk_all d _ o1 o2)
      have hi2 := (List.getElem?_eq_some_iff.mp hi).1
      rw [pd.2.1 i _ (by omega) hi, plN_at (List.getElem?_eq_getElem hj'), brk_place hi, Int.toNat_natCast]
    walk_at "r"
    rw [List.length_map, rl]
    refine w_rng1 (by omega) (by omega) (fun j σ H' => ∃ y2 y3 y4 y5 y6 y7 : Option V, σ = [some (.ref p), some (.ref M), y2, y3, y4, y5, y6, y7] ∧ Sm H3 H' ∧ ∀ j', j' < j → ∀ i, i < j' → badP d r i j' = false) ⟨_, _, _, _, _, _, rfl, .refl _, fun j' h => absurd h (Nat.not_lt_zero _)⟩ ?_ ?_
    · rintro j σ' H4 hj ⟨y2, y3, y4, y5, y6, y7, rfl, e4, no⟩
      walk_at "r"
      refine w_rng1 (by omega) (by omega) (fun i σ H' => ∃ y2 y3 y5 y6 y7 : Option V, σ = [some (.ref p), some (.ref M), y2, y3, some (.int j), y5, y6, y7] ∧ Sm H3 H' ∧ ∀ i', i' < i → badP d r i' j = false) ⟨_, _, _, _, _, rfl, e4, fun i' h => absurd h (Nat.not_lt_zero _)⟩ ?_ ?_
      · rintro i σ' H5 hi ⟨y2, y3, y5, y6, y7, rfl, e5, no2⟩
        obtain ⟨xi, hxi, axi, vxi⟩ := rat i (by omega)
        obtain ⟨xj, hxj, axj, vxj⟩ := rat j (by omega)
        walk_at "r"
        rename_i O6 H6 e6 f6 h6
        have e36 := e5.trans e6
        refine w_ixL (sq_of ((eH3.trans e36) _ _ hp)) axi ?_
        refine ⟨M, _, rfl, dg_at (e36 _ _ h3) vxi, ?_⟩
        walk_at "r"
        refine w_ixL (sq_of ((eH3.trans e36) _ _ hp)) axj ?_
        refine ⟨M, _, rfl, dg_at (e36 _ _ h3) vxj, ?_⟩
        walk_at "r"
        rename_i O7 H7 e7 f7 h7
        obtain ⟨pa, hpa⟩ : ∃ pa, pa = plN d (r.getD i 0) := ⟨_, rfl⟩
        obtain ⟨pb, hpb⟩ : ∃ pb, pb = plN d (r.getD j 0) := ⟨_, rfl⟩
        rw [← hpa, ← hpb] at h7
        have dz : ∀ x y : Nat, decide ((x : Int) = (y : Int)) = decide (x = y) := fun x y => by simp [Int.ofNat_inj]
        have big : ∀ x t : Nat, x < 2 ^ d → d ≤ t → x / 2 ^ t = 0 := fun x t hx ht => Nat.div_eq_of_lt (Nat.lt_of_lt_of_le hx (Nat.pow_le_pow_right (by decide) ht))
        refine w_while (fun m σ H' => ∃ (t : Nat) (O W : Addr) (y2 y3 : Option V), σ = [some (.ref p), some (.ref M), y2, y3, some (.int j), some (.int i), some (.ref O), some (.ref W)] ∧ m + t = d ∧ Sm H3 H' ∧ H' O = some (.lst [.int ((i / 2 ^ t : Nat) : Int), .int ((j / 2 ^ t : Nat) : Int)]) ∧ H' W = some (.lst [.int ((pa / 2 ^ t : Nat) : Int), .int ((pb / 2 ^ t : Nat) : Int)]) ∧ (∀ s, s < t → i / 2 ^ s ≠ j / 2 ^ s) ∧ (∀ s, s < t → pa / 2 ^ s ≠ pb / 2 ^ s)) d ⟨0, O6, O7, _, _, rfl, by omega, e36.trans e7, by rw [Nat.pow_zero, Nat.div_one, Nat.div_one]; exact e7 _ _ h6, by rw [Nat.pow_zero, Nat.div_one, Nat.div_one]; exact h7, fun s h => absurd h (Nat.not_lt_zero _), fun s h => absurd h (Nat.not_lt_zero _)⟩ ?_
        rintro m σ' H8 ⟨t, O, W, y2, y3, rfl, hm, e8, hO, hW, n1, n2⟩
        walk_at "r"
        refine w_ifd (fun c1 => ?_) fun c1 => ?_
        · walk_at "r"
          refine w_ifd (fun c2 => ?_) fun c2 => ?_
          · have c1' : i / 2 ^ t ≠ j / 2 ^ t := fun z => c1 (by rw [z])
            have c2' : pa / 2 ^ t ≠ pb / 2 ^ t := fun z => c2 (by rw [z])
            have td : t < d := Nat.lt_of_not_le fun z => c1' (by rw [big i t (by omega) z, big j t (by omega) z])
            refine ⟨fun σ H' => ∃ (O W : Addr) (y2 y3 : Option V), σ = [some (.ref p), some (.ref M), y2, y3, some (.int j), some (.int i), some (.ref O), some (.ref W)] ∧ Sm H3 H' ∧ H' O = some (.lst [.int ((i / 2 ^ (t + 1) : Nat) : Int), .int ((j / 2 ^ (t + 1) : Nat) : Int)]) ∧ H' W = some (.lst [.int ((pa / 2 ^ (t + 1) : Nat) : Int), .int ((pb / 2 ^ (t + 1) : Nat) : Int)]), ?_, ?_⟩
            · rintro σ2 H2 ⟨O, W, y2, y3, rfl, s, ho, hw⟩
              refine ⟨m - 1, by omega, t + 1, O, W, y2, y3, rfl, by omega, s, ho, hw, fun s hs => ?_, fun s hs => ?_⟩
              · by_cases z : s = t
                · rw [z]; exact c1'
                · exact n1 s (by omega)
              · by_cases z : s = t
                · rw [z]; exact c2'
                · exact n2 s (by omega)
            walk_at "r"
            refine w_lcl (fun k => V.int (([i / 2 ^ (t + 1), j / 2 ^ (t + 1)] : List Nat).getD k 0 : Nat)) (sq_of hO) (by simp) (fun _ => rfl) (fun k x H' hk e R hR => ?_) fun O9 H9 e9 f9 h9 => ?_
            · match k, hk, hR with
              | 0, hk, hR =>
                cases hk
                walk_at "r"
                rw [half_cast]
                exact hR _ (.refl _)
              | 1, hk, hR =>
                cases hk
                walk_at "r"
                rw [half_cast]
                exact hR _ (.refl _)
            walk_at "r"
            refine w_lcl (fun k => V.int (([pa / 2 ^ (t + 1), pb / 2 ^ (t + 1)] : List Nat).getD k 0 : Nat)) (sq_of (e9 _ _ hW)) (by simp) (fun _ => rfl) (fun k x H' hk e R hR => ?_) fun W10 H10 e10 f10 h10 => ?_
            · match k, hk, hR with
              | 0, hk, hR =>
                cases hk
                walk_at "r"
                rw [half_cast]
                exact hR _ (.refl _)
              | 1, hk, hR =>
                cases hk
                walk_at "r"
                rw [half_cast]
                exact hR _ (.refl _)
            walk_at "r"
            exact ⟨O9, W10, _, _, rfl, (e8.trans e9).trans e10, e10 _ _ h9, h10⟩
          · have st : i / 2 ^ t = j / 2 ^ t ∨ pa / 2 ^ t = pb / 2 ^ t := .inr (Int.ofNat_inj.mp (Classical.not_not.mp c2))
            walk_at "r"
            dsimp only
            rw [dz, dz]
            have lv := lv_stop n1 n2 st
            refine w_ifd (fun c => ?_) fun c => ?_
            · walk_at "r"
              rename_i T9 H9 e9 f9 h9
              exact q (some (i, j)) _ _ ⟨⟨by omega, by omega⟩, decide_eq_true (by rw [← hpa, ← hpb]; exact lv.mpr c), no, no2⟩ ((eH3.trans e8).trans e9) ⟨T9, rfl, h9⟩
            · walk_at "r"
              refine ⟨_, _, _, _, _, rfl, e8, fun i' hi' => ?_⟩
              by_cases z : i' = i
              · subst z
                exact decide_eq_false (by rw [← hpa, ← hpb]; exact fun z => c (lv.mp z))
              · exact no2 i' (by omega)
        · have st : i / 2 ^ t = j / 2 ^ t ∨ pa / 2 ^ t = pb / 2 ^ t := .inl (Int.ofNat_inj.mp (Classical.not_not.mp c1))
          walk_at "r"
          dsimp only
          rw [dz, dz]
          have lv := lv_stop n1 n2 st
          refine w_ifd (fun c => ?_) fun c => ?_
          · walk_at "r"
            rename_i T9 H9 e9 f9 h9
            exact q (some (i, j)) _ _ ⟨⟨by omega, by omega⟩, decide_eq_true (by rw [← hpa, ← hpb]; exact lv.mpr c), no, no2⟩ ((eH3.trans e8).trans e9) ⟨T9, rfl, h9⟩
          · walk_at "r"
            refine ⟨_, _, _, _, _, rfl, e8, fun i' hi' => ?_⟩
            by_cases z : i' = i
            · subst z
              exact decide_eq_false (by rw [← hpa, ← hpb]; exact fun z => c (lv.mp z))
            · exact no2 i' (by omega)
      · rintro σ' H5 ⟨y2, y3, y5, y6, y7, rfl, e5, no2⟩
        exact ⟨_, _, _, _, _, _, rfl, e5, fun j' hj' i hi => by
          by_cases c : j' = j
          · subst c; exact no2 i (by omega)
          · exact no j' (by omega) i hi⟩
    · rintro σ' H4 ⟨y2, y3, y4, y5, y6, y7, rfl, e4, no⟩
      walk_at "r"
      exact q none _ _ (fun j hj i hi => no j (by omega) i hi) (eH3.trans e4) rfl
theorem ok_law_mixed (T : TX K mg base fa fd fc) : FnOk P w K mg base CX0 2 (fa 34) (fd 34) ["source", "things"] (SpMix) := by
  refine T.F_law_mixed.ok sc_law_mixed (fun vs H Q E h => ?_) (fun cdv A outer s H vs Q E hr h => ?_)
  · obtain ⟨a, p, xs, N, rfl, sp, hp, hz, np, hN, q⟩ := h
    rfl
  obtain ⟨a, p, xs, N, rfl, sp, hp, hz, np, hN, q⟩ := h
  refine ⟨_, (pss_cons (ps_set (i := 2) sc_law_mixed.nd rfl (by first | exact Or.inl rfl | exact Or.inr rfl) (pe_callTy call_list_of (by rfl) T.n_list (by decide +kernel) (pa_cons (pv 1) pa_nil)))
    (pss_one (ps_ret (pe_lc (own := [("turn", 3)]) (by rfl) sc_law_mixed.nd (pi_range1 rfl T.n_range (pa_cons (pe_callB (r := SC.rLen K) SC.c_len (by rfl) T.n_len (by decide +kernel) (pa_cons (pv 1) pa_nil)) pa_nil)) (blkOk_by (own := [("turn", 3)]) (N := nm_law_mixed) (sc := defScope s_law_mixed) (by decide +kernel)) (fun _ _ _ _ _ => (pg_name (i := 3) sc_law_mixed.nd rfl (by first | exact Or.inl rfl | exact Or.inr rfl))) (fun _ _ _ _ _ => pts_nil) (fun _ _ _ _ _ => (SC.pe_bmK (K := K) (r := rPopAt) rfl PySem.F.plainAttrs_list PySem.F.slot_list_pop PySem.F.type_list_pop mt_popAt (pv 2) (pa_cons (pe_call (ok_law_draw T) (hr.mono (by decide)) rfl T.g_law_draw T.F_law_draw.kp (bi_law_draw T) .nil pass0 (pa_cons (pv 0) (pa_cons (pe_callB (r := SC.rLen K) SC.c_len (by rfl) T.n_len (by decide +kernel) (pa_cons (pv 2) pa_nil)) pa_nil))) pa_nil))))))), ?_⟩
  walk_at "r"
  refine ⟨p, _, rfl, .inl (sq_of hp), fun L1 f1 => ?_⟩
  have h1 : L2.upd H L1 (.lst (xs.map V.int)) L1 = some (.lst (xs.map V.int)) := upd_same
  have e1 := same_upd (o := .lst (xs.map V.int)) f1
  generalize L2.upd H L1 (.lst (xs.map V.int)) = H1 at h1 e1 ⊢
  walk_at "r"
  rw [List.length_map]
  have n1 : L1 ≠ a := sp.ne f1
  refine w_lcrI (fun t us D H' => ∃ ys zs : List Int, us = ys.map V.int ∧ H' L1 = some (.lst (zs.map V.int)) ∧ (ys ++ zs).Perm xs ∧ Kp a H H' ∧ Src a (N + (t : Int)) H') (by omega) (by omega) (fun _ => rfl) (fun D H' e hD hx => ⟨[], xs, rfl, e _ _ h1, .refl _, Kp.of_same (e1.trans e), by rw [show N + ((0 : Nat) : Int) = N by omega]; exact (sp.same e1).same e⟩) (fun t us D H' ht hD hul J hx R hR => ?_) fun us D H4 hD hul J hx => ?_
  · obtain ⟨ys, zs, rfl, hL, pm, g, s⟩ := J
    have ll := pm.length_eq
    rw [List.length_append] at ll
    rw [List.length_map] at hul
    have nD : D ≠ a := (sp.same e1).ne hD
    have nL : L1 ≠ D := ne_of_none h1 hD
    have zl : (((zs.map V.int).length : Nat) : Int) = (zs.length : Int) := by rw [List.length_map]
    walk_at "r"
    rename_i r H5 r0 r1 g5 s5
    rw [zl] at r1
    obtain ⟨j, rfl⟩ : ∃ j : Nat, r = (j : Int) := ⟨r.toNat, by omega⟩
    have hj : j < zs.length := by omega
    refine w_popAt (g5 _ _ n1 hL) rfl (by rw [List.getElem?_map, List.getElem?_eq_getElem hj]; rfl) (by rw [List.length_map]; omega) ?_
    have fD := e1.fr _ hD
    refine hR _ _ (by rw [upd_ne nL.symm]; exact g5 _ _ nD hx) ⟨ys ++ [zs[j]], zs.eraseIdx j, by rw [List.map_append]; rfl, ?_, ?_, ?_, ?_⟩
    · rw [upd_ne nL, upd_same, map_erase]
    · rw [List.append_assoc]
      exact (List.Perm.append_left ys (erase_perm hj)).trans pm
    · exact kp_updF (kp_updF (g.trans g5) f1) fD
    · rw [show N + ((t + 1 : Nat) : Int) = N + (t : Int) + 1 by omega]
      exact (s5.upd n1).upd nD
  · obtain ⟨ys, zs, rfl, hL, pm, g, s⟩ := J
    have ll := pm.length_eq
    rw [List.length_append] at ll
    rw [List.length_map, Int.toNat_natCast] at hul
    have z0 : zs = [] := List.length_eq_zero_iff.mp (by omega)
    subst z0
    rw [List.append_nil] at pm
    exact q D H4 ys pm (e1.fr _ hD) g (s.mono (by omega)) hx
theorem ok_law_near_draw (T : TX K mg base fa fd fc) : FnOk P w K mg base CX0 10 (fa 35) (fd 35) ["source", "size"] (SpNearD) := by
  refine T.F_law_near_draw.ok sc_law_near_draw (fun vs H Q E h => ?_) (fun cdv A outer s H vs Q E hr h => ?_)
  · obtain ⟨a, d, N, rfl, sp, hd, hN, q⟩ := h
    rfl
  obtain ⟨a, d, N, rfl, sp, hd, hN, q⟩ := h
  refine ⟨_, (pss_cons (ps_set (i := 2) sc_law_near_draw.nd rfl (by first | exact Or.inl rfl | exact Or.inr rfl) (pe_call (ok_law_swapped T) (hr.mono (by decide)) rfl T.g_law_swapped T.F_law_swapped.kp (bi_law_swapped T) .nil pass0 (pa_cons (pv 0) (pa_cons (pe_call (ok_law_bracket T) (hr.mono (by decide)) rfl T.g_law_bracket T.F_law_bracket.kp (bi_law_bracket T) .nil pass0 (pa_cons (pv 1) pa_nil)) pa_nil))))
    (pss_cons (ps_par3 (i := 3) (j := 4) (l := 5) (by rfl) sc_law_near_draw.nd rfl rfl rfl (by decide) (by decide) (by decide) rfl rfl rfl (pa_cons (pe_call (ok_law_draw T) (hr.mono (by decide)) rfl T.g_law_draw T.F_law_draw.kp (bi_law_draw T) .nil pass0 (pa_cons (pv 0) (pa_cons pe_int pa_nil))) (pa_cons (pe_call (ok_law_draw T) (hr.mono (by decide)) rfl T.g_law_draw T.F_law_draw.kp (bi_law_draw T) .nil pass0 (pa_cons (pv 0) (pa_cons (pe_callB (r := SC.rLen K) SC.c_len (by rfl) T.n_len (by decide +kernel) (pa_cons (pv 2) pa_nil)) pa_nil))) (pa_cons (pe_call (ok_law_draw T) (hr.mono (by decide)) rfl T.g_law_draw T.F_law_draw.kp (bi_law_draw T) .nil pass0 (pa_cons (pv 0) (pa_cons (pe_callB (r := SC.rLen K) SC.c_len (by rfl) T.n_len (by decide +kernel) (pa_cons (pv 2) pa_nil)) pa_nil))) pa_nil))) (by rfl))
    (pss_cons (ps_if (pt_cmpR op_eq (pv 3) pe_int (nomark _))
    (pss_one (ps_ret (pe_call (ok_law_mixed T) (hr.mono (by decide)) rfl T.g_law_mixed T.F_law_mixed.kp (bi_law_mixed T) .nil pass0 (pa_cons (pv 0) (pa_cons (pv 2) pa_nil))))) pss_nil)
    (pss_cons (ps_set (i := 6) sc_law_near_draw.nd rfl (by first | exact Or.inl rfl | exact Or.inr rfl) (pe_ifExp (pt_cmpR op_eq (pv 3) pe_int (nomark _)) (pe_call (ok_law_power T) (hr.mono (by decide)) rfl T.g_law_power T.F_law_power.kp (bi_law_power T) .nil pass0 (pa_cons (pe_call (ok_law_draw T) (hr.mono (by decide)) rfl T.g_law_draw T.F_law_draw.kp (bi_law_draw T) .nil pass0 (pa_cons (pv 0) (pa_cons (pv 1) pa_nil))) pa_nil)) pe_int))
    (pss_cons (ps_if (pt_cmpR (r := rIn K false) op_in_seq (pv 3) (pe_lst (pa_cons pe_int (pa_cons pe_int pa_nil))) (by rfl))
    (pss_cons (ps_par (i := 7) (j := 8) (by rfl) sc_law_near_draw.nd rfl rfl (by decide) rfl rfl (pa_cons (pe_op op_mulX (pe_op op_fdivW (pv 4) (pv 6)) (pv 6)) (pa_cons (pe_op op_mulX (pe_op op_fdivW (pv 5) (pv 6)) (pv 6)) pa_nil)) (by rfl))
    (pss_one (ps_for PassesOwn.never rfl (pi_range1 rfl T.n_range (pa_cons (pv 6) pa_nil)) (pg_name (i := 9) sc_law_near_draw.nd rfl (by first | exact Or.inl rfl | exact Or.inr rfl))
    (pss_cons (ps_set (i := 10) sc_law_near_draw.nd rfl (by first | exact Or.inl rfl | exact Or.inr rfl) (pe_ix (r := rIxL K) ix_list (pv 2) (pe_op op_add (pv 7) (pv 9)) (fun _ _ => rfl)))
    (pss_cons (ps_asg (pe_ix (r := rIxL K) ix_list (pv 2) (pe_op op_add (pv 8) (pv 9)) (fun _ _ => rfl)) (pg_sub (pv 2) (pe_op op_add (pv 7) (pv 9)) set_list))
    (pss_one (ps_asg (pv 10) (pg_sub (pv 2) (pe_op op_add (pv 8) (pv 9)) set_list)))))))) pss_nil)
    (pss_one (ps_ret (pv 2)))))))), ?_⟩
  have P7 : 2 ^ d ≤ 2 ^ 7 := Nat.pow_le_pow_right (by decide) hd.2
  have P1 : 0 < 2 ^ d := Nat.two_pow_pos d
  walk_at "r"
  refine ⟨d, rfl, by omega, fun B H1 fB e1 hB => ?_⟩
  walk_at "r"
  have nB := sp.ne fB
  refine ⟨d, by omega, a, B, _, N, rfl, sp.same e1, hB, brk_len d, nB, by omega, fun L2 H2 r pr g2 s2 h2 o2 n2 => ?_⟩
  have ir : IsDr d r := ⟨pr⟩
  have rl := ir.len
  have f2 : H L2 = none := by
    rcases o2 with z | z
    · rw [z]; exact fB
    · exact e1.fr _ z
  have k2 : Kp a H H2 := (Kp.of_same e1).trans g2
  have zl : (((r.map V.int).length : Nat) : Int) = ((2 ^ d : Nat) : Int) := by rw [List.length_map, rl]
  walk_at "r"
  rename_i r3 H3 r30 r31 g3 s3 r4 H4 r40 r41 g4 s4 r5 H5 r50 r51 g5 s5
  rw [zl] at r41 r51
  have k5 : Kp a H H5 := ((k2.trans g3).trans g4).trans g5
  have h5 := g5 _ _ n2 (g4 _ _ n2 (g3 _ _ n2 h2))
  obtain ⟨A, rfl⟩ : ∃ A : Nat, r4 = (A : Int) := ⟨r4.toNat, by omega⟩
  obtain ⟨B', rfl⟩ : ∃ B' : Nat, r5 = (B' : Int) := ⟨r5.toNat, by omega⟩
  refine w_ifd (fun w1 => ?_) fun w1 => ?_
  · walk_at "r"
    refine ⟨a, L2, r, _, rfl, s5, h5, by omega, n2, by omega, fun L6 H6 ys py f6 g6 s6 h6 => ?_⟩
    exact q L6 H6 ys ⟨py.trans pr⟩ (k5.fr _ (s5.ne f6) f6) (k5.trans g6) (s6.mono (by omega)) h6
  · walk_at "r"
    refine w_ifd (fun w3 => ?_) fun w3 => ?_
    · walk_at "r"
      rename_i r6 H6 r60 r61 g6 s6 H7 e7 L8 H8 e8 f8 h8
      have k58 : Kp a H5 H8 := (g6.trans (Kp.of_same e7)).trans (Kp.of_same e8)
      have s8 : Src a (N + ((2 ^ d : Nat) : Int) + 5) H8 := ((s6.same e7).same e8).mono (by omega)
      obtain ⟨e, rfl⟩ : ∃ e : Nat, r6 = (e : Int) := ⟨r6.toNat, by omega⟩
      have he : e < d := by omega
      have hW := p2_nat e
      generalize p2 (e : Int) = W at hW ⊢
      have ex : 2 ^ d = 2 ^ (d - e) * 2 ^ e := by rw [← Nat.pow_add]; congr 1; omega
      have pe : 0 < 2 ^ e := Nat.two_pow_pos e
      have part : ∀ x, x < 2 ^ d → x / 2 ^ e * 2 ^ e + 2 ^ e ≤ 2 ^ d := fun x hx => by
        rw [ex] at hx ⊢
        have := (Nat.div_lt_iff_lt_mul pe).mpr hx
        rw [← Nat.succ_mul]
        exact Nat.mul_le_mul_right _ this
      obtain ⟨lo, hlo⟩ : ∃ lo, lo = A / 2 ^ e * 2 ^ e := ⟨_, rfl⟩
      obtain ⟨hi, hhi⟩ : ∃ hi, hi = B' / 2 ^ e * 2 ^ e := ⟨_, rfl⟩
      have pA := part A (by omega)
      have pB := part B' (by omega)
      rw [← hlo] at pA
      rw [← hhi] at pB
      have W1 : 1 ≤ W ∧ W ≤ 200 := by omega
      have dA : (A : Int) / W = ((A / 2 ^ e : Nat) : Int) := by rw [hW]; exact (Int.natCast_ediv _ _).symm
      have dB : (B' : Int) / W = ((B' / 2 ^ e : Nat) : Int) := by rw [hW]; exact (Int.natCast_ediv _ _).symm
      have lA : (A : Int) / W * W = (lo : Int) := by rw [dA, hW, hlo]; exact (Int.natCast_mul _ _).symm
      have lB : (B' : Int) / W * W = (hi : Int) := by rw [dB, hW, hhi]; exact (Int.natCast_mul _ _).symm
      have bA : 0 ≤ (A : Int) / W ∧ (A : Int) / W ≤ 200 := by rw [dA]; have h : A / 2 ^ e ≤ 200 := Nat.le_trans (Nat.div_le_self A (2 ^ e)) (by omega); exact ⟨Int.natCast_nonneg _, Int.ofNat_le.mpr h⟩
      have bB : 0 ≤ (B' : Int) / W ∧ (B' : Int) / W ≤ 200 := by rw [dB]; have h : B' / 2 ^ e ≤ 200 := Nat.le_trans (Nat.div_le_self B' (2 ^ e)) (by omega); exact ⟨Int.natCast_nonneg _, Int.ofNat_le.mpr h⟩
      have h8' := k58 _ _ n2 h5
      have k8 := k5.trans k58
      refine w_inI [2, 3] (sq_of h8) ?_
      walk_at "r"
      refine w_ifd (fun w2 => ?_) fun w2 => ?_
      · walk_at "r"
        rw [lA, lB]
        refine w_rng1 (by omega) (by omega) (fun i σ H' => ∃ (y9 y10 : Option V) (r' : List Int), σ = [some (.ref a), some (.int d), some (.ref L2), some (.int r3), some (.int A), some (.int B'), some (.int W), some (.int (lo : Int)), some (.int (hi : Int)), y9, y10] ∧ Kp a H H' ∧ Src a (N + ((2 ^ d : Nat) : Int) + 5) H' ∧ H' L2 = some (.lst (r'.map V.int)) ∧ IsDr d r') ⟨_, _, r, rfl, k8, s8.mono (by omega), h8', ir⟩ ?_ ?_
        · rintro i σ' H9 hi9 ⟨y9, y10, r', rfl, k9, s9, h9, ir9⟩
          have rl9 := ir9.len
          have ia : lo + i < 2 ^ d := by omega
          have ib : hi + i < 2 ^ d := by omega
          walk_at "r"
          refine w_ixL (sq_of h9) (show atI (r'.map V.int) ((lo : Int) + (i : Int)) = some (.int (r'.getD (lo + i) 0)) from by rw [← Int.natCast_add]; exact atI_nat (getI (by omega))) ?_
          walk_at "r"
          refine w_ixL (sq_of h9) (show atI (r'.map V.int) ((hi : Int) + (i : Int)) = some (.int (r'.getD (hi + i) 0)) from by rw [← Int.natCast_add]; exact atI_nat (getI (by omega))) ?_
          walk_at "r"
          refine w_setL' h9 (ix_nat (j := lo + i) (Int.natCast_add ..).symm (by rw [List.length_map]; omega)) map_set ?_
          walk_at "r"
          refine w_setL' upd_same (ix_nat (j := hi + i) (Int.natCast_add ..).symm (by rw [List.length_map, List.length_set]; omega)) map_set ?_
          exact ⟨_, _, _, rfl, kp_updF (kp_updF k9 f2) f2, (s9.upd n2).upd n2, upd_same, ir9.set (getN (by omega)) (getN (by omega))⟩
        · rintro σ' H9 ⟨y9, y10, r', rfl, k9, s9, h9, ir9⟩
          walk_at "r"
          exact q L2 H9 r' ir9 f2 k9 (s9.mono (by omega)) h9
      · walk_at "r"
        exact q L2 H8 r ir f2 k8 (s8.mono (by omega)) h8'
    · walk_at "r"
      rename_i L8 H8 e8 f8 h8
      have k58 : Kp a H5 H8 := Kp.of_same e8
      have s8 : Src a (N + ((2 ^ d : Nat) : Int) + 5) H8 := (s5.same e8).mono (by omega)
      obtain ⟨e, he0⟩ : ∃ e : Nat, e = 0 := ⟨0, rfl⟩
      have he : e < d := by omega
      obtain ⟨W, hW1⟩ : ∃ W : Int, (1 : Int) = W := ⟨_, rfl⟩
      have hW : W = ((2 ^ e : Nat) : Int) := by rw [he0, ← hW1]; rfl
      rw [show (some (V.int 1)) = some (V.int W) by rw [hW1]]
      have ex : 2 ^ d = 2 ^ (d - e) * 2 ^ e := by rw [← Nat.pow_add]; congr 1; omega
      have pe : 0 < 2 ^ e := Nat.two_pow_pos e
      have part : ∀ x, x < 2 ^ d → x / 2 ^ e * 2 ^ e + 2 ^ e ≤ 2 ^ d := fun x hx => by
        rw [ex] at hx ⊢
        have := (Nat.div_lt_iff_lt_mul pe).mpr hx
        rw [← Nat.succ_mul]
        exact Nat.mul_le_mul_right _ this
      obtain ⟨lo, hlo⟩ : ∃ lo, lo = A / 2 ^ e * 2 ^ e := ⟨_, rfl⟩
      obtain ⟨hi, hhi⟩ : ∃ hi, hi = B' / 2 ^ e * 2 ^ e := ⟨_, rfl⟩
      have pA := part A (by omega)
      have pB := part B' (by omega)
      rw [← hlo] at pA
      rw [← hhi] at pB
      have W1 : 1 ≤ W ∧ W ≤ 200 := by omega
      have dA : (A : Int) / W = ((A / 2 ^ e : Nat) : Int) := by rw [hW]; exact (Int.natCast_ediv _ _).symm
      have dB : (B' : Int) / W = ((B' / 2 ^ e : Nat) : Int) := by rw [hW]; exact (Int.natCast_ediv _ _).symm
      have lA : (A : Int) / W * W = (lo : Int) := by rw [dA, hW, hlo]; exact (Int.natCast_mul _ _).symm
      have lB : (B' : Int) / W * W = (hi : Int) := by rw [dB, hW, hhi]; exact (Int.natCast_mul _ _).symm
      have bA : 0 ≤ (A : Int) / W ∧ (A : Int) / W ≤ 200 := by rw [dA]; have h : A / 2 ^ e ≤ 200 := Nat.le_trans (Nat.div_le_self A (2 ^ e)) (by omega); exact ⟨Int.natCast_nonneg _, Int.ofNat_le.mpr h⟩
      have bB : 0 ≤ (B' : Int) / W ∧ (B' : Int) / W ≤ 200 := by rw [dB]; have h : B' / 2 ^ e ≤ 200 := Nat.le_trans (Nat.div_le_self B' (2 ^ e)) (by omega); exact ⟨Int.natCast_nonneg _, Int.ofNat_le.mpr h⟩
      have h8' := k58 _ _ n2 h5
      have k8 := k5.trans k58
      refine w_inI [2, 3] (sq_of h8) ?_
      walk_at "r"
      refine w_ifd (fun w2 => ?_) fun w2 => ?_
      · walk_at "r"
        rw [lA, lB]
        refine w_rng1 (by omega) (by omega) (fun i σ H' => ∃ (y9 y10 : Option V) (r' : List Int), σ = [some (.ref a), some (.int d), some (.ref L2), some (.int r3), some (.int A), some (.int B'), some (.int W), some (.int (lo : Int)), some (.int (hi : Int)), y9, y10] ∧ Kp a H H' ∧ Src a (N + ((2 ^ d : Nat) : Int) + 5) H' ∧ H' L2 = some (.lst (r'.map V.int)) ∧ IsDr d r') ⟨_, _, r, rfl, k8, s8.mono (by omega), h8', ir⟩ ?_ ?_
        · rintro i σ' H9 hi9 ⟨y9, y10, r', rfl, k9, s9, h9, ir9⟩
          have rl9 := ir9.len
          have ia : lo + i < 2 ^ d := by omega
          have ib : hi + i < 2 ^ d := by omega
          walk_at "r"
          refine w_ixL (sq_of h9) (show atI (r'.map V.int) ((lo : Int) + (i : Int)) = some (.int (r'.getD (lo + i) 0)) from by rw [← Int.natCast_add]; exact atI_nat (getI (by omega))) ?_
          walk_at "r"
          refine w_ixL (sq_of h9) (show atI (r'.map V.int) ((hi : Int) + (i : Int)) = some (.int (r'.getD (hi + i) 0)) from by rw [← Int.natCast_add]; exact atI_nat (getI (by omega))) ?_
          walk_at "r"
          refine w_setL' h9 (ix_nat (j := lo + i) (Int.natCast_add ..).symm (by rw [List.length_map]; omega)) map_set ?_
          walk_at "r"
          refine w_setL' upd_same (ix_nat (j := hi + i) (Int.natCast_add ..).symm (by rw [List.length_map, List.length_set]; omega)) map_set ?_
          exact ⟨_, _, _, rfl, kp_updF (kp_updF k9 f2) f2, (s9.upd n2).upd n2, upd_same, ir9.set (getN (by omega)) (getN (by omega))⟩
        · rintro σ' H9 ⟨y9, y10, r', rfl, k9, s9, h9, ir9⟩
          walk_at "r"
          exact q L2 H9 r' ir9 f2 k9 (s9.mono (by omega)) h9
      · walk_at "r"
        exact q L2 H8 r ir f2 k8 (s8.mono (by omega)) h8'
theorem ok_count_matches (T : TX K mg base fa fd fc) : FnOk P w K mg base CX0 1 (fa 22) (fd 22) ["level"] (Sp1 (fun l => 0 ≤ l ∧ l ≤ 200) (fun l => .int (p2 l - 1))) := by
  refine T.F_count_matches.ok sc_count_matches (fun vs H Q E h => ?_) (fun cdv A outer s H vs Q E hr h => ?_)
  · obtain ⟨l, rfl, hl, q⟩ := h
    rfl
  obtain ⟨l, rfl, hl, q⟩ := h
  refine ⟨_, (pss_one (ps_ret (pe_op op_sub (pe_op SC.op_shl1 pe_int (pv 0)) pe_int))), ?_⟩
  walk_at "r"
  exact q _ (.refl _)
theorem ok_rko0 (T : TX K mg base fa fd fc) : FnOk P w K mg base CX0 2 (fa 24) (fd 24) ["rounds", "order"] (SpRkN 0) := by
  refine T.F_rank_order.ok sc_rank_order (fun vs H Q E h => ?_) (fun cdv A outer s H vs Q E hr h => ?_)
  · obtain ⟨d, L, hL, p, xs, b, rfl, hp, hd, hLd, hb, st, q⟩ := h
    rfl
  obtain ⟨d, L, hL, p, xs, b, rfl, hp, hd, hLd, hb, st, q⟩ := h
  refine ⟨_, (pss_cons (ps_set (i := 2) sc_rank_order.nd rfl (by first | exact Or.inl rfl | exact Or.inr rfl) (pe_call (ok_count_levels T) (hr.mono (by decide)) rfl T.g_count_levels T.F_count_levels.kp (bi_count_levels T) .nil pass0 (pa_cons (pv 1) pa_nil)))
    (pss_cons (ps_set (i := 3) sc_rank_order.nd rfl (by first | exact Or.inl rfl | exact Or.inr rfl) (pe_op SC.op_shrP (pe_op op_sub (pe_ix (r := rIxL K) ix_list (pv 1) pe_int (fun _ _ => rfl)) pe_int) (pe_op op_sub (pv 0) (pv 2))))
    (pss_cons (ps_for PassesOwn.never rfl (pi_range1 rfl T.n_range (pa_cons (pv 2) pa_nil)) (pg_name (i := 4) sc_rank_order.nd rfl (by first | exact Or.inl rfl | exact Or.inr rfl))
    pss_never)
    (pss_one (ps_ret (pv 3)))))), ?_⟩
  have : L = 0 := by omega
  subst this
  have lx := st_len st
  walk_at "r"
  refine ⟨p, 0, _, rfl, sq_of hp, by rw [List.length_map]; exact lx, fun H1 e1 => ?_⟩
  walk_at "r"
  refine w_ixL (sq_of (e1 _ _ hp)) (headD_at (by rw [lx]; decide)) ?_
  walk_at "r"
  obtain ⟨s, r, hs⟩ := st_head st
  have hsm := (st_mem hLd hb st s).mp (by rw [hs]; exact List.mem_cons_self)
  have i1 := (idx_range hLd hsm.1.1 hsm.1.2).1
  have hh : xs.headD 0 = s := by rw [hs]; rfl
  have ev : (xs.headD 0 - 1) / p2 ((d : Int) - ((0 : Nat) : Int)) = ((rkD d 0 xs : Nat) : Int) := by
    rw [hh]
    show (s - 1) / mL d 0 = ((idxD d 0 (xs.headD 0) * 2 ^ 0 + 0 : Nat) : Int)
    rw [← i1, hh]
    omega
  rw [ev]
  refine w_rng1 (by omega) (by omega) (fun l σ H' => ∃ y4 y5 : Option V, σ = [some (.int d), some (.ref p), some (.int ((0 : Nat) : Int)), some (.int (rkD d 0 xs : Nat)), y4, y5] ∧ Sm H H') ⟨_, _, rfl, e1⟩ (fun l σ' H' hl _ => absurd hl (by omega)) ?_
  rintro σ' H' ⟨y4, y5, rfl, e2⟩
  walk_at "r"
  exact q _ e2
theorem ok_rkoS (T : TX K mg base fa fd fc) (n : Nat) (hn : n ≤ 6) (F : FnOk P w K mg base CX0 (n + 2) (fa 24) (fd 24) ["rounds", "order"] (SpRkN n)) : FnOk P w K mg base CX0 (n+3) (fa 24) (fd 24) ["rounds", "order"] (SpRkN (n + 1)) := by
  refine T.F_rank_order.ok sc_rank_order (fun vs H Q E h => ?_) (fun cdv A outer s H vs Q E hr h => ?_)
  · obtain ⟨d, L, hL, p, xs, b, rfl, hp, hd, hLd, hb, st, q⟩ := h
    rfl
  obtain ⟨d, L, hL, p, xs, b, rfl, hp, hd, hLd, hb, st, q⟩ := h
  refine ⟨_, (pss_cons (ps_set (i := 2) sc_rank_order.nd rfl (by first | exact Or.inl rfl | exact Or.inr rfl) (pe_call (ok_count_levels T) (hr.mono (by omega)) rfl T.g_count_levels T.F_count_levels.kp (bi_count_levels T) .nil pass0 (pa_cons (pv 1) pa_nil)))
    (pss_cons (ps_set (i := 3) sc_rank_order.nd rfl (by first | exact Or.inl rfl | exact Or.inr rfl) (pe_op SC.op_shrP (pe_op op_sub (pe_ix (r := rIxL K) ix_list (pv 1) pe_int (fun _ _ => rfl)) pe_int) (pe_op op_sub (pv 0) (pv 2))))
    (pss_cons (ps_for PassesOwn.never rfl (pi_range1 rfl T.n_range (pa_cons (pv 2) pa_nil)) (pg_name (i := 4) sc_rank_order.nd rfl (by first | exact Or.inl rfl | exact Or.inr rfl))
    (pss_cons (ps_set (i := 5) sc_rank_order.nd rfl (by first | exact Or.inl rfl | exact Or.inr rfl) (pe_slice (r := rSlL K) sl_list (pv 1) (po_some (pe_op SC.op_shl1 pe_int (pv 4))) (po_some (pe_op SC.op_shlX pe_int (pv 4)))))
    (pss_one (ps_set (i := 3) sc_rank_order.nd rfl (by first | exact Or.inl rfl | exact Or.inr rfl) (pe_op op_or (pe_op SC.op_shlX (pv 3) (pe_call (ok_count_matches T) (hr.mono (by omega)) rfl T.g_count_matches T.F_count_matches.kp (bi_count_matches T) .nil pass0 (pa_cons (pv 4) pa_nil))) (pe_call (F) (hr.mono (by omega)) rfl T.g_rank_order T.F_rank_order.kp (bi_rank_order T) .nil pass0 (pa_cons (pv 0) (pa_cons (pv 5) pa_nil))))))))
    (pss_one (ps_ret (pv 3)))))), ?_⟩
  have lx := st_len st
  have l7 : 2 ^ L ≤ 2 ^ 7 := Nat.pow_le_pow_right (by decide) (by omega)
  have pL := Nat.two_pow_pos L
  obtain ⟨s, r, hs⟩ := st_head st
  have hsm := (st_mem hLd hb st s).mp (by rw [hs]; exact List.mem_cons_self)
  obtain ⟨i1, i2⟩ := idx_range hLd hsm.1.1 hsm.1.2
  have hh : xs.headD 0 = s := by rw [hs]; rfl
  walk_at "r"
  refine ⟨p, L, _, rfl, sq_of hp, by rw [List.length_map]; exact lx, fun H1 e1 => ?_⟩
  walk_at "r"
  refine w_ixL (sq_of (e1 _ _ hp)) (headD_at (by omega)) ?_
  walk_at "r"
  have ev : (xs.headD 0 - 1) / p2 ((d : Int) - (L : Int)) = ((idxD d L s * 2 ^ bt 0 + tlD d 0 (xs.take (2 ^ 0)) : Nat) : Int) := by
    rw [hh]
    show (s - 1) / mL d L = ((idxD d L s * 1 + 0 : Nat) : Int)
    rw [← i1]
    omega
  rw [ev]
  refine w_rng1 (by omega) (by omega) (fun l σ H' => ∃ y4 y5 : Option V, σ = [some (.int d), some (.ref p), some (.int L), some (.int ((idxD d L s * 2 ^ bt l + tlD d l (xs.take (2 ^ l)) : Nat) : Int)), y4, y5] ∧ Sm H H') ⟨_, _, rfl, e1⟩ ?_ ?_
  · rintro l σ' H2 hl ⟨y4, y5, rfl, e2⟩
    have hl : l < L := by omega
    have e22 : 2 ^ l * 2 ≤ 2 ^ L := by rw [← Nat.pow_succ]; exact Nat.pow_le_pow_right (by decide) hl
    have el := bt_eq l
    have l6 : 2 ^ l ≤ 2 ^ 6 := Nat.pow_le_pow_right (by decide) (by omega)
    obtain ⟨b0, q0, s0⟩ := st_part (w := l) (o := 0) (by omega) hLd hb st (Nat.dvd_zero _) pL
    obtain ⟨b', q1, s1⟩ := st_part (w := l) (o := 2 ^ l) (by omega) hLd hb st (Nat.dvd_refl _) (by omega)
    rw [List.drop_zero] at s0
    have t0 := (rk_lt (by omega) q0 s0).1
    have t1 := (rk_lt (by omega) q1 s1).2
    have pl := p2_nat l
    have pb : idxD d L s * 2 ^ bt l + tlD d l (xs.take (2 ^ l)) < 2 ^ (L + bt l) := by
      have : (idxD d L s + 1) * 2 ^ bt l ≤ 2 ^ L * 2 ^ bt l := Nat.mul_le_mul_right _ i2
      rw [Nat.succ_mul, ← Nat.pow_add] at this
      omega
    have pB : ((idxD d L s * 2 ^ bt l + tlD d l (xs.take (2 ^ l)) : Nat) : Int) < BIG := Int.lt_trans (Int.ofNat_lt.mpr pb) (pow_big (by omega))
    walk_at "r"
    refine w_sl (sq_of (e2 _ _ hp)) fun P1 H3 e3 f3 h3 => ?_
    rw [cut_part (a := 2 ^ l) (b := 2 * 2 ^ l) (by omega) (by omega) (by omega) (by rw [List.length_map]; omega), show 2 * 2 ^ l - 2 ^ l = 2 ^ l by omega, ← List.map_drop, ← List.map_take] at h3
    walk_at "r"
    rename_i H4 e4
    rw [p2_pred]
    walk_at "r"
    refine ⟨d, l, by omega, P1, _, b', rfl, e4 _ _ h3, hd, by omega, q1, s1, fun H5 e5 => ?_⟩
    walk_at "r"
    rw [or_join t1, rk_step']
    exact ⟨_, _, rfl, ((e2.trans e3).trans e4).trans e5⟩
  · rintro σ' H2 ⟨y4, y5, rfl, e2⟩
    walk_at "r"
    rw [Int.toNat_natCast, List.take_of_length_le (by omega)]
    exact vq (q _ e2) (by unfold rkD; rw [hh])
theorem ok_rkoN (T : TX K mg base fa fd fc) : ∀ n : Nat, n ≤ 7 → FnOk P w K mg base CX0 (n + 2) (fa 24) (fd 24) ["rounds", "order"] (SpRkN n)
  | 0, _ => ok_rko0 T
  | n + 1, h => ok_rkoS T n (by omega) (ok_rkoN T n (by omega))
theorem ok_rank_order (T : TX K mg base fa fd fc) : FnOk P w K mg base CX0 9 (fa 24) (fd 24) ["rounds", "order"] (SpRkN 7) := ok_rkoN T 7 (by decide)
theorem ok_nto0 (T : TX K mg base fa fd fc) : FnOk P w K mg base CX0 5 (fa 23) (fd 23) ["rounds", "level", "block", "index"] (SpNthN 0) := by
  refine T.F_nth_order.ok sc_nth_order (fun vs H Q E h => ?_) (fun cdv A outer s H vs Q E hr h => ?_)
  · obtain ⟨d, L, hL, b, i, rfl, hd, hLd, hb, hi, q⟩ := h
    rfl
  obtain ⟨d, L, hL, b, i, rfl, hd, hLd, hb, hi, q⟩ := h
  refine ⟨_, (pss_cons (ps_set (i := 4) sc_nth_order.nd rfl (by first | exact Or.inl rfl | exact Or.inr rfl) (pe_op op_sub (pe_call (ok_count_matches T) (hr.mono (by decide)) rfl T.g_count_matches T.F_count_matches.kp (bi_count_matches T) .nil pass0 (pa_cons (pv 1) pa_nil)) (pv 1)))
    (pss_cons (ps_set (i := 5) sc_nth_order.nd rfl (by first | exact Or.inl rfl | exact Or.inr rfl) (pe_lst (pa_cons (pe_call (ok_nth_dealt T) (hr.mono (by decide)) rfl T.g_nth_dealt T.F_nth_dealt.kp (bi_nth_dealt T) .nil pass0 (pa_cons (pe_op SC.op_shl1 pe_int (pe_op op_sub (pv 0) (pv 1))) (pa_cons (pv 2) (pa_cons (pe_op SC.op_shrP (pv 3) (pv 4)) pa_nil)))) pa_nil)))
    (pss_cons (ps_for PassesOwn.never rfl (pi_range1 rfl T.n_range (pa_cons (pv 1) pa_nil)) (pg_name (i := 6) sc_nth_order.nd rfl (by first | exact Or.inl rfl | exact Or.inr rfl))
    pss_never)
    (pss_one (ps_ret (pv 5)))))), ?_⟩
  have eb : p2 (L : Int) - 1 - (L : Int) = ((bt L : Nat) : Int) := by have := bt_eq L; rw [p2_nat]; omega
  have pb : 0 < 2 ^ bt L := Nat.two_pow_pos _
  have L7 : 2 ^ L ≤ 2 ^ 7 := Nat.pow_le_pow_right (by decide) (by omega)
  obtain ⟨f, hf⟩ : ∃ f : Nat, f = i / 2 ^ bt L := ⟨_, rfl⟩
  have fl : f < 2 ^ L := by
    rw [hf, Nat.div_lt_iff_lt_mul pb, ← Nat.pow_add, Nat.add_comm L]
    exact hi
  obtain ⟨m1, m2, m3⟩ := mem_fact hLd hb fl
  walk_at "r"
  rw [eb]
  rw [shr_cast, ← hf]
  walk_at "r"
  rename_i H0 e0 H1 e1' A H2 e2 f2 h2
  have e1 := e0.trans e1'
  have fA : H A = none := e1.fr _ f2
  have h2 : H2 A = some (.lst ((ordT d 0 (mem (mL d L) b f) (i / 2 ^ bt L % 2 ^ bt 0)).map V.int)) := h2
  generalize hs : mem (mL d L) b f = s at m1 m2 m3 h2
  have : L = 0 := by omega
  subst this
  refine w_rng1 (by omega) (by omega) (fun l σ H' => ∃ y6 y7 : Option V, σ = [some (.int d), some (.int ((0 : Nat) : Int)), some (.int b), some (.int i), some (.int ((bt 0 : Nat) : Int)), some (.ref A), y6, y7] ∧ Sm H H' ∧ H' A = some (.lst ((ordT d 0 s (i / 2 ^ bt 0 % 2 ^ bt 0)).map V.int))) ⟨_, _, rfl, e1.trans e2, h2⟩ (fun l σ' H' hl _ => absurd hl (by omega)) ?_
  rintro σ' H3 ⟨y6, y7, rfl, e3, h3⟩
  walk_at "r"
  refine q A H3 fA e3 ?_
  rw [h3, ← hs, hf]
  rfl
theorem ok_ntoS (T : TX K mg base fa fd fc) (n : Nat) (hn : n ≤ 6) (F : FnOk P w K mg base CX0 (n + 5) (fa 23) (fd 23) ["rounds", "level", "block", "index"] (SpNthN n)) : FnOk P w K mg base CX0 (n+6) (fa 23) (fd 23) ["rounds", "level", "block", "index"] (SpNthN (n + 1)) := by
  refine T.F_nth_order.ok sc_nth_order (fun vs H Q E h => ?_) (fun cdv A outer s H vs Q E hr h => ?_)
  · obtain ⟨d, L, hL, b, i, rfl, hd, hLd, hb, hi, q⟩ := h
    rfl
  obtain ⟨d, L, hL, b, i, rfl, hd, hLd, hb, hi, q⟩ := h
  refine ⟨_, (pss_cons (ps_set (i := 4) sc_nth_order.nd rfl (by first | exact Or.inl rfl | exact Or.inr rfl) (pe_op op_sub (pe_call (ok_count_matches T) (hr.mono (by omega)) rfl T.g_count_matches T.F_count_matches.kp (bi_count_matches T) .nil pass0 (pa_cons (pv 1) pa_nil)) (pv 1)))
    (pss_cons (ps_set (i := 5) sc_nth_order.nd rfl (by first | exact Or.inl rfl | exact Or.inr rfl) (pe_lst (pa_cons (pe_call (ok_nth_dealt T) (hr.mono (by omega)) rfl T.g_nth_dealt T.F_nth_dealt.kp (bi_nth_dealt T) .nil pass0 (pa_cons (pe_op SC.op_shl1 pe_int (pe_op op_sub (pv 0) (pv 1))) (pa_cons (pv 2) (pa_cons (pe_op SC.op_shrP (pv 3) (pv 4)) pa_nil)))) pa_nil)))
    (pss_cons (ps_for PassesOwn.never rfl (pi_range1 rfl T.n_range (pa_cons (pv 1) pa_nil)) (pg_name (i := 6) sc_nth_order.nd rfl (by first | exact Or.inl rfl | exact Or.inr rfl))
    (pss_cons (ps_set (i := 4) sc_nth_order.nd rfl (by first | exact Or.inl rfl | exact Or.inr rfl) (pe_op op_sub (pv 4) (pe_call (ok_count_matches T) (hr.mono (by omega)) rfl T.g_count_matches T.F_count_matches.kp (bi_count_matches T) .nil pass0 (pa_cons (pv 6) pa_nil))))
    (pss_cons (ps_set (i := 7) sc_nth_order.nd rfl (by first | exact Or.inl rfl | exact Or.inr rfl) (pe_op op_and (pe_op SC.op_shrP (pv 3) (pv 4)) (pe_op op_sub (pe_op SC.op_shl1 pe_int (pe_call (ok_count_matches T) (hr.mono (by omega)) rfl T.g_count_matches T.F_count_matches.kp (bi_count_matches T) .nil pass0 (pa_cons (pv 6) pa_nil))) pe_int)))
    (pss_one (ps_expr (pe_bm PySem.F.plainAttrs_list PySem.F.slot_list_extend PySem.F.type_list_extend mt_extend (pv 5) (pa_cons (pe_call (F) (hr.mono (by omega)) rfl T.g_nth_order T.F_nth_order.kp (bi_nth_order T) .nil pass0 (pa_cons (pv 0) (pa_cons (pv 6) (pa_cons (pe_call (ok_other_half T) (hr.mono (by omega)) rfl T.g_other_half T.F_other_half.kp (bi_other_half T) .nil pass0 (pa_cons (pv 0) (pa_cons (pe_op op_add (pv 6) pe_int) (pa_cons (pe_ix (r := rIxL K) ix_list (pv 5) pe_int (fun _ _ => rfl)) pa_nil)))) (pa_cons (pv 7) pa_nil))))) pa_nil)))))))
    (pss_one (ps_ret (pv 5)))))), ?_⟩
  have eb : p2 (L : Int) - 1 - (L : Int) = ((bt L : Nat) : Int) := by have := bt_eq L; rw [p2_nat]; omega
  have pb : 0 < 2 ^ bt L := Nat.two_pow_pos _
  have L7 : 2 ^ L ≤ 2 ^ 7 := Nat.pow_le_pow_right (by decide) (by omega)
  obtain ⟨f, hf⟩ : ∃ f : Nat, f = i / 2 ^ bt L := ⟨_, rfl⟩
  have fl : f < 2 ^ L := by
    rw [hf, Nat.div_lt_iff_lt_mul pb, ← Nat.pow_add, Nat.add_comm L]
    exact hi
  obtain ⟨m1, m2, m3⟩ := mem_fact hLd hb fl
  walk_at "r"
  rw [eb]
  rw [shr_cast, ← hf]
  walk_at "r"
  rename_i H0 e0 H1 e1' A H2 e2 f2 h2
  have e1 := e0.trans e1'
  have fA : H A = none := e1.fr _ f2
  have h2 : H2 A = some (.lst ((ordT d 0 (mem (mL d L) b f) (i / 2 ^ bt L % 2 ^ bt 0)).map V.int)) := h2
  generalize hs : mem (mL d L) b f = s at m1 m2 m3 h2
  refine w_rng1 (by omega) (by omega) (fun l σ H' => ∃ (B : Nat) (y6 y7 : Option V), σ = [some (.int d), some (.int (L : Int)), some (.int b), some (.int i), some (.int (B : Int)), some (.ref A), y6, y7] ∧ B + bt l = bt L ∧ Sm H H' ∧ H' A = some (.lst ((ordT d l s (i / 2 ^ B % 2 ^ bt l)).map V.int))) ⟨bt L, _, _, rfl, rfl, e1.trans e2, h2⟩ ?_ ?_
  · rintro l σ' H3 hl ⟨B, y6, y7, rfl, hB, e3, h3⟩
    have hl : l < L := by omega
    have el := bt_eq l
    have l6 : 2 ^ l ≤ 2 ^ 6 := Nat.pow_le_pow_right (by decide) (by omega)
    have pl := p2_nat l
    have bm := bt_mono (l := l + 1) (L := L) (by omega)
    have b1 : bt (l + 1) = bt l + (bt l + l) := rfl
    obtain ⟨B', hB'⟩ : ∃ B' : Nat, B' + (bt l + l) = B := ⟨B - (bt l + l), by omega⟩
    obtain ⟨o1, o2, o3⟩ := ord_st (d := d) (L := l) (s := s) (t := i / 2 ^ B % 2 ^ bt l) (by omega) m1 (Nat.mod_lt _ (Nat.two_pow_pos _))
    have ol := st_len o1
    walk_at "r"
    rename_i H4a e4a H4 e4b
    have e4 := e4a.trans e4b
    rw [show (B : Int) - (p2 (l : Int) - 1) = (B' : Int) by rw [p2_pred]; omega]
    walk_at "r"
    have hA4 := e4 _ _ h3
    refine w_ixL (sq_of hA4) (by rw [headD_at (by rw [ol]; exact Nat.two_pow_pos l), o2]) ?_
    walk_at "r"
    rename_i H5 e5
    have oe : oth (d : Int) ((l : Int) + 1) s = ohD d l s := by
      unfold oth ohD mL
      rw [show (d : Int) - ((l : Int) + 1) + 1 = (d : Int) - (l : Int) by omega]
      have := mL_half (d := d) (L := l) (by omega)
      unfold mL at this
      omega
    rw [oe, p2_pred, shr_cast, and_mask]
    refine ⟨d, l, by omega, _, _, rfl, hd, by omega, oh_ok (by omega) m1.1, Nat.mod_lt _ (Nat.two_pow_pos _), fun A6 H6 f6 e6 h6 => ?_⟩
    obtain ⟨z1, z2⟩ := top_step (i := i) (u := B') (v := bt l) (w := bt l + l)
    have st6 := (nth_st (d := d) (L := l) (b := ohD d l s) (n := i / 2 ^ B' % 2 ^ (bt l + l)) (by omega) (oh_ok (by omega) m1.1) (Nat.mod_lt _ (Nat.two_pow_pos _))).1
    have l6' := st_len st6
    walk_at "r"
    refine w_extend (e6 _ _ (e5 _ _ hA4)) h6 (by rw [List.length_map, List.length_map, ol, l6']; omega) ?_
    walk_at "r"
    refine ⟨B', _, _, rfl, by omega, sm_upd (((e3.trans e4).trans e5).trans e6) fA, ?_⟩
    rw [upd_same, ← List.map_append, b1, ordT_succ, z1, z2, hB']
  · rintro σ' H3 ⟨B, y6, y7, rfl, hB, e3, h3⟩
    rw [Int.toNat_natCast] at hB h3
    have : B = 0 := by omega
    subst this
    walk_at "r"
    refine q A H3 fA e3 ?_
    rw [h3, Nat.pow_zero, Nat.div_one, ← hs, hf]
    rfl
theorem ok_ntoN (T : TX K mg base fa fd fc) : ∀ n : Nat, n ≤ 7 → FnOk P w K mg base CX0 (n + 5) (fa 23) (fd 23) ["rounds", "level", "block", "index"] (SpNthN n)
  | 0, _ => ok_nto0 T
  | n + 1, h => ok_ntoS T n (by omega) (ok_ntoN T n (by omega))
theorem ok_nth_order (T : TX K mg base fa fd fc) : FnOk P w K mg base CX0 12 (fa 23) (fd 23) ["rounds", "level", "block", "index"] (SpNthN 7) := ok_ntoN T 7 (by decide)
theorem ok_check_few_rounds (T : TX K mg base fa fd fc) : FnOk P w K mg base CX0 4 (fa 4) (fd 4) ["rounds", "limit"] (Sp2 (fun r l => (1 ≤ r ∧ r ≤ 100) ∧ r ≤ l) (fun _ _ => .non)) := by
  refine T.F_check_few_rounds.ok sc_check_few_rounds (fun vs H Q E h => ?_) (fun cdv A outer s H vs Q E hr h => ?_)
  · obtain ⟨r, l, rfl, hp, q⟩ := h
    rfl
  obtain ⟨r, l, rfl, hp, q⟩ := h
  refine ⟨_, (pss_cons (ps_expr (pe_call (ok_check_rounds T) (hr.mono (by decide)) rfl T.g_check_rounds T.F_check_rounds.kp (bi_check_rounds T) .nil pass0 (pa_cons (pv 0) pa_nil)))
    (pss_one (ps_if (pt_cmpR op_gt (pv 0) (pv 1) (nomark _))
    (pss_one ps_never) pss_nil))), ?_⟩
  walk_at "r"
  exact q _ (by assumption)
theorem ok_check_index (T : TX K mg base fa fd fc) : FnOk P w K mg base CX0 3 (fa 6) (fd 6) ["size", "index"] (Sp2 (fun n i => 0 ≤ i ∧ i < n) (fun _ _ => .non)) := by
  refine T.F_check_index.ok sc_check_index (fun vs H Q E h => ?_) (fun cdv A outer s H vs Q E hr h => ?_)
  · obtain ⟨n, i, rfl, hp, q⟩ := h
    rfl
  obtain ⟨n, i, rfl, hp, q⟩ := h
  refine ⟨_, (pss_one (ps_if (pt_not (pt_val (pe_call (ok_is_integer_between T) (hr.mono (by decide)) rfl T.g_is_integer_between T.F_is_integer_between.kp (bi_is_integer_between T) .nil pass0 (pa_cons (pv 1) (pa_cons pe_int (pa_cons (pe_op op_sub (pv 0) pe_int) pa_nil))))))
    (pss_one ps_never) pss_nil)), ?_⟩
  walk_at "r"
  exact q _ (by assumption)
theorem ok_nth_draw (T : TX K mg base fa fd fc) : FnOk P w K mg base CX0 13 (fa 18) (fd 18) ["rounds", "index"] (SpNthD) := by
  refine T.F_nth_draw.ok sc_nth_draw (fun vs H Q E h => ?_) (fun cdv A outer s H vs Q E hr h => ?_)
  · obtain ⟨d, i, rfl, hd, hi, q⟩ := h
    rfl
  obtain ⟨d, i, rfl, hd, hi, q⟩ := h
  refine ⟨_, (pss_cons (ps_expr (pe_call (ok_check_few_rounds T) (hr.mono (by decide)) rfl T.g_check_few_rounds T.F_check_few_rounds.kp (bi_check_few_rounds T) .nil pass0 (pa_cons (pv 0) (pa_cons (pe_glob (v := .int 7) rfl T.t_MOST_ROUNDS_OF_A_DRAW.choose_spec ⟨_, rfl⟩) pa_nil))))
    (pss_cons (ps_expr (pe_call (ok_check_index T) (hr.mono (by decide)) rfl T.g_check_index T.F_check_index.kp (bi_check_index T) .nil pass0 (pa_cons (pe_op SC.op_shl1 pe_int (pe_call (ok_count_matches T) (hr.mono (by decide)) rfl T.g_count_matches T.F_count_matches.kp (bi_count_matches T) .nil pass0 (pa_cons (pv 0) pa_nil))) (pa_cons (pv 1) pa_nil))))
    (pss_one (ps_ret (pe_call (ok_nth_order T) (hr.mono (by decide)) rfl T.g_nth_order T.F_nth_order.kp (bi_nth_order T) .nil pass0 (pa_cons (pv 0) (pa_cons (pv 0) (pa_cons pe_int (pa_cons (pv 1) pa_nil))))))))), ?_⟩
  have eb : p2 (d : Int) - 1 = ((bt d + d : Nat) : Int) := p2_pred
  have D7 : 2 ^ d ≤ 2 ^ 7 := Nat.pow_le_pow_right (by decide) hd.2
  have P2 := p2_nat d
  walk_at "r"
  rename_i H1 e1 H2 e2
  rw [eb]
  refine w_sp2 ⟨by omega, by rw [p2_nat]; exact Int.ofNat_lt.mpr hi⟩ fun H3 e3 => ?_
  walk_at "r"
  refine ⟨d, d, hd.2, 1, i, rfl, hd, Nat.le_refl _, ⟨by omega, by have : 0 < mL d d := mL_pos; omega⟩, hi, fun A H4 fA e4 h4 => ?_⟩
  have e13 := (e1.trans e2).trans e3
  exact q A H4 (e13.fr _ fA) (e13.trans e4) h4
theorem ok_rank_draw (T : TX K mg base fa fd fc) : FnOk P w K mg base CX0 10 (fa 19) (fd 19) ["draw"] (SpRank fc) := by
  refine T.F_rank_draw.ok sc_rank_draw (fun vs H Q E h => ?_) (fun cdv A outer s H vs Q E hr h => ?_)
  · obtain ⟨p, d, xs, rfl, hp, hd, st, ht, q⟩ := h
    rfl
  obtain ⟨p, d, xs, rfl, hp, hd, st, ht, q⟩ := h
  refine ⟨_, (pss_cons (ps_if (pt_not (pt_val (pe_call (ok_is_standard T) (hr.mono (by decide)) rfl T.g_is_standard T.F_is_standard.kp (bi_is_standard T) .nil pass0 (pa_cons (pv 0) pa_nil))))
    (pss_one ps_never) pss_nil)
    (pss_one (ps_ret (pe_call (ok_rank_order T) (hr.mono (by decide)) rfl T.g_rank_order T.F_rank_order.kp (bi_rank_order T) .nil pass0 (pa_cons (pe_call (ok_count_levels T) (hr.mono (by decide)) rfl T.g_count_levels T.F_count_levels.kp (bi_count_levels T) .nil pass0 (pa_cons (pv 0) pa_nil)) (pa_cons (pv 0) pa_nil)))))), ?_⟩
  obtain ⟨ir, sd⟩ := st_std st
  walk_at "r"
  refine ⟨p, d, xs, rfl, hp, hd, ir, ht, fun b H1 hb e1 => ?_⟩
  have : b = true := hb.mpr sd
  subst this
  walk_at "r"
  refine ⟨p, d, _, rfl, sq_of (e1 _ _ hp), by rw [List.length_map]; exact ir.len, fun H2 e2 => ?_⟩
  walk_at "r"
  refine ⟨d, d, hd.2, p, xs, 1, rfl, (e1.trans e2) _ _ hp, hd, Nat.le_refl _, ⟨by omega, by have : 0 < mL d d := mL_pos; omega⟩, st, fun H3 e3 => ?_⟩
  exact q _ ((e1.trans e2).trans e3)
theorem ok_als0 (T : TX K mg base fa fd fc) : FnOk P w K mg base CX0 2 (fa 31) (fd 31) ["row"] (SpAllN 0) := by
  refine T.F_law_all_swapped.ok sc_law_all_swapped (fun vs H Q E h => ?_) (fun cdv A outer s H vs Q E hr h => ?_)
  · obtain ⟨L, p, xs, rfl, hL, h3, hp, lx, q⟩ := h
    rfl
  obtain ⟨L, p, xs, rfl, hL, h3, hp, lx, q⟩ := h
  refine ⟨_, (pss_cons (ps_if (pt_cmpR op_eq (pe_callB (r := SC.rLen K) SC.c_len (by rfl) T.n_len (by decide +kernel) (pa_cons (pv 0) pa_nil)) pe_int (nomark _))
    (pss_one (ps_ret (pe_lst (pa_cons (pv 0) pa_nil)))) pss_nil)
    pss_never), ?_⟩
  have : L = 0 := by omega
  subst this
  walk_at "r"
  rw [List.length_map, lx]
  walk_at "r"
  rename_i A H1 e1 f1 h1
  exact q A H1 [p] f1 e1 h1 (Rws.nil.snoc (e1 _ _ hp))
theorem ok_alsS (T : TX K mg base fa fd fc) (n : Nat) (hn : n ≤ 2) (F : FnOk P w K mg base CX0 (n + 2) (fa 31) (fd 31) ["row"] (SpAllN n)) : FnOk P w K mg base CX0 (n+3) (fa 31) (fd 31) ["row"] (SpAllN (n + 1)) := by
  refine T.F_law_all_swapped.ok sc_law_all_swapped (fun vs H Q E h => ?_) (fun cdv A outer s H vs Q E hr h => ?_)
  · obtain ⟨L, p, xs, rfl, hL, h3, hp, lx, q⟩ := h
    rfl
  obtain ⟨L, p, xs, rfl, hL, h3, hp, lx, q⟩ := h
  refine ⟨_, (pss_cons (ps_if (pt_cmpR op_eq (pe_callB (r := SC.rLen K) SC.c_len (by rfl) T.n_len (by decide +kernel) (pa_cons (pv 0) pa_nil)) pe_int (nomark _))
    (pss_one (ps_ret (pe_lst (pa_cons (pv 0) pa_nil)))) pss_nil)
    (pss_cons (ps_par (i := 1) (j := 2) (by rfl) sc_law_all_swapped.nd rfl rfl (by decide) rfl rfl (pa_cons (pe_op op_fdivW (pe_callB (r := SC.rLen K) SC.c_len (by rfl) T.n_len (by decide +kernel) (pa_cons (pv 0) pa_nil)) pe_int) (pa_cons (pe_lst pa_nil) pa_nil)) (by rfl))
    (pss_cons (ps_set (i := 3) sc_law_all_swapped.nd rfl (by first | exact Or.inl rfl | exact Or.inr rfl) (pe_call (F) (hr.mono (by omega)) rfl T.g_law_all_swapped T.F_law_all_swapped.kp (bi_law_all_swapped T) .nil pass0 (pa_cons (pe_slice (r := rSlL K) sl_list (pv 0) (po_some (pv 1)) po_none) pa_nil)))
    (pss_cons (ps_for PassesOwn.never rfl (pi_list (pe_call (F) (hr.mono (by omega)) rfl T.g_law_all_swapped T.F_law_all_swapped.kp (bi_law_all_swapped T) .nil pass0 (pa_cons (pe_slice (r := rSlL K) sl_list (pv 0) po_none (po_some (pv 1))) pa_nil))) (pg_name (i := 4) sc_law_all_swapped.nd rfl (by first | exact Or.inl rfl | exact Or.inr rfl))
    (pss_one (ps_for PassesOwn.never rfl (pi_list (pv 3)) (pg_name (i := 5) sc_law_all_swapped.nd rfl (by first | exact Or.inl rfl | exact Or.inr rfl))
    (pss_one (ps_expr (pe_bm PySem.F.plainAttrs_list PySem.F.slot_list_extend PySem.F.type_list_extend mt_extend (pv 2) (pa_cons (pe_lst (pa_cons (pe_op op_cat (pv 4) (pv 5)) (pa_cons (pe_op op_cat (pv 5) (pv 4)) pa_nil))) pa_nil)))))))
    (pss_one (ps_ret (pv 2))))))), ?_⟩
  match L, hL, h3, lx, q with
  | 0, hL, h3, lx, q =>
    walk_at "r"
    rw [List.length_map, lx]
    walk_at "r"
    rename_i A H1 e1 f1 h1
    exact q A H1 [p] f1 e1 h1 (Rws.nil.snoc (e1 _ _ hp))
  | L + 1, hL, h3, lx, q =>
    have e2 : 2 ^ (L + 1) = 2 ^ L * 2 := Nat.pow_succ 2 L
    have L1 := Nat.two_pow_pos L
    have L7 : 2 ^ L ≤ 2 ^ 2 := Nat.pow_le_pow_right (by decide) (by omega)
    have la : (xs.take (2 ^ L)).length = 2 ^ L := by rw [List.length_take]; omega
    have lb : (xs.drop (2 ^ L)).length = 2 ^ L := by rw [List.length_drop]; omega
    have n1 := allS_num (L := L) (xs := xs.take (2 ^ L))
    have n2 := allS_num (L := L) (xs := xs.drop (2 ^ L))
    have bl := bt_eq L
    have n8 : 2 ^ (bt L + L) ≤ 2 ^ 3 := Nat.pow_le_pow_right (by decide) (by omega)
    have g1 := allS_len la
    have g2 := allS_len lb
    walk_at "r"
    rw [List.length_map, lx]
    walk_at "r"
    rename_i F0 H1 e1 f1 h1
    rw [show (((xs.map V.int).length : Nat) : Int) / 2 = ((2 ^ L : Nat) : Int) by rw [List.length_map, lx, e2]; omega]
    refine w_sl (sq_of (e1 _ _ hp)) fun p2' H2 e2' f2 h2 => ?_
    rw [cut_drop, ← List.map_drop] at h2
    walk_at "r"
    refine ⟨L, p2', _, rfl, by omega, by omega, h2, lb, fun A3 H3 ads3 f3 e3 h3' r3 => ?_⟩
    walk_at "r"
    refine w_sl (sq_of (((e1.trans e2').trans e3) _ _ hp)) fun p4 H4 e4 f4 h4 => ?_
    rw [cut_takeN, ← List.map_take] at h4
    walk_at "r"
    refine ⟨L, p4, _, rfl, by omega, by omega, h4, la, fun A5 H5 ads5 f5 e5 h5 r5 => ?_⟩
    have e15 := ((e2'.trans e3).trans e4).trans e5
    have hF5 : H5 F0 = some (.lst (([] : List Addr).map V.ref)) := e15 _ _ h1
    have nA3 : A3 ≠ F0 := fun z => by have q := e2' _ _ h1; rw [← z, f3] at q; cases q
    have nA5 : A5 ≠ F0 := fun z => by have q := (e2'.trans e3).trans e4 |>.un _ _ h1; rw [← z, f5] at q; cases q
    have r35 := (r3.go (e4.trans e5))
    have a3 := r35.apart hF5 (fun e he => by rw [g2 e he]; exact L1)
    have a5 := r5.apart hF5 (fun e he => by rw [g1 e he]; exact L1)
    have h35 := (e4.trans e5) _ _ h3'
    have ll3 : ads3.length ≤ 8 := by rw [r3.1, n2]; omega
    have ll5 : ads5.length ≤ 8 := by rw [r5.1, n1]; omega
    generalize hS1 : allS L (xs.take (2 ^ L)) = S1 at n1 g1 r5
    generalize hS2 : allS L (xs.drop (2 ^ L)) = S2 at n2 g2 r3 r35
    have gl : ∀ one : List Int, (S2.flatMap fun two => [one ++ two, two ++ one]).length = S2.length * 2 := fun one => flat_lenN fun _ => rfl
    refine w_lst (sq_of h5) (fun i σ H' => ∃ (y4 y5 : Option V) (fads : List Addr), σ = [some (.ref p), some (.int ((2 ^ L : Nat) : Int)), some (.ref F0), some (.ref A3), y4, y5] ∧ Kp F0 H5 H' ∧ H' F0 = some (.lst (fads.map V.ref)) ∧ Rws H' fads ((S1.take i).flatMap fun one => S2.flatMap fun two => [one ++ two, two ++ one])) ⟨_, _, [], rfl, .refl _ _, hF5, Rws.nil⟩ (fun i σ' H' _ ⟨_, _, _, _, k, _⟩ => sq_of (k _ _ nA5 h5)) ?_ ?_
    · rintro i x σ' H6 hx ⟨y4, y5, fads, rfl, k6, hF6, r6⟩
      obtain ⟨p1, one, rfl, hone, hp1⟩ := r5.get hx
      have lone := g1 one (List.mem_of_getElem? hone)
      have mp1 : p1 ≠ F0 := a5 p1 (by rw [List.getElem?_map] at hx; obtain ⟨z, hz, e⟩ := Option.map_eq_some_iff.mp hx; cases e; exact List.mem_of_getElem? hz)
      have li : i < S1.length := (List.getElem?_eq_some_iff.mp hone).1
      walk_at "r"
      refine w_lst (sq_of (k6 _ _ nA3 h35)) (fun j σ H' => ∃ (y5 : Option V) (fads : List Addr), σ = [some (.ref p), some (.int ((2 ^ L : Nat) : Int)), some (.ref F0), some (.ref A3), some (.ref p1), y5] ∧ Kp F0 H5 H' ∧ H' F0 = some (.lst (fads.map V.ref)) ∧ Rws H' fads (((S1.take i).flatMap fun one => S2.flatMap fun two => [one ++ two, two ++ one]) ++ (S2.take j).flatMap fun two => [one ++ two, two ++ one])) ⟨_, fads, rfl, k6, hF6, by simpa using r6⟩ (fun j σ' H' _ ⟨_, _, _, k, _⟩ => sq_of (k _ _ nA3 h35)) ?_ ?_
      · rintro j y σ' H7 hy ⟨y5, fads, rfl, k7, hF7, r7⟩
        obtain ⟨p2, two, rfl, htwo, hp2⟩ := r35.get hy
        have ltwo := g2 two (List.mem_of_getElem? htwo)
        have mp2 : p2 ≠ F0 := a3 p2 (by rw [List.getElem?_map] at hy; obtain ⟨z, hz, e⟩ := Option.map_eq_some_iff.mp hy; cases e; exact List.mem_of_getElem? hz)
        have lj : j < S2.length := (List.getElem?_eq_some_iff.mp htwo).1
        have hp1' := k7 _ _ mp1 hp1
        have hp2' := k7 _ _ mp2 hp2
        have lf : fads.length ≤ 200 := by
          rw [r7.1, List.length_append, flat_lenN gl, flat_lenN (N := 2) (fun _ => rfl), List.length_take, List.length_take]
          have : min i S1.length * (S2.length * 2) ≤ 8 * (8 * 2) := Nat.mul_le_mul (by omega) (Nat.mul_le_mul_right _ (by omega))
          omega
        walk_at "r"
        refine w_cat hp1' hp2' (by rw [List.length_map, List.length_map]; omega) fun C1 H8 e8 f8 h8 => ?_
        walk_at "r"
        refine w_cat (e8 _ _ hp2') (e8 _ _ hp1') (by rw [List.length_map, List.length_map]; omega) fun C2 H9 e9 f9 h9 => ?_
        walk_at "r"
        rename_i B10 H10 e10 f10 h10
        rw [← List.map_append] at h8 h9
        have e810 := (e8.trans e9).trans e10
        have hF10 := e810 _ _ hF7
        have rN := ((r7.go e810).snoc ((e9.trans e10) _ _ h8)).snoc (e10 _ _ h9)
        have ap := rN.apart hF10 (fun e he => by
          rw [List.append_assoc] at he
          have two_ne : ∀ e ∈ ((S1.take (i + 1)).flatMap fun one => S2.flatMap fun two => [one ++ two, two ++ one]), 0 < e.length := fun e he => by
            obtain ⟨o, ho, he⟩ := List.mem_flatMap.mp he
            obtain ⟨u, hu, he⟩ := List.mem_flatMap.mp he
            have lo := g1 o (List.mem_of_mem_take ho)
            simp only [List.mem_cons, List.not_mem_nil, or_false] at he
            rcases he with rfl | rfl <;> rw [List.length_append] <;> omega
          have : e ∈ ((S1.take (i + 1)).flatMap fun one => S2.flatMap fun two => [one ++ two, two ++ one]) := by
            rw [take_flat hone]
            rcases List.mem_append.mp he with m | m
            · rcases List.mem_append.mp m with m | m
              · exact List.mem_append_left _ m
              · refine List.mem_append_right _ ?_
                obtain ⟨u, hu, m⟩ := List.mem_flatMap.mp m
                exact List.mem_flatMap.mpr ⟨u, List.mem_of_mem_take hu, m⟩
            · refine List.mem_append_right _ (List.mem_flatMap.mpr ⟨two, List.mem_of_getElem? htwo, by simpa using m⟩)
          exact two_ne e this)
        refine w_extend hF10 h10 (by rw [List.length_map]; simp; omega) ?_
        walk_at "r"
        refine ⟨_, fads ++ [C1] ++ [C2], rfl, (k7.trans (.of_same e810)).trans kp_upd, by rw [upd_same, List.map_append, List.map_append, List.append_assoc]; rfl, ?_⟩
        rw [take_flat htwo, ← List.append_assoc]
        have := rN.updL (o := .lst (fads.map V.ref ++ [.ref C1, .ref C2])) ap
        rw [List.append_assoc (_ ++ _) [one ++ two] [two ++ one]] at this
        exact this
      · rintro σ' H7 ⟨y5, fads, rfl, k7, hF7, r7⟩
        rw [List.length_map, r35.1, List.take_length] at r7
        walk_at "r"
        exact ⟨_, _, fads, rfl, k7, hF7, by rw [take_flat hone]; exact r7⟩
    · rintro σ' H6 ⟨y4, y5, fads, rfl, k6, hF6, r6⟩
      rw [List.length_map, r5.1, List.take_length] at r6
      walk_at "r"
      refine q F0 H6 fads f1 (same_kp (e1.trans e15) f1 k6) hF6 ?_
      show Rws H6 fads ((allS L (xs.take (2 ^ L))).flatMap fun one => (allS L (xs.drop (2 ^ L))).flatMap fun two => [one ++ two, two ++ one])
      rw [hS1, hS2]
      exact r6
theorem ok_alsN (T : TX K mg base fa fd fc) : ∀ n : Nat, n ≤ 3 → FnOk P w K mg base CX0 (n + 2) (fa 31) (fd 31) ["row"] (SpAllN n)
  | 0, _ => ok_als0 T
  | n + 1, h => ok_alsS T n (by omega) (ok_alsN T n (by omega))
theorem ok_law_all_swapped (T : TX K mg base fa fd fc) : FnOk P w K mg base CX0 5 (fa 31) (fd 31) ["row"] (SpAllN 3) := ok_alsN T 3 (by decide)
theorem ok_odr0 (T : TX K mg base fa fd fc) : FnOk P w K mg base CX0 2 (fa 36) (fd 36) ["things"] (SpOrdN 0) := by
  refine T.F_law_orders.ok sc_law_orders (fun vs H Q E h => ?_) (fun cdv A outer s H vs Q E hr h => ?_)
  · obtain ⟨p, xs, rfl, hp, l1, l2, h3, q⟩ := h
    rfl
  obtain ⟨p, xs, rfl, hp, l1, l2, h3, q⟩ := h
  refine ⟨_, (pss_cons (ps_if (pt_cmpR op_lt (pe_callB (r := SC.rLen K) SC.c_len (by rfl) T.n_len (by decide +kernel) (pa_cons (pv 0) pa_nil)) pe_int (nomark _))
    (pss_one (ps_ret (pe_lst (pa_cons (pv 0) pa_nil)))) pss_nil)
    pss_never), ?_⟩
  have lx : xs.length = 1 := by omega
  walk_at "r"
  rw [List.length_map, lx]
  walk_at "r"
  rename_i A H1 e1 f1 h1
  refine q A H1 [p] f1 e1 h1 ?_
  rw [show ordsF (0 + 1) xs = [xs] from if_pos (by omega)]
  exact Rws.nil.snoc (e1 _ _ hp)
theorem ok_odrS (T : TX K mg base fa fd fc) (n : Nat) (hn : n ≤ 2) (F : FnOk P w K mg base CX0 (n + 2) (fa 36) (fd 36) ["things"] (SpOrdN n)) : FnOk P w K mg base CX0 (n+3) (fa 36) (fd 36) ["things"] (SpOrdN (n + 1)) := by
  refine T.F_law_orders.ok sc_law_orders (fun vs H Q E h => ?_) (fun cdv A outer s H vs Q E hr h => ?_)
  · obtain ⟨p, xs, rfl, hp, l1, l2, h3, q⟩ := h
    rfl
  obtain ⟨p, xs, rfl, hp, l1, l2, h3, q⟩ := h
  refine ⟨_, (pss_cons (ps_if (pt_cmpR op_lt (pe_callB (r := SC.rLen K) SC.c_len (by rfl) T.n_len (by decide +kernel) (pa_cons (pv 0) pa_nil)) pe_int (nomark _))
    (pss_one (ps_ret (pe_lst (pa_cons (pv 0) pa_nil)))) pss_nil)
    (pss_cons (ps_set (i := 1) sc_law_orders.nd rfl (by first | exact Or.inl rfl | exact Or.inr rfl) (pe_lst pa_nil))
    (pss_cons (ps_for PassesOwn.never rfl (pi_enum (by rfl) T.n_enumerate (pa_cons (pv 0) pa_nil)) (pg_tup rfl (pgs_cons (pg_name (i := 2) sc_law_orders.nd rfl (by first | exact Or.inl rfl | exact Or.inr rfl)) (pgs_cons (pg_name (i := 3) sc_law_orders.nd rfl (by first | exact Or.inl rfl | exact Or.inr rfl)) pgs_nil)))
    (pss_one (ps_expr (pe_bm PySem.F.plainAttrs_list PySem.F.slot_list_extend PySem.F.type_list_extend mt_extend (pv 1) (pa_cons (pe_lc (own := [("rest", 4)]) (by rfl) sc_law_orders.nd (pi_list (pe_call (F) (hr.mono (by omega)) rfl T.g_law_orders T.F_law_orders.kp (bi_law_orders T) .nil pass0 (pa_cons (pe_op op_cat (pe_slice (r := rSlL K) sl_list (pv 0) po_none (po_some (pv 2))) (pe_slice (r := rSlL K) sl_list (pv 0) (po_some (pe_op op_add (pv 2) pe_int)) po_none)) pa_nil))) (blkOk_by (own := [("rest", 4)]) (N := nm_law_orders) (sc := defScope s_law_orders) (by decide +kernel)) (fun _ _ _ _ _ => (pg_name (i := 4) sc_law_orders.nd rfl (by first | exact Or.inl rfl | exact Or.inr rfl))) (fun _ _ _ _ _ => pts_nil) (fun _ _ _ _ _ => (pe_op op_cat (pe_lst (pa_cons (pv 3) pa_nil)) (pv 4)))) pa_nil)))))
    (pss_one (ps_ret (pv 1)))))), ?_⟩
  by_cases lx : xs.length < 2
  · walk_at "r"
    rw [List.length_map]
    refine w_yes (by omega) ?_
    walk_at "r"
    rename_i A H1 e1 f1 h1
    refine q A H1 [p] f1 e1 h1 ?_
    rw [show ordsF (n + 1 + 1) xs = [xs] from if_pos lx]
    exact Rws.nil.snoc (e1 _ _ hp)
  · have od : ordsF (n + 1 + 1) xs = (List.range xs.length).flatMap fun at_ => (ordsF (n + 1) (xs.take at_ ++ xs.drop (at_ + 1))).map fun rest => xs.getD at_ 0 :: rest := if_neg lx
    rw [od] at q
    have on := fun (k : Nat) => ords_num (n := n + 1) (xs := xs.take k ++ xs.drop (k + 1)) (by omega)
    have rowne : ∀ i, ∀ e ∈ (List.range i).flatMap fun at_ => (ordsF (n + 1) (xs.take at_ ++ xs.drop (at_ + 1))).map fun rest => xs.getD at_ 0 :: rest, 0 < e.length := fun i e he => by
      obtain ⟨k, _, he⟩ := List.mem_flatMap.mp he
      obtain ⟨u, _, rfl⟩ := List.mem_map.mp he
      simp
    walk_at "r"
    rw [List.length_map]
    refine w_no (by omega) ?_
    walk_at "r"
    rename_i F0 H1 e1 f1 h1
    have np : p ≠ F0 := ne_of_none hp f1
    refine w_forE ?_
    walk_at "r"
    refine w_enum (xs := xs.map V.int) (sq_of (e1 _ _ hp)) (fun i σ H' => ∃ (y2 y3 y4 : Option V) (fads : List Addr), σ = [some (.ref p), some (.ref F0), y2, y3, y4] ∧ Kp F0 H1 H' ∧ H' F0 = some (.lst (fads.map V.ref)) ∧ Rws H' fads ((List.range i).flatMap fun at_ => (ordsF (n + 1) (xs.take at_ ++ xs.drop (at_ + 1))).map fun rest => xs.getD at_ 0 :: rest)) ⟨_, _, _, [], rfl, .refl _ _, h1, Rws.nil⟩ (fun i σ' H' _ ⟨_, _, _, _, _, k, _⟩ => sq_of (k _ _ np (e1 _ _ hp))) (fun i x σ' H2 hx hPv T fT => ?_) ?_
    · obtain ⟨y2, y3, y4, fads, rfl, k2, hF2, r2⟩ := hPv
      rw [List.getElem?_map] at hx
      obtain ⟨x, hx', rfl⟩ := Option.map_eq_some_iff.mp hx
      have li := (List.getElem?_eq_some_iff.mp hx').1
      have gx : xs.getD i 0 = x := by rw [List.getD_eq_getElem?_getD, hx']; rfl
      have eT := same_upd (o := .tup [.int (i : Int), .int x]) fT
      refine w_gtup (.inl (.inl upd_same)) rfl ?_
      refine w_gcons (w_gname (w_gcons (w_gname (w_gnil ?_))))
      have hp3 := eT _ _ (k2 _ _ np (e1 _ _ hp))
      have hF3 := eT _ _ hF2
      have r3 := r2.go eT
      have k3 := k2.trans (.of_same eT)
      generalize L2.upd H2 T (.tup [.int (i : Int), .int x]) = H3 at eT hp3 hF3 r3 k3 ⊢
      walk_at "r"
      refine w_sl (sq_of hp3) fun S4 H4 e4 f4 h4 => ?_
      rw [cut_takeN, ← List.map_take] at h4
      walk_at "r"
      refine w_sl (sq_of (e4 _ _ hp3)) fun S5 H5 e5 f5 h5 => ?_
      rw [show (i : Int) + 1 = ((i + 1 : Nat) : Int) by omega, cut_drop, ← List.map_drop] at h5
      walk_at "r"
      refine w_cat (e5 _ _ h4) h5 (by rw [List.length_map, List.length_map, List.length_take, List.length_drop]; omega) fun S6 H6 e6 f6 h6 => ?_
      rw [← List.map_append] at h6
      walk_at "r"
      refine ⟨S6, _, rfl, h6, by rw [List.length_append, List.length_take, List.length_drop]; omega, by rw [List.length_append, List.length_take, List.length_drop]; omega, by omega, fun A7 H7 ads7 f7 e7 h7 r7 => ?_⟩
      have on' := on i
      have l5 : xs.length ≤ 4 := by omega
      have lz : (xs.take i ++ xs.drop (i + 1)).length + 1 ≤ 4 := by rw [List.length_append, List.length_take, List.length_drop]; omega
      have on2 : (ordsF (n + 1) (xs.take i ++ xs.drop (i + 1))).length ≤ 64 := Nat.le_trans on' (Nat.le_trans (Nat.pow_le_pow_left lz (n + 1)) (Nat.pow_le_pow_right (n := 4) (by decide) (show n + 1 ≤ 3 by omega)))
      have G : ((List.range (i + 1)).flatMap fun at_ => (ordsF (n + 1) (xs.take at_ ++ xs.drop (at_ + 1))).map fun rest => xs.getD at_ 0 :: rest) = ((List.range i).flatMap fun at_ => (ordsF (n + 1) (xs.take at_ ++ xs.drop (at_ + 1))).map fun rest => xs.getD at_ 0 :: rest) ++ (ordsF (n + 1) (xs.take i ++ xs.drop (i + 1))).map fun rest => x :: rest := by
        rw [List.range_succ, List.flatMap_append, List.flatMap_cons, List.flatMap_nil, List.append_nil, gx]
      rw [G]
      have ol : ∀ z ∈ ordsF (n + 1) (xs.take i ++ xs.drop (i + 1)), z.length ≤ 4 := fun z hz => by rw [ords_len z hz]; omega
      have fb : ((List.range i).flatMap fun at_ => (ordsF (n + 1) (xs.take at_ ++ xs.drop (at_ + 1))).map fun rest => xs.getD at_ 0 :: rest).length ≤ i * 64 := by
        have := flat_le (N := 64) (g := fun at_ => (ordsF (n + 1) (xs.take at_ ++ xs.drop (at_ + 1))).map fun rest => xs.getD at_ 0 :: rest) (S := List.range i) fun k hk => by
          have hk := List.mem_range.mp hk
          rw [List.length_map]
          refine Nat.le_trans (on k) (Nat.le_trans (Nat.pow_le_pow_left (show _ ≤ 4 from ?_) (n + 1)) (Nat.pow_le_pow_right (n := 4) (by decide) (show n + 1 ≤ 3 by omega)))
          rw [List.length_append, List.length_take, List.length_drop]
          omega
        rwa [List.length_range] at this
      generalize ordsF (n + 1) (xs.take i ++ xs.drop (i + 1)) = O at r7 on2 ol
      refine w_lclI (sq_of h7) (fun t us D H' => ∃ nads : List Addr, us = nads.map V.ref ∧ Sm H7 H' ∧ Rws H' nads ((O.take t).map fun rest => x :: rest)) (by rw [List.length_map, r7.1]; omega) (fun _ => rfl) (fun t us D H' ⟨_, _, e, _⟩ _ => sq_of (e _ _ h7)) (fun D H' e hD hx => ⟨[], rfl, e, Rws.nil⟩) (fun t v us D H8 hv hD hul J hx R hR => ?_) fun us D H9 hD hul J hx => ?_
      · obtain ⟨nads, rfl, e8, r8⟩ := J
        obtain ⟨p7, rest, rfl, hrest, hp7⟩ := r7.get hv
        walk_at "r"
        rename_i B9 H9 e9 f9 h9
        refine w_cat h9 ((e8.trans e9) _ _ hp7) (by have := ol rest (List.mem_of_getElem? hrest); rw [List.length_map]; simp; omega) fun C10 H10 e10 f10 h10 => ?_
        have h10 : H10 C10 = some (.lst ((x :: rest).map V.int)) := h10
        have hD10 := (e9.trans e10) _ _ hx
        have rN := (r8.go (e9.trans e10)).snoc h10
        rw [show (((O.take t).map fun rest => x :: rest) ++ [x :: rest]) = (O.take (t + 1)).map fun rest => x :: rest by rw [List.take_add_one, hrest, List.map_append]; rfl] at rN
        refine hR _ _ hD10 ⟨nads ++ [C10], by rw [List.map_append]; rfl, sm_upd ((e8.trans e9).trans e10) hD, rN.updL (rN.apart hD10 fun e he => by
          obtain ⟨u, _, rfl⟩ := List.mem_map.mp he
          simp)⟩
      · obtain ⟨nads, rfl, e9, r9⟩ := J
        rw [List.length_map, r7.1, List.take_length] at r9
        have e39 := ((((e4.trans e5).trans e6).trans e7).trans e9)
        have hF9 := e39 _ _ hF3
        have rN := (r3.go e39).app r9
        have ap := rN.apart hF9 fun e he => by
          rcases List.mem_append.mp he with m | m
          · exact rowne i e m
          · obtain ⟨u, _, rfl⟩ := List.mem_map.mp m
            simp
        have nl := r9.1
        have fl := r3.1
        walk_at "r"
        refine w_extend hF9 hx (by rw [List.length_map, List.length_map]; rw [List.length_map] at nl; omega) ?_
        walk_at "r"
        exact ⟨_, _, _, fads ++ nads, rfl, (k3.trans (.of_same e39)).trans kp_upd, by rw [upd_same, List.map_append], rN.updL ap⟩
    · rintro σ' H2 ⟨y2, y3, y4, fads, rfl, k2, hF2, r2⟩
      rw [List.length_map] at r2
      walk_at "r"
      exact q F0 H2 fads f1 (same_kp e1 f1 k2) hF2 r2
theorem ok_odrN (T : TX K mg base fa fd fc) : ∀ n : Nat, n ≤ 3 → FnOk P w K mg base CX0 (n + 2) (fa 36) (fd 36) ["things"] (SpOrdN n)
  | 0, _ => ok_odr0 T
  | n + 1, h => ok_odrS T n (by omega) (ok_odrN T n (by omega))
theorem ok_law_orders (T : TX K mg base fa fd fc) : FnOk P w K mg base CX0 5 (fa 36) (fd 36) ["things"] (fun vs H Q E => ∃ n, n ≤ 3 ∧ SpOrdN n vs H Q E) := SC.fnOk_ex (fun n => n ≤ 3) fun n h => (ok_odrN T n h).mono (by omega)
theorem ok_law_judged (T : TX K mg base fa fd fc) : FnG P w K mg base CX0 8 (fa 37) (fd 37) ["row"] (SpRight36 fc) := by
  refine okG T.F_law_judged sc_law_judged (fun vs H Q E h => ?_) (fun cdv A outer s H vs Q E hg hr h => ?_)
  · obtain ⟨p, d, r, rfl, hp, hd, ir, ht, q⟩ := h
    rfl
  obtain ⟨p, d, r, rfl, hp, hd, ir, ht, q⟩ := h
  refine ⟨_, (pss_cons (ps_par (i := 1) (j := 2) (by rfl) sc_law_judged.nd rfl rfl (by decide) rfl rfl (pa_cons (pe_call (ok_law_wrong_places T) (hr.mono (by decide)) rfl T.g_law_wrong_places T.F_law_wrong_places.kp (bi_law_wrong_places T) .nil pass0 (pa_cons (pv 0) pa_nil)) (pa_cons (pe_callB (r := rReprD K) (call_reprD hg hr.units) (by rfl) T.n_repr (by decide +kernel) (pa_cons (pv 0) pa_nil)) pa_nil)) (by rfl))
    (pss_cons (ps_set (i := 3) sc_law_judged.nd rfl (by first | exact Or.inl rfl | exact Or.inr rfl) (pe_lst (pa_cons (pe_call (ok_why_not_standard T) (hr.mono (by decide)) rfl T.g_why_not_standard T.F_why_not_standard.kp (bi_why_not_standard T) .nil pass0 (pa_cons (pv 0) pa_nil)) (pa_cons (SC.pe_callN0 (ok_why_not_standard T) (hr.mono (by decide)) rfl T.g_why_not_standard T.F_why_not_standard.kp (kb_why_not_standard_0_draw T) pass0 (pk_cons (pv 0) pk_nil)) pa_nil))))
    (pss_cons (ps_if (PW.pt (pw_or (pt_cmpR (r := rNeD K) (op_neD hr.units) (pv 3) (pe_lst (pa_cons (pv 1) (pa_cons (pv 1) pa_nil))) (nomark _)) (pw_or1 (pt_cmpR (r := rNeD K) (op_neD hr.units) (pe_lst (pa_cons (pe_call (ok_is_standard T) (hr.mono (by decide)) rfl T.g_is_standard T.F_is_standard.kp (bi_is_standard T) .nil pass0 (pa_cons (pv 0) pa_nil)) (pa_cons (SC.pe_callN0 (ok_is_standard T) (hr.mono (by decide)) rfl T.g_is_standard T.F_is_standard.kp (kb_is_standard_0_draw T) pass0 (pk_cons (pv 0) pk_nil)) pa_nil))) (pe_lst (pa_cons (pe_cmpR (r := rIsN) op_isN1 (pv 1) pe_non (nomark _)) (pa_cons (pe_cmpR (r := rIsN) op_isN1 (pv 1) pe_non (nomark _)) pa_nil))) (nomark _)))))
    (pss_one (ps_ret pe_bl)) pss_nil)
    (pss_one (ps_ret (pe_cmpR op_eq (pe_callB (r := rReprD K) (call_reprD hg hr.units) (by rfl) T.n_repr (by decide +kernel) (pa_cons (pv 0) pa_nil)) (pv 2) (nomark _))))))), ?_⟩
  have rl := ir.len
  have lim : 2 ^ d ≤ 2 ^ 7 := Nat.pow_le_pow_right (by decide) hd.2
  have gd := good_ints (ns := r) (n := 128) (fun i hi => by have := ir.ok i hi; have P2 := p2_nat d; omega) (by omega)
  walk_at "r"
  refine ⟨p, _, r, rfl, hp, hd, ir, fun x v H1 hx e1 hv => ?_⟩
  walk_at "r"
  refine w_repG (d := .list (r.map PyData.int)) (.lst (sq_of (e1 _ _ hp)) (dp_ints r)) gd (by decide) (by decide) ?_
  walk_at "r"
  refine ⟨p, _, r, rfl, e1 _ _ hp, hd, ir, ht.go e1, fun x2 v2 H2 hx2 e2 hv2 => ?_⟩
  obtain rfl := hx.uniq hx2
  walk_at "r"
  refine ⟨rfl, rfl, p, _, r, rfl, (e1.trans e2) _ _ hp, hd, ir, ht.go (e1.trans e2), fun x3 v3 H3 hx3 e3 hv3 => ?_⟩
  obtain rfl := hx.uniq hx3
  have sr := first_std hx
  walk_at "r"
  rename_i L4 H4 e4 f4 h4 L5 H5 e5 f5 h5
  have e35 := e4.trans e5
  refine w_neDs (.lst (sq_of (e5 _ _ h4)) (.cons (hv2.go (e3.trans e35)).dp (.cons (hv3.go e35).dp .nil))) (.lst (sq_of h5) (.cons (hv.go ((e2.trans e3).trans e35)).dp (.cons (hv.go ((e2.trans e3).trans e35)).dp .nil))) (resD_two x) ?_
  walk_at "r"
  have e05 := ((e1.trans e2).trans e3).trans e35
  refine ⟨p, _, r, rfl, e05 _ _ hp, hd, ir, ht.go e05, fun b H6 hb e6 => ?_⟩
  have hb' : b = decide (x = none) := by rw [Bool.eq_iff_iff, decide_eq_true_iff, hb, sr]
  subst hb'
  walk_at "r"
  refine ⟨rfl, rfl, p, _, r, rfl, (e05.trans e6) _ _ hp, hd, ir, ht.go (e05.trans e6), fun b H7 hb e7 => ?_⟩
  have hb' : b = decide (x = none) := by rw [Bool.eq_iff_iff, decide_eq_true_iff, hb, sr]
  subst hb'
  walk_at "r"
  refine w_isN ?_
  rw [hv.isn]
  walk_at "r"
  refine w_isN ?_
  rw [hv.isn]
  walk_at "r"
  rename_i L8 H8 e8 f8 h8 L9 H9 e9 f9 h9
  refine w_neDs (.lst (sq_of (e9 _ _ h8)) (.cons (.bl _) (.cons (.bl _) .nil))) (.lst (sq_of h9) (.cons (.bl _) (.cons (.bl _) .nil))) rfl ?_
  walk_at "r"
  have e09 := (((e05.trans e6).trans e7).trans e8).trans e9
  refine w_repG (d := .list (r.map PyData.int)) (.lst (sq_of (e09 _ _ hp)) (dp_ints r)) gd (by decide) (by decide) ?_
  walk_at "r"
  refine w_eqS ?_
  rw [decide_eq_true rfl]
  exact q _ e09
theorem ok_law_numbered (T : TX K mg base fa fd fc) : FnOk P w K mg base CX0 14 (fa 38) (fd 38) ["size"] (SpNumd fc) := by
  refine T.F_law_numbered.ok sc_law_numbered (fun vs H Q E h => ?_) (fun cdv A outer s H vs Q E hr h => ?_)
  · obtain ⟨d, rfl, hd, ht, q⟩ := h
    rfl
  obtain ⟨d, rfl, hd, ht, q⟩ := h
  refine ⟨_, (pss_cons (ps_set (i := 1) sc_law_numbered.nd rfl (by first | exact Or.inl rfl | exact Or.inr rfl) (pe_callB (r := SC.rSortLL K) (SC.cr_sortLL rfl hr.units) (by rfl) T.n_sorted (by decide +kernel) (pa_cons (pe_call (ok_law_all_swapped T) (hr.mono (by decide)) rfl T.g_law_all_swapped T.F_law_all_swapped.kp (bi_law_all_swapped T) .nil pass0 (pa_cons (pe_call (ok_law_bracket T) (hr.mono (by decide)) rfl T.g_law_bracket T.F_law_bracket.kp (bi_law_bracket T) .nil pass0 (pa_cons (pv 0) pa_nil)) pa_nil)) pa_nil)))
    (pss_cons (ps_for PassesOwn.never rfl (pi_enum (by rfl) T.n_enumerate (pa_cons (pv 1) pa_nil)) (pg_tup rfl (pgs_cons (pg_name (i := 2) sc_law_numbered.nd rfl (by first | exact Or.inl rfl | exact Or.inr rfl)) (pgs_cons (pg_name (i := 3) sc_law_numbered.nd rfl (by first | exact Or.inl rfl | exact Or.inr rfl)) pgs_nil)))
    (pss_cons (ps_set (i := 4) sc_law_numbered.nd rfl (by first | exact Or.inl rfl | exact Or.inr rfl) (pe_call (ok_nth_draw T) (hr.mono (by decide)) rfl T.g_nth_draw T.F_nth_draw.kp (bi_nth_draw T) .nil pass0 (pa_cons (pv 0) (pa_cons (pv 2) pa_nil))))
    (pss_cons (ps_if (PW.pt (pw_or (pt_cmpR (r := rNeD K) (op_neD hr.units) (pv 4) (pv 3) (nomark _)) (pw_or1 (pt_cmpR op_ne (pe_call (ok_rank_draw T) (hr.mono (by decide)) rfl T.g_rank_draw T.F_rank_draw.kp (bi_rank_draw T) .nil pass0 (pa_cons (pv 3) pa_nil)) (pv 2) (nomark _)))))
    (pss_one (ps_ret pe_bl)) pss_nil)
    (pss_cons (ps_expr (pe_bm PySem.F.plainAttrs_list PySem.F.slot_list_append PySem.F.type_list_append mt_append (pv 4) (pa_cons pe_int pa_nil)))
    (pss_one (ps_if (PW.pt (pw_or (pt_cmpR (r := rNeD K) (op_neD hr.units) (SC.pe_callN0 (ok_nth_draw T) (hr.mono (by decide)) rfl T.g_nth_draw T.F_nth_draw.kp (kb_nth_draw_0_index_rounds T) pass0 (pk_cons (pv 2) (pk_cons (pv 0) pk_nil))) (pv 3) (nomark _)) (pw_or1 (pt_cmpR op_ne (SC.pe_callN0 (ok_rank_draw T) (hr.mono (by decide)) rfl T.g_rank_draw T.F_rank_draw.kp (kb_rank_draw_0_draw T) pass0 (pk_cons (pv 3) pk_nil)) (pv 2) (nomark _)))))
    (pss_one (ps_ret pe_bl)) pss_nil))))))
    (pss_one (ps_ret pe_bl)))), ?_⟩
  have D7 : 2 ^ d ≤ 2 ^ 3 := Nat.pow_le_pow_right (by decide) hd.2
  have bl := bt_eq d
  have one : (1 : Int) ≤ 1 ∧ (1 : Int) ≤ mL d d := ⟨by omega, by have : 0 < mL d d := mL_pos; omega⟩
  walk_at "r"
  refine ⟨d, rfl, by omega, fun B H1 fB e1 hB => ?_⟩
  walk_at "r"
  refine ⟨d, B, _, rfl, hd.2, hd.2, hB, brk_len d, fun A H2 ads fA e2 hA rA => ?_⟩
  walk_at "r"
  refine w_sortLL (sq_of hA) rA fun R H3 ps zs e3 fR pm so hR rR => ?_
  have zn := sorted_all hd pm so
  subst zn
  have e03 := (e1.trans e2).trans e3
  have nl : (nthAll d).length = 2 ^ (bt d + d) := by unfold nthAll; rw [List.length_map, List.length_range]
  walk_at "r"
  refine w_forE ?_
  walk_at "r"
  refine w_enum (xs := ps.map V.ref) (sq_of hR) (fun i σ H' => ∃ y2 y3 y4 : Option V, σ = [some (.int d), some (.ref R), y2, y3, y4] ∧ Sm H3 H') ⟨_, _, _, rfl, .refl _⟩ (fun i σ' H' _ ⟨_, _, _, _, e⟩ => sq_of (e _ _ hR)) (fun i x σ' H4 hx hPv T fT => ?_) ?_
  · obtain ⟨y2, y3, y4, rfl, e4⟩ := hPv
    obtain ⟨p, z, rfl, hz, hp⟩ := rR.get hx
    have li := (List.getElem?_eq_some_iff.mp hz).1
    rw [nl] at li
    have ez : z = nthD d d 1 i := by
      unfold nthAll at hz
      rw [List.getElem?_map, List.getElem?_range li] at hz
      exact (Option.some.inj hz).symm
    subst ez
    obtain ⟨st, rk⟩ := nth_st (Nat.le_refl d) one li
    have lz := st_len st
    have eT := same_upd (o := .tup [.int (i : Int), .ref p]) fT
    refine w_gtup (.inl (.inl upd_same)) rfl ?_
    refine w_gcons (w_gname (w_gcons (w_gname (w_gnil ?_))))
    have e5 := e4.trans eT
    generalize L2.upd H4 T (.tup [.int (i : Int), .ref p]) = H5 at eT e5 ⊢
    have e05 := e03.trans e5
    have hp5 := e5 _ _ hp
    walk_at "r"
    refine ⟨d, i, rfl, by omega, li, fun N6 H6 f6 e6 h6 => ?_⟩
    walk_at "r"
    refine w_neDs (.lst (sq_of h6) (dp_ints _)) (.lst (sq_of (e6 _ _ hp5)) (dp_ints _)) (shaped_ints _) ?_
    walk_at "r"
    refine ⟨p, d, _, rfl, e6 _ _ hp5, by omega, st, ht.go (e05.trans e6), fun H7 e7 => ?_⟩
    rw [rk]
    walk_at "r"
    have h67 := e7 _ _ h6
    refine w_append h67 (by rw [List.length_map]; omega) ?_
    have f6' := e05.fr _ f6
    have n6 : p ≠ N6 := ne_of_none hp5 f6
    have f63 := e5.fr _ f6
    have eU := sm_upd (o := .lst ((nthD d d 1 i).map V.int ++ [.int 0])) (e5.trans (e6.trans e7)) f63
    generalize L2.upd H7 N6 (.lst ((nthD d d 1 i).map V.int ++ [.int 0])) = U at eU ⊢
    walk_at "r"
    refine ⟨rfl, rfl, d, i, rfl, by omega, li, fun N8 H8 f8 e8 h8 => ?_⟩
    walk_at "r"
    refine w_neDs (.lst (sq_of h8) (dp_ints _)) (.lst (sq_of (e8 _ _ (eU _ _ hp))) (dp_ints _)) (shaped_ints _) ?_
    walk_at "r"
    refine ⟨rfl, rfl, p, d, _, rfl, e8 _ _ (eU _ _ hp), by omega, st, ht.go (e03.trans (eU.trans e8)), fun H9 e9 => ?_⟩
    rw [rk]
    walk_at "r"
    exact ⟨_, _, _, rfl, (eU.trans e8).trans e9⟩
  · rintro σ' H4 ⟨y2, y3, y4, rfl, e4⟩
    walk_at "r"
    exact q _ (e03.trans e4)
theorem ok_law (T : TX K mg base fa fd fc) : FnG P w K mg base CX0 15 (fa 39) (fd 39) ["script"] (SC.spLawT (TL fc) K) := by
  refine okG T.F_law sc_law (fun vs H Q E h => ?_) (fun cdv A outer s H vs Q E hg hr h => ?_)
  · obtain ⟨a, ns, rfl, hS, hl, ht, q⟩ := h
    rfl
  obtain ⟨a, ns, rfl, hS, hl, ht, q⟩ := h
  refine ⟨_, (pss_cons (ps_for PassesOwn.never rfl (pi_list (pe_op op_cat (pe_call (ok_law_orders T) (hr.mono (by decide)) rfl T.g_law_orders T.F_law_orders.kp (bi_law_orders T) .nil pass0 (pa_cons (pe_lst (pa_cons pe_int (pa_cons pe_int pa_nil))) pa_nil)) (pe_call (ok_law_orders T) (hr.mono (by decide)) rfl T.g_law_orders T.F_law_orders.kp (bi_law_orders T) .nil pass0 (pa_cons (pe_lst (pa_cons pe_int (pa_cons pe_int (pa_cons pe_int (pa_cons pe_int pa_nil))))) pa_nil)))) (pg_name (i := 1) sc_law.nd rfl (by first | exact Or.inl rfl | exact Or.inr rfl))
    (pss_one (ps_if (pt_not (pt_val (pe_callG (ok_law_judged T) hg (hr.mono (by decide)) rfl T.g_law_judged T.F_law_judged.kp (bi_law_judged T) pass0 (pa_cons (pv 1) pa_nil))))
    (pss_one (ps_ret pe_bl)) pss_nil)))
    (pss_cons (ps_if (pt_cmpR (r := rNeD K) (op_neD hr.units) (pe_lc (own := [("size", 2)]) (by rfl) sc_law.nd (pi_range2 rfl T.n_range (pa_cons pe_int (pa_cons pe_int pa_nil))) (blkOk_by (own := [("size", 2)]) (N := nm_law) (sc := defScope s_law) (by decide +kernel)) (fun _ _ _ _ _ => (pg_name (i := 2) sc_law.nd rfl (by first | exact Or.inl rfl | exact Or.inr rfl))) (fun _ _ _ _ _ => pts_one (pt_not (pt_val (pe_call (ok_law_numbered T) (hr.mono (by decide)) rfl T.g_law_numbered T.F_law_numbered.kp (bi_law_numbered T) .nil pass0 (pa_cons (pv 2) pa_nil))))) (fun _ _ _ _ _ => (pv 2))) (pe_lst pa_nil) (nomark _))
    (pss_one (ps_ret pe_bl)) pss_nil)
    (pss_cons (ps_for PassesOwn.never rfl (pi_range1 rfl T.n_range (pa_cons (pe_callB (SC.c_max2 rfl) (by rfl) T.n_max (by decide +kernel) (pa_cons pe_int (pa_cons (pe_callB (SC.c_min2 rfl) (by rfl) T.n_min (by decide +kernel) (pa_cons pe_int (pa_cons (pe_callB (r := SC.rLen K) SC.c_len (by rfl) T.n_len (by decide +kernel) (pa_cons (pv 0) pa_nil)) pa_nil))) pa_nil))) pa_nil)) (pg_name (i := 3) sc_law.nd rfl (by first | exact Or.inl rfl | exact Or.inr rfl))
    (pss_cons (ps_set (i := 4) sc_law.nd rfl (by first | exact Or.inl rfl | exact Or.inr rfl) (pe_call (ok_law_source T) (hr.mono (by decide)) rfl T.g_law_source T.F_law_source.kp (bi_law_source T) .nil pass0 (pa_cons (pe_op op_add (pe_call (ok_law_cell T) (hr.mono (by decide)) rfl T.g_law_cell T.F_law_cell.kp (bi_law_cell T) .nil pass0 (pa_cons (pv 0) (pa_cons (pv 3) pa_nil))) pe_int) pa_nil)))
    (pss_one (ps_for PassesOwn.never rfl (pi_range1 rfl T.n_range (pa_cons pe_int pa_nil)) (pg_name (i := 5) sc_law.nd rfl (by first | exact Or.inl rfl | exact Or.inr rfl))
    (pss_one (ps_if (pt_not (pt_val (pe_callG (ok_law_judged T) hg (hr.mono (by decide)) rfl T.g_law_judged T.F_law_judged.kp (bi_law_judged T) pass0 (pa_cons (pe_call (ok_law_near_draw T) (hr.mono (by decide)) rfl T.g_law_near_draw T.F_law_near_draw.kp (bi_law_near_draw T) .nil pass0 (pa_cons (pv 4) (pa_cons pe_int pa_nil))) pa_nil))))
    (pss_one (ps_ret pe_bl)) pss_nil))))))
    (pss_one (ps_ret pe_bl))))), ?_⟩
  have b0 : LIM = 1000000000000 := rfl
  walk_at "r"
  rename_i L0 H0 e0 f0 h0
  refine ⟨1, by decide, L0, [1, 2], rfl, h0, by decide, by decide, by decide, fun A1 H1 ads1 f1 e1 h1 r1 => ?_⟩
  walk_at "r"
  rename_i L2 H2 e2 f2 h2
  refine ⟨3, by decide, L2, [1, 2, 3, 4], rfl, h2, by decide, by decide, by decide, fun A3 H3 ads3 f3 e3 h3 r3 => ?_⟩
  have rN := ((r1.go (e2.trans e3)).app r3)
  have n2 : (ordsF 2 [1, 2] ++ ordsF 4 [1, 2, 3, 4]).length ≤ 100 := by decide +kernel
  have nl := rN.1
  rw [List.length_append] at nl
  have dr : ∀ z ∈ ordsF (1 + 1) [1, 2] ++ ordsF (3 + 1) [1, 2, 3, 4], ∃ d, (1 ≤ d ∧ d ≤ 7) ∧ IsDr d z := fun z hz => by
    rcases List.mem_append.mp hz with m | m
    · exact ⟨1, by decide, ords2 z m⟩
    · exact ⟨2, by decide, ords4 z m⟩
  have n2 : (ordsF (1 + 1) [1, 2] ++ ordsF (3 + 1) [1, 2, 3, 4]).length ≤ 100 := n2
  generalize ordsF (1 + 1) [1, 2] ++ ordsF (3 + 1) [1, 2, 3, 4] = O at rN dr n2 nl
  refine w_cat ((e2.trans e3) _ _ h1) h3 (by rw [List.length_map, List.length_map]; omega) fun C4 H4 e4 f4 h4 => ?_
  rw [← List.map_append] at h4
  have r4 := rN.go e4
  have e04 := (((e0.trans e1).trans e2).trans e3).trans e4
  refine w_lst (sq_of h4) (fun i σ H' => ∃ y1 y2 y3 y4 y5 : Option V, σ = [some (.ref a), y1, y2, y3, y4, y5] ∧ Sm H4 H') ⟨_, _, _, _, _, rfl, .refl _⟩ (fun i σ' H' _ ⟨_, _, _, _, _, _, e⟩ => sq_of (e _ _ h4)) ?_ ?_
  · rintro i x σ' H5 hx ⟨y1, y2, y3, y4, y5, rfl, e5⟩
    obtain ⟨p, z, rfl, hz, hp⟩ := r4.get hx
    obtain ⟨d, hd, ir⟩ := dr z (List.mem_of_getElem? hz)
    walk_at "r"
    refine ⟨p, d, z, rfl, e5 _ _ hp, hd, ir, ht.go (e04.trans e5), fun H6 e6 => ?_⟩
    walk_at "r"
    exact ⟨_, _, _, _, _, rfl, e5.trans e6⟩
  · rintro σ' H5 ⟨y1, y2, y3, y4, y5, rfl, e5⟩
    have e05 := e04.trans e5
    walk_at "r"
    refine w_lcr2F (fun _ => false) (fun _ => V.non) (by decide) (by decide) (by decide) (by decide) (fun _ => rfl) (fun i H6 hi e6 R hR => ?_) (fun i H6 hi hf => absurd hf (by decide)) fun D H6 e6 f6 h6 => ?_
    · obtain ⟨d, hd⟩ : ∃ d : Nat, (1 : Int) + (i : Int) = (d : Int) := ⟨1 + i, by omega⟩
      rw [hd]
      walk_at "r"
      refine ⟨d, rfl, by omega, ht.go (e05.trans e6), fun H7 e7 => ?_⟩
      walk_at "r"
      exact hR _ e7
    walk_at "r"
    rename_i D7 H7 e7 f7 h7
    have h6' : H6 D = some (.lst (([] : List Int).map V.int)) := by
      rw [h6, List.filter_eq_nil_iff.mpr fun _ _ => Bool.false_ne_true]
      rfl
    refine w_ne0 [] (sq_of (e7 _ _ h6')) h7 ?_
    rw [show decide (([] : List Int) ≠ []) = false from rfl]
    walk_at "r"
    rw [List.length_map]
    have e07 := (e05.trans e6).trans e7
    refine w_rng1 (by omega) (by omega) (fun i σ H' => ∃ y1 y2 y3 y4 y5 : Option V, σ = [some (.ref a), y1, y2, y3, y4, y5] ∧ Sm H H') ⟨_, _, _, _, _, rfl, e07⟩ ?_ ?_
    · rintro i σ' H2 hi ⟨y1, y2, y3, y4, y5, rfl, e2⟩
      walk_at "r"
      refine w_cell (e2.seq hS) (by omega) fun c H3 e3 => ?_
      walk_at "r"
      refine w_sourceC fun pp H4 hp e4 s4 => ?_
      have hp0 := (e2.trans e3).free hp
      have e04 := (e2.trans e3).trans e4
      walk_at "r"
      refine w_rng1 (by omega) (by omega) (fun u σ H' => ∃ y1 y2 y5 : Option V, σ = [some (.ref a), y1, y2, some (.int i), some (.ref pp), y5] ∧ Sm H H' ∧ Src pp (310 * (u : Int)) H') ⟨_, _, _, rfl, e04, by rw [show 310 * ((0 : Nat) : Int) = 0 by omega]; exact s4⟩ ?_ ?_
      · rintro u σ' H5 hu ⟨y1, y2, y5, rfl, e5, s5⟩
        walk_at "r"
        refine ⟨pp, 3, _, rfl, s5, by decide, by omega, fun R8 H8 r ir f8 g8 s8 h8 => ?_⟩
        have e58 : Sm H H8 := same_kp e5 hp0 g8
        walk_at "r"
        refine ⟨R8, 3, r, rfl, h8, by decide, ir, ht.go e58, fun H9 e9 => ?_⟩
        walk_at "r"
        exact ⟨_, _, _, rfl, e58.trans e9, (s8.same e9).mono (by omega)⟩
      · rintro σ' H5 ⟨y1, y2, y5, rfl, e5, s5⟩
        exact ⟨_, _, _, _, _, rfl, e5⟩
    · rintro σ' H2 ⟨y1, y2, y3, y4, y5, rfl, e2⟩
      walk_at "r"
      exact q H2
end
theorem all_mk {l : PySem.W.OpenLaw} {w : World} {K : PySem.W.Frag} {h : Heap} {mg : Str → Option Value} {fl : Addr} (X : K.In h) (G : h.Ns mainGlobals mg) (hfl : mg "law" = some (.ref fl))
    {oc0 kV0 dc0 pm0 cd0 ct0 : Value} {od0 an0 : Option Addr} {sl0 : Array (Option Value)} {f0 : Addr}
    {oc1 kV1 dc1 pm1 cd1 ct1 : Value} {od1 an1 : Option Addr} {sl1 : Array (Option Value)} {f1 : Addr}
    {oc2 kV2 dc2 pm2 cd2 ct2 : Value} {od2 an2 : Option Addr} {sl2 : Array (Option Value)} {f2 : Addr}
    {oc3 kV3 dc3 pm3 cd3 ct3 : Value} {od3 an3 : Option Addr} {sl3 : Array (Option Value)} {f3 : Addr}
    {oc4 kV4 dc4 pm4 cd4 ct4 : Value} {od4 an4 : Option Addr} {sl4 : Array (Option Value)} {f4 : Addr}
    {oc5 kV5 dc5 pm5 cd5 ct5 : Value} {od5 an5 : Option Addr} {sl5 : Array (Option Value)} {f5 : Addr}
    {oc6 kV6 dc6 pm6 cd6 ct6 : Value} {od6 an6 : Option Addr} {sl6 : Array (Option Value)} {f6 : Addr}
    {oc7 kV7 dc7 pm7 cd7 ct7 : Value} {od7 an7 : Option Addr} {sl7 : Array (Option Value)} {f7 : Addr}
    {oc8 kV8 dc8 pm8 cd8 ct8 : Value} {od8 an8 : Option Addr} {sl8 : Array (Option Value)} {f8 : Addr}
    {oc9 kV9 dc9 pm9 cd9 ct9 : Value} {od9 an9 : Option Addr} {sl9 : Array (Option Value)} {f9 : Addr}
    {oc10 kV10 dc10 pm10 cd10 ct10 : Value} {od10 an10 : Option Addr} {sl10 : Array (Option Value)} {f10 : Addr}
    {oc11 kV11 dc11 pm11 cd11 ct11 : Value} {od11 an11 : Option Addr} {sl11 : Array (Option Value)} {f11 : Addr}
    {oc12 kV12 dc12 pm12 cd12 ct12 : Value} {od12 an12 : Option Addr} {sl12 : Array (Option Value)} {f12 : Addr}
    {oc13 kV13 dc13 pm13 cd13 ct13 : Value} {od13 an13 : Option Addr} {sl13 : Array (Option Value)} {f13 : Addr}
    {oc14 kV14 dc14 pm14 cd14 ct14 : Value} {od14 an14 : Option Addr} {sl14 : Array (Option Value)} {f14 : Addr}
    {oc15 kV15 dc15 pm15 cd15 ct15 : Value} {od15 an15 : Option Addr} {sl15 : Array (Option Value)} {f15 : Addr}
    {oc16 kV16 dc16 pm16 cd16 ct16 : Value} {od16 an16 : Option Addr} {sl16 : Array (Option Value)} {f16 : Addr}
    {oc17 kV17 dc17 pm17 cd17 ct17 : Value} {od17 an17 : Option Addr} {sl17 : Array (Option Value)} {f17 : Addr}
    {oc18 kV18 dc18 pm18 cd18 ct18 : Value} {od18 an18 : Option Addr} {sl18 : Array (Option Value)} {f18 : Addr}
    {oc19 kV19 dc19 pm19 cd19 ct19 : Value} {od19 an19 : Option Addr} {sl19 : Array (Option Value)} {f19 : Addr}
    {oc20 kV20 dc20 pm20 cd20 ct20 : Value} {od20 an20 : Option Addr} {sl20 : Array (Option Value)} {f20 : Addr}
    {oc21 kV21 dc21 pm21 cd21 ct21 : Value} {od21 an21 : Option Addr} {sl21 : Array (Option Value)} {f21 : Addr}
    {oc22 kV22 dc22 pm22 cd22 ct22 : Value} {od22 an22 : Option Addr} {sl22 : Array (Option Value)} {f22 : Addr}
    {oc23 kV23 dc23 pm23 cd23 ct23 : Value} {od23 an23 : Option Addr} {sl23 : Array (Option Value)} {f23 : Addr}
    {oc24 kV24 dc24 pm24 cd24 ct24 : Value} {od24 an24 : Option Addr} {sl24 : Array (Option Value)} {f24 : Addr}
    {oc25 kV25 dc25 pm25 cd25 ct25 : Value} {od25 an25 : Option Addr} {sl25 : Array (Option Value)} {f25 : Addr}
    {oc26 kV26 dc26 pm26 cd26 ct26 : Value} {od26 an26 : Option Addr} {sl26 : Array (Option Value)} {f26 : Addr}
    {oc27 kV27 dc27 pm27 cd27 ct27 : Value} {od27 an27 : Option Addr} {sl27 : Array (Option Value)} {f27 : Addr}
    {oc28 kV28 dc28 pm28 cd28 ct28 : Value} {od28 an28 : Option Addr} {sl28 : Array (Option Value)} {f28 : Addr}
    {oc29 kV29 dc29 pm29 cd29 ct29 : Value} {od29 an29 : Option Addr} {sl29 : Array (Option Value)} {f29 : Addr}
    {oc30 kV30 dc30 pm30 cd30 ct30 : Value} {od30 an30 : Option Addr} {sl30 : Array (Option Value)} {f30 : Addr}
    {oc31 kV31 dc31 pm31 cd31 ct31 : Value} {od31 an31 : Option Addr} {sl31 : Array (Option Value)} {f31 : Addr}
    {oc32 kV32 dc32 pm32 cd32 ct32 : Value} {od32 an32 : Option Addr} {sl32 : Array (Option Value)} {f32 : Addr}
    {oc33 kV33 dc33 pm33 cd33 ct33 : Value} {od33 an33 : Option Addr} {sl33 : Array (Option Value)} {f33 : Addr}
    {oc34 kV34 dc34 pm34 cd34 ct34 : Value} {od34 an34 : Option Addr} {sl34 : Array (Option Value)} {f34 : Addr}
    {oc35 kV35 dc35 pm35 cd35 ct35 : Value} {od35 an35 : Option Addr} {sl35 : Array (Option Value)} {f35 : Addr}
    {oc36 kV36 dc36 pm36 cd36 ct36 : Value} {od36 an36 : Option Addr} {sl36 : Array (Option Value)} {f36 : Addr}
    {oc37 kV37 dc37 pm37 cd37 ct37 : Value} {od37 an37 : Option Addr} {sl37 : Array (Option Value)} {f37 : Addr}
    {oc38 kV38 dc38 pm38 cd38 ct38 : Value} {od38 an38 : Option Addr} {sl38 : Array (Option Value)} {f38 : Addr}
    {oc39 kV39 dc39 pm39 cd39 ct39 : Value} {od39 an39 : Option Addr} {sl39 : Array (Option Value)} {f39 : Addr}
    {tc0 : Tok}
    {tc1 : Tok}
    {ua0 : Addr} {ud0 : Option Addr} {us0 : Array (Option Value)} {un0 : Nat} {ut0_0 ut0_1 ut0_2 ut0_3 ut0_4 ut0_5 ut0_6 : Tok}
    {tc_2 tp_2 : Addr}
    (a0 : PySem.W.nsIn K mainGlobals "is_integer" = some (some (.ref f0))) (l0 : K.lookup f0 = some ⟨oc0, od0, .func (PySem.W.fnOf "is_integer" "is_integer" (defArgs s_is_integer) (defBody s_is_integer) (defScope s_is_integer) .none kV0 dc0 pm0 an0 cd0 ct0), sl0⟩) (c0 : PySem.W.codeIn K cd0 "is_integer" = true) (k0 : PySem.W.keepIn K (.ref f0) = true)
    (a1 : PySem.W.nsIn K mainGlobals "is_integer_between" = some (some (.ref f1))) (l1 : K.lookup f1 = some ⟨oc1, od1, .func (PySem.W.fnOf "is_integer_between" "is_integer_between" (defArgs s_is_integer_between) (defBody s_is_integer_between) (defScope s_is_integer_between) .none kV1 dc1 pm1 an1 cd1 ct1), sl1⟩) (c1 : PySem.W.codeIn K cd1 "is_integer_between" = true) (k1 : PySem.W.keepIn K (.ref f1) = true)
    (a2 : PySem.W.nsIn K mainGlobals "is_draw" = some (some (.ref f2))) (l2 : K.lookup f2 = some ⟨oc2, od2, .func (PySem.W.fnOf "is_draw" "is_draw" (defArgs s_is_draw) (defBody s_is_draw) (defScope s_is_draw) .none kV2 dc2 pm2 an2 cd2 ct2), sl2⟩) (c2 : PySem.W.codeIn K cd2 "is_draw" = true) (k2 : PySem.W.keepIn K (.ref f2) = true)
    (a3 : PySem.W.nsIn K mainGlobals "check_rounds" = some (some (.ref f3))) (l3 : K.lookup f3 = some ⟨oc3, od3, .func (PySem.W.fnOf "check_rounds" "check_rounds" (defArgs s_check_rounds) (defBody s_check_rounds) (defScope s_check_rounds) .none kV3 dc3 pm3 an3 cd3 ct3), sl3⟩) (c3 : PySem.W.codeIn K cd3 "check_rounds" = true) (k3 : PySem.W.keepIn K (.ref f3) = true)
    (a4 : PySem.W.nsIn K mainGlobals "check_few_rounds" = some (some (.ref f4))) (l4 : K.lookup f4 = some ⟨oc4, od4, .func (PySem.W.fnOf "check_few_rounds" "check_few_rounds" (defArgs s_check_few_rounds) (defBody s_check_few_rounds) (defScope s_check_few_rounds) .none kV4 dc4 pm4 an4 cd4 ct4), sl4⟩) (c4 : PySem.W.codeIn K cd4 "check_few_rounds" = true) (k4 : PySem.W.keepIn K (.ref f4) = true)
    (a5 : PySem.W.nsIn K mainGlobals "check_seed" = some (some (.ref f5))) (l5 : K.lookup f5 = some ⟨oc5, od5, .func (PySem.W.fnOf "check_seed" "check_seed" (defArgs s_check_seed) (defBody s_check_seed) (defScope s_check_seed) .none kV5 dc5 pm5 an5 cd5 ct5), sl5⟩) (c5 : PySem.W.codeIn K cd5 "check_seed" = true) (k5 : PySem.W.keepIn K (.ref f5) = true)
    (a6 : PySem.W.nsIn K mainGlobals "check_index" = some (some (.ref f6))) (l6 : K.lookup f6 = some ⟨oc6, od6, .func (PySem.W.fnOf "check_index" "check_index" (defArgs s_check_index) (defBody s_check_index) (defScope s_check_index) .none kV6 dc6 pm6 an6 cd6 ct6), sl6⟩) (c6 : PySem.W.codeIn K cd6 "check_index" = true) (k6 : PySem.W.keepIn K (.ref f6) = true)
    (a7 : PySem.W.nsIn K mainGlobals "check_draw" = some (some (.ref f7))) (l7 : K.lookup f7 = some ⟨oc7, od7, .func (PySem.W.fnOf "check_draw" "check_draw" (defArgs s_check_draw) (defBody s_check_draw) (defScope s_check_draw) .none kV7 dc7 pm7 an7 cd7 ct7), sl7⟩) (c7 : PySem.W.codeIn K cd7 "check_draw" = true) (k7 : PySem.W.keepIn K (.ref f7) = true)
    (a8 : PySem.W.nsIn K mainGlobals "group_of" = some (some (.ref f8))) (l8 : K.lookup f8 = some ⟨oc8, od8, .func (PySem.W.fnOf "group_of" "group_of" (defArgs s_group_of) (defBody s_group_of) (defScope s_group_of) .none kV8 dc8 pm8 an8 cd8 ct8), sl8⟩) (c8 : PySem.W.codeIn K cd8 "group_of" = true) (k8 : PySem.W.keepIn K (.ref f8) = true)
    (a9 : PySem.W.nsIn K mainGlobals "nth_dealt" = some (some (.ref f9))) (l9 : K.lookup f9 = some ⟨oc9, od9, .func (PySem.W.fnOf "nth_dealt" "nth_dealt" (defArgs s_nth_dealt) (defBody s_nth_dealt) (defScope s_nth_dealt) .none kV9 dc9 pm9 an9 cd9 ct9), sl9⟩) (c9 : PySem.W.codeIn K cd9 "nth_dealt" = true) (k9 : PySem.W.keepIn K (.ref f9) = true)
    (a10 : PySem.W.nsIn K mainGlobals "_turned" = some (some (.ref f10))) (l10 : K.lookup f10 = some ⟨oc10, od10, .func (PySem.W.fnOf "_turned" "_turned" (defArgs s_turned) (defBody s_turned) (defScope s_turned) .none kV10 dc10 pm10 an10 cd10 ct10), sl10⟩) (c10 : PySem.W.codeIn K cd10 "_turned" = true) (k10 : PySem.W.keepIn K (.ref f10) = true)
    (a11 : PySem.W.nsIn K mainGlobals "place_of" = some (some (.ref f11))) (l11 : K.lookup f11 = some ⟨oc11, od11, .func (PySem.W.fnOf "place_of" "place_of" (defArgs s_place_of) (defBody s_place_of) (defScope s_place_of) .none kV11 dc11 pm11 an11 cd11 ct11), sl11⟩) (c11 : PySem.W.codeIn K cd11 "place_of" = true) (k11 : PySem.W.keepIn K (.ref f11) = true)
    (a12 : PySem.W.nsIn K mainGlobals "count_halves" = some (some (.ref f12))) (l12 : K.lookup f12 = some ⟨oc12, od12, .func (PySem.W.fnOf "count_halves" "count_halves" (defArgs s_count_halves) (defBody s_count_halves) (defScope s_count_halves) .none kV12 dc12 pm12 an12 cd12 ct12), sl12⟩) (c12 : PySem.W.codeIn K cd12 "count_halves" = true) (k12 : PySem.W.keepIn K (.ref f12) = true)
    (a13 : PySem.W.nsIn K mainGlobals "own_half" = some (some (.ref f13))) (l13 : K.lookup f13 = some ⟨oc13, od13, .func (PySem.W.fnOf "own_half" "own_half" (defArgs s_own_half) (defBody s_own_half) (defScope s_own_half) .none kV13 dc13 pm13 an13 cd13 ct13), sl13⟩) (c13 : PySem.W.codeIn K cd13 "own_half" = true) (k13 : PySem.W.keepIn K (.ref f13) = true)
    (a14 : PySem.W.nsIn K mainGlobals "other_half" = some (some (.ref f14))) (l14 : K.lookup f14 = some ⟨oc14, od14, .func (PySem.W.fnOf "other_half" "other_half" (defArgs s_other_half) (defBody s_other_half) (defScope s_other_half) .none kV14 dc14 pm14 an14 cd14 ct14), sl14⟩) (c14 : PySem.W.codeIn K cd14 "other_half" = true) (k14 : PySem.W.keepIn K (.ref f14) = true)
    (a15 : PySem.W.nsIn K mainGlobals "_beside" = some (some (.ref f15))) (l15 : K.lookup f15 = some ⟨oc15, od15, .func (PySem.W.fnOf "_beside" "_beside" (defArgs s_beside) (defBody s_beside) (defScope s_beside) .none kV15 dc15 pm15 an15 cd15 ct15), sl15⟩) (c15 : PySem.W.codeIn K cd15 "_beside" = true) (k15 : PySem.W.keepIn K (.ref f15) = true)
    (a16 : PySem.W.nsIn K mainGlobals "is_standard" = some (some (.ref f16))) (l16 : K.lookup f16 = some ⟨oc16, od16, .func (PySem.W.fnOf "is_standard" "is_standard" (defArgs s_is_standard) (defBody s_is_standard) (defScope s_is_standard) .none kV16 dc16 pm16 an16 cd16 ct16), sl16⟩) (c16 : PySem.W.codeIn K cd16 "is_standard" = true) (k16 : PySem.W.keepIn K (.ref f16) = true)
    (a17 : PySem.W.nsIn K mainGlobals "why_not_standard" = some (some (.ref f17))) (l17 : K.lookup f17 = some ⟨oc17, od17, .func (PySem.W.fnOf "why_not_standard" "why_not_standard" (defArgs s_why_not_standard) (defBody s_why_not_standard) (defScope s_why_not_standard) .none kV17 dc17 pm17 an17 cd17 ct17), sl17⟩) (c17 : PySem.W.codeIn K cd17 "why_not_standard" = true) (k17 : PySem.W.keepIn K (.ref f17) = true)
    (a18 : PySem.W.nsIn K mainGlobals "nth_draw" = some (some (.ref f18))) (l18 : K.lookup f18 = some ⟨oc18, od18, .func (PySem.W.fnOf "nth_draw" "nth_draw" (defArgs s_nth_draw) (defBody s_nth_draw) (defScope s_nth_draw) .none kV18 dc18 pm18 an18 cd18 ct18), sl18⟩) (c18 : PySem.W.codeIn K cd18 "nth_draw" = true) (k18 : PySem.W.keepIn K (.ref f18) = true)
    (a19 : PySem.W.nsIn K mainGlobals "rank_draw" = some (some (.ref f19))) (l19 : K.lookup f19 = some ⟨oc19, od19, .func (PySem.W.fnOf "rank_draw" "rank_draw" (defArgs s_rank_draw) (defBody s_rank_draw) (defScope s_rank_draw) .none kV19 dc19 pm19 an19 cd19 ct19), sl19⟩) (c19 : PySem.W.codeIn K cd19 "rank_draw" = true) (k19 : PySem.W.keepIn K (.ref f19) = true)
    (a20 : PySem.W.nsIn K mainGlobals "_count_levels" = some (some (.ref f20))) (l20 : K.lookup f20 = some ⟨oc20, od20, .func (PySem.W.fnOf "_count_levels" "_count_levels" (defArgs s_count_levels) (defBody s_count_levels) (defScope s_count_levels) .none kV20 dc20 pm20 an20 cd20 ct20), sl20⟩) (c20 : PySem.W.codeIn K cd20 "_count_levels" = true) (k20 : PySem.W.keepIn K (.ref f20) = true)
    (a21 : PySem.W.nsIn K mainGlobals "_common_level" = some (some (.ref f21))) (l21 : K.lookup f21 = some ⟨oc21, od21, .func (PySem.W.fnOf "_common_level" "_common_level" (defArgs s_common_level) (defBody s_common_level) (defScope s_common_level) .none kV21 dc21 pm21 an21 cd21 ct21), sl21⟩) (c21 : PySem.W.codeIn K cd21 "_common_level" = true) (k21 : PySem.W.keepIn K (.ref f21) = true)
    (a22 : PySem.W.nsIn K mainGlobals "_count_matches" = some (some (.ref f22))) (l22 : K.lookup f22 = some ⟨oc22, od22, .func (PySem.W.fnOf "_count_matches" "_count_matches" (defArgs s_count_matches) (defBody s_count_matches) (defScope s_count_matches) .none kV22 dc22 pm22 an22 cd22 ct22), sl22⟩) (c22 : PySem.W.codeIn K cd22 "_count_matches" = true) (k22 : PySem.W.keepIn K (.ref f22) = true)
    (a23 : PySem.W.nsIn K mainGlobals "_nth_order" = some (some (.ref f23))) (l23 : K.lookup f23 = some ⟨oc23, od23, .func (PySem.W.fnOf "_nth_order" "_nth_order" (defArgs s_nth_order) (defBody s_nth_order) (defScope s_nth_order) .none kV23 dc23 pm23 an23 cd23 ct23), sl23⟩) (c23 : PySem.W.codeIn K cd23 "_nth_order" = true) (k23 : PySem.W.keepIn K (.ref f23) = true)
    (a24 : PySem.W.nsIn K mainGlobals "_rank_order" = some (some (.ref f24))) (l24 : K.lookup f24 = some ⟨oc24, od24, .func (PySem.W.fnOf "_rank_order" "_rank_order" (defArgs s_rank_order) (defBody s_rank_order) (defScope s_rank_order) .none kV24 dc24 pm24 an24 cd24 ct24), sl24⟩) (c24 : PySem.W.codeIn K cd24 "_rank_order" = true) (k24 : PySem.W.keepIn K (.ref f24) = true)
    (a25 : PySem.W.nsIn K mainGlobals "_law_cell" = some (some (.ref f25))) (l25 : K.lookup f25 = some ⟨oc25, od25, .func (PySem.W.fnOf "_law_cell" "_law_cell" (defArgs s_law_cell) (defBody s_law_cell) (defScope s_law_cell) .none kV25 dc25 pm25 an25 cd25 ct25), sl25⟩) (c25 : PySem.W.codeIn K cd25 "_law_cell" = true) (k25 : PySem.W.keepIn K (.ref f25) = true)
    (a26 : PySem.W.nsIn K mainGlobals "_law_source" = some (some (.ref f26))) (l26 : K.lookup f26 = some ⟨oc26, od26, .func (PySem.W.fnOf "_law_source" "_law_source" (defArgs s_law_source) (defBody s_law_source) (defScope s_law_source) .none kV26 dc26 pm26 an26 cd26 ct26), sl26⟩) (c26 : PySem.W.codeIn K cd26 "_law_source" = true) (k26 : PySem.W.keepIn K (.ref f26) = true)
    (a27 : PySem.W.nsIn K mainGlobals "_law_draw" = some (some (.ref f27))) (l27 : K.lookup f27 = some ⟨oc27, od27, .func (PySem.W.fnOf "_law_draw" "_law_draw" (defArgs s_law_draw) (defBody s_law_draw) (defScope s_law_draw) .none kV27 dc27 pm27 an27 cd27 ct27), sl27⟩) (c27 : PySem.W.codeIn K cd27 "_law_draw" = true) (k27 : PySem.W.keepIn K (.ref f27) = true)
    (a28 : PySem.W.nsIn K mainGlobals "_law_power" = some (some (.ref f28))) (l28 : K.lookup f28 = some ⟨oc28, od28, .func (PySem.W.fnOf "_law_power" "_law_power" (defArgs s_law_power) (defBody s_law_power) (defScope s_law_power) .none kV28 dc28 pm28 an28 cd28 ct28), sl28⟩) (c28 : PySem.W.codeIn K cd28 "_law_power" = true) (k28 : PySem.W.keepIn K (.ref f28) = true)
    (a29 : PySem.W.nsIn K mainGlobals "_law_bracket" = some (some (.ref f29))) (l29 : K.lookup f29 = some ⟨oc29, od29, .func (PySem.W.fnOf "_law_bracket" "_law_bracket" (defArgs s_law_bracket) (defBody s_law_bracket) (defScope s_law_bracket) .none kV29 dc29 pm29 an29 cd29 ct29), sl29⟩) (c29 : PySem.W.codeIn K cd29 "_law_bracket" = true) (k29 : PySem.W.keepIn K (.ref f29) = true)
    (a30 : PySem.W.nsIn K mainGlobals "_law_swapped" = some (some (.ref f30))) (l30 : K.lookup f30 = some ⟨oc30, od30, .func (PySem.W.fnOf "_law_swapped" "_law_swapped" (defArgs s_law_swapped) (defBody s_law_swapped) (defScope s_law_swapped) .none kV30 dc30 pm30 an30 cd30 ct30), sl30⟩) (c30 : PySem.W.codeIn K cd30 "_law_swapped" = true) (k30 : PySem.W.keepIn K (.ref f30) = true)
    (a31 : PySem.W.nsIn K mainGlobals "_law_all_swapped" = some (some (.ref f31))) (l31 : K.lookup f31 = some ⟨oc31, od31, .func (PySem.W.fnOf "_law_all_swapped" "_law_all_swapped" (defArgs s_law_all_swapped) (defBody s_law_all_swapped) (defScope s_law_all_swapped) .none kV31 dc31 pm31 an31 cd31 ct31), sl31⟩) (c31 : PySem.W.codeIn K cd31 "_law_all_swapped" = true) (k31 : PySem.W.keepIn K (.ref f31) = true)
    (a32 : PySem.W.nsIn K mainGlobals "_law_wrong_places" = some (some (.ref f32))) (l32 : K.lookup f32 = some ⟨oc32, od32, .func (PySem.W.fnOf "_law_wrong_places" "_law_wrong_places" (defArgs s_law_wrong_places) (defBody s_law_wrong_places) (defScope s_law_wrong_places) .none kV32 dc32 pm32 an32 cd32 ct32), sl32⟩) (c32 : PySem.W.codeIn K cd32 "_law_wrong_places" = true) (k32 : PySem.W.keepIn K (.ref f32) = true)
    (a33 : PySem.W.nsIn K mainGlobals "_law_bracket_of" = some (some (.ref f33))) (l33 : K.lookup f33 = some ⟨oc33, od33, .func (PySem.W.fnOf "_law_bracket_of" "_law_bracket_of" (defArgs s_law_bracket_of) (defBody s_law_bracket_of) (defScope s_law_bracket_of) .none kV33 dc33 pm33 an33 cd33 ct33), sl33⟩) (c33 : PySem.W.codeIn K cd33 "_law_bracket_of" = true) (k33 : PySem.W.keepIn K (.ref f33) = true)
    (a34 : PySem.W.nsIn K mainGlobals "_law_mixed" = some (some (.ref f34))) (l34 : K.lookup f34 = some ⟨oc34, od34, .func (PySem.W.fnOf "_law_mixed" "_law_mixed" (defArgs s_law_mixed) (defBody s_law_mixed) (defScope s_law_mixed) .none kV34 dc34 pm34 an34 cd34 ct34), sl34⟩) (c34 : PySem.W.codeIn K cd34 "_law_mixed" = true) (k34 : PySem.W.keepIn K (.ref f34) = true)
    (a35 : PySem.W.nsIn K mainGlobals "_law_near_draw" = some (some (.ref f35))) (l35 : K.lookup f35 = some ⟨oc35, od35, .func (PySem.W.fnOf "_law_near_draw" "_law_near_draw" (defArgs s_law_near_draw) (defBody s_law_near_draw) (defScope s_law_near_draw) .none kV35 dc35 pm35 an35 cd35 ct35), sl35⟩) (c35 : PySem.W.codeIn K cd35 "_law_near_draw" = true) (k35 : PySem.W.keepIn K (.ref f35) = true)
    (a36 : PySem.W.nsIn K mainGlobals "_law_orders" = some (some (.ref f36))) (l36 : K.lookup f36 = some ⟨oc36, od36, .func (PySem.W.fnOf "_law_orders" "_law_orders" (defArgs s_law_orders) (defBody s_law_orders) (defScope s_law_orders) .none kV36 dc36 pm36 an36 cd36 ct36), sl36⟩) (c36 : PySem.W.codeIn K cd36 "_law_orders" = true) (k36 : PySem.W.keepIn K (.ref f36) = true)
    (a37 : PySem.W.nsIn K mainGlobals "_law_judged" = some (some (.ref f37))) (l37 : K.lookup f37 = some ⟨oc37, od37, .func (PySem.W.fnOf "_law_judged" "_law_judged" (defArgs s_law_judged) (defBody s_law_judged) (defScope s_law_judged) .none kV37 dc37 pm37 an37 cd37 ct37), sl37⟩) (c37 : PySem.W.codeIn K cd37 "_law_judged" = true) (k37 : PySem.W.keepIn K (.ref f37) = true)
    (a38 : PySem.W.nsIn K mainGlobals "_law_numbered" = some (some (.ref f38))) (l38 : K.lookup f38 = some ⟨oc38, od38, .func (PySem.W.fnOf "_law_numbered" "_law_numbered" (defArgs s_law_numbered) (defBody s_law_numbered) (defScope s_law_numbered) .none kV38 dc38 pm38 an38 cd38 ct38), sl38⟩) (c38 : PySem.W.codeIn K cd38 "_law_numbered" = true) (k38 : PySem.W.keepIn K (.ref f38) = true)
    (a39 : PySem.W.nsIn K mainGlobals "law" = some (some (.ref f39))) (l39 : K.lookup f39 = some ⟨oc39, od39, .func (PySem.W.fnOf "law" "law" (defArgs s_law) (defBody s_law) (defScope s_law) .none kV39 dc39 pm39 an39 cd39 ct39), sl39⟩) (c39 : PySem.W.codeIn K cd39 "law" = true) (k39 : PySem.W.keepIn K (.ref f39) = true)
    (ac0 : PySem.W.nsIn K mainGlobals "MOST_ROUNDS" = some (some (.int 100 tc0)))
    (ac1 : PySem.W.nsIn K mainGlobals "MOST_ROUNDS_OF_A_DRAW" = some (some (.int 7 tc1)))
    (ub0 : PySem.W.nsIn K mainGlobals "DRAW_SIZES" = some (some (.ref ua0))) (ul0 : K.lookup ua0 = some ⟨.type "tuple", ud0, .seq #[.int 2 ut0_0, .int 4 ut0_1, .int 8 ut0_2, .int 16 ut0_3, .int 32 ut0_4, .int 64 ut0_5, .int 128 ut0_6] un0, us0⟩)
    (z0 : PySem.W.nsIn K mainGlobals "abs" = some none)
    (z1 : PySem.W.nsIn K mainGlobals "all" = some none)
    (z2 : PySem.W.nsIn K mainGlobals "bool" = some none)
    (z3 : PySem.W.nsIn K mainGlobals "dict" = some none)
    (z4 : PySem.W.nsIn K mainGlobals "enumerate" = some none)
    (z5 : PySem.W.nsIn K mainGlobals "int" = some none)
    (z6 : PySem.W.nsIn K mainGlobals "isinstance" = some none)
    (z7 : PySem.W.nsIn K mainGlobals "len" = some none)
    (z8 : PySem.W.nsIn K mainGlobals "list" = some none)
    (z9 : PySem.W.nsIn K mainGlobals "max" = some none)
    (z10 : PySem.W.nsIn K mainGlobals "min" = some none)
    (z11 : PySem.W.nsIn K mainGlobals "range" = some none)
    (z12 : PySem.W.nsIn K mainGlobals "repr" = some none)
    (z13 : PySem.W.nsIn K mainGlobals "sorted" = some none)
    (q2 : PySem.W.tabIn K "is_draw" = some (tc_2, tp_2)) (r2 : K.lookup tp_2 = none)
    (TF : ∀ y ∈ (["is_draw"] : List Str), ∀ c P, PySem.W.tabIn K y = some (c, P) → PySem.W.CodeHd h c P ∧ h.get? P = some { cls := .none, data := .fields #[] }) :
    SC.LawAtG l w K 15 63 "script" mg fl h := by
  have e := hfl.symm.trans (PySem.W.mg_of X G a39)
  cases e
  have T : ∀ base, (∀ p ∈ ([(tc_2, tp_2)] : List (Addr × Addr)), GxR.TabB base mg p.1 p.2) → TX K mg base (fun n => match n with | 0 => f0 | 1 => f1 | 2 => f2 | 3 => f3 | 4 => f4 | 5 => f5 | 6 => f6 | 7 => f7 | 8 => f8 | 9 => f9 | 10 => f10 | 11 => f11 | 12 => f12 | 13 => f13 | 14 => f14 | 15 => f15 | 16 => f16 | 17 => f17 | 18 => f18 | 19 => f19 | 20 => f20 | 21 => f21 | 22 => f22 | 23 => f23 | 24 => f24 | 25 => f25 | 26 => f26 | 27 => f27 | 28 => f28 | 29 => f29 | 30 => f30 | 31 => f31 | 32 => f32 | 33 => f33 | 34 => f34 | 35 => f35 | 36 => f36 | 37 => f37 | 38 => f38 | 39 => fl | _ => 0) (fun n => match n with | 0 => PySem.W.fnOf "is_integer" "is_integer" (defArgs s_is_integer) (defBody s_is_integer) (defScope s_is_integer) .none kV0 dc0 pm0 an0 cd0 ct0 | 1 => PySem.W.fnOf "is_integer_between" "is_integer_between" (defArgs s_is_integer_between) (defBody s_is_integer_between) (defScope s_is_integer_between) .none kV1 dc1 pm1 an1 cd1 ct1 | 2 => PySem.W.fnOf "is_draw" "is_draw" (defArgs s_is_draw) (defBody s_is_draw) (defScope s_is_draw) .none kV2 dc2 pm2 an2 cd2 ct2 | 3 => PySem.W.fnOf "check_rounds" "check_rounds" (defArgs s_check_rounds) (defBody s_check_rounds) (defScope s_check_rounds) .none kV3 dc3 pm3 an3 cd3 ct3 | 4 => PySem.W.fnOf "check_few_rounds" "check_few_rounds" (defArgs s_check_few_rounds) (defBody s_check_few_rounds) (defScope s_check_few_rounds) .none kV4 dc4 pm4 an4 cd4 ct4 | 5 => PySem.W.fnOf "check_seed" "check_seed" (defArgs s_check_seed) (defBody s_check_seed) (defScope s_check_seed) .none kV5 dc5 pm5 an5 cd5 ct5 | 6 => PySem.W.fnOf "check_index" "check_index" (defArgs s_check_index) (defBody s_check_index) (defScope s_check_index) .none kV6 dc6 pm6 an6 cd6 ct6 | 7 => PySem.W.fnOf "check_draw" "check_draw" (defArgs s_check_draw) (defBody s_check_draw) (defScope s_check_draw) .none kV7 dc7 pm7 an7 cd7 ct7 | 8 => PySem.W.fnOf "group_of" "group_of" (defArgs s_group_of) (defBody s_group_of) (defScope s_group_of) .none kV8 dc8 pm8 an8 cd8 ct8 | 9 => PySem.W.fnOf "nth_dealt" "nth_dealt" (defArgs s_nth_dealt) (defBody s_nth_dealt) (defScope s_nth_dealt) .none kV9 dc9 pm9 an9 cd9 ct9 | 10 => PySem.W.fnOf "_turned" "_turned" (defArgs s_turned) (defBody s_turned) (defScope s_turned) .none kV10 dc10 pm10 an10 cd10 ct10 | 11 => PySem.W.fnOf "place_of" "place_of" (defArgs s_place_of) (defBody s_place_of) (defScope s_place_of) .none kV11 dc11 pm11 an11 cd11 ct11 | 12 => PySem.W.fnOf "count_halves" "count_halves" (defArgs s_count_halves) (defBody s_count_halves) (defScope s_count_halves) .none kV12 dc12 pm12 an12 cd12 ct12 | 13 => PySem.W.fnOf "own_half" "own_half" (defArgs s_own_half) (defBody s_own_half) (defScope s_own_half) .none kV13 dc13 pm13 an13 cd13 ct13 | 14 => PySem.W.fnOf "other_half" "other_half" (defArgs s_other_half) (defBody s_other_half) (defScope s_other_half) .none kV14 dc14 pm14 an14 cd14 ct14 | 15 => PySem.W.fnOf "_beside" "_beside" (defArgs s_beside) (defBody s_beside) (defScope s_beside) .none kV15 dc15 pm15 an15 cd15 ct15 | 16 => PySem.W.fnOf "is_standard" "is_standard" (defArgs s_is_standard) (defBody s_is_standard) (defScope s_is_standard) .none kV16 dc16 pm16 an16 cd16 ct16 | 17 => PySem.W.fnOf "why_not_standard" "why_not_standard" (defArgs s_why_not_standard) (defBody s_why_not_standard) (defScope s_why_not_standard) .none kV17 dc17 pm17 an17 cd17 ct17 | 18 => PySem.W.fnOf "nth_draw" "nth_draw" (defArgs s_nth_draw) (defBody s_nth_draw) (defScope s_nth_draw) .none kV18 dc18 pm18 an18 cd18 ct18 | 19 => PySem.W.fnOf "rank_draw" "rank_draw" (defArgs s_rank_draw) (defBody s_rank_draw) (defScope s_rank_draw) .none kV19 dc19 pm19 an19 cd19 ct19 | 20 => PySem.W.fnOf "_count_levels" "_count_levels" (defArgs s_count_levels) (defBody s_count_levels) (defScope s_count_levels) .none kV20 dc20 pm20 an20 cd20 ct20 | 21 => PySem.W.fnOf "_common_level" "_common_level" (defArgs s_common_level) (defBody s_common_level) (defScope s_common_level) .none kV21 dc21 pm21 an21 cd21 ct21 | 22 => PySem.W.fnOf "_count_matches" "_count_matches" (defArgs s_count_matches) (defBody s_count_matches) (defScope s_count_matches) .none kV22 dc22 pm22 an22 cd22 ct22 | 23 => PySem.W.fnOf "_nth_order" "_nth_order" (defArgs s_nth_order) (defBody s_nth_order) (defScope s_nth_order) .none kV23 dc23 pm23 an23 cd23 ct23 | 24 => PySem.W.fnOf "_rank_order" "_rank_order" (defArgs s_rank_order) (defBody s_rank_order) (defScope s_rank_order) .none kV24 dc24 pm24 an24 cd24 ct24 | 25 => PySem.W.fnOf "_law_cell" "_law_cell" (defArgs s_law_cell) (defBody s_law_cell) (defScope s_law_cell) .none kV25 dc25 pm25 an25 cd25 ct25 | 26 => PySem.W.fnOf "_law_source" "_law_source" (defArgs s_law_source) (defBody s_law_source) (defScope s_law_source) .none kV26 dc26 pm26 an26 cd26 ct26 | 27 => PySem.W.fnOf "_law_draw" "_law_draw" (defArgs s_law_draw) (defBody s_law_draw) (defScope s_law_draw) .none kV27 dc27 pm27 an27 cd27 ct27 | 28 => PySem.W.fnOf "_law_power" "_law_power" (defArgs s_law_power) (defBody s_law_power) (defScope s_law_power) .none kV28 dc28 pm28 an28 cd28 ct28 | 29 => PySem.W.fnOf "_law_bracket" "_law_bracket" (defArgs s_law_bracket) (defBody s_law_bracket) (defScope s_law_bracket) .none kV29 dc29 pm29 an29 cd29 ct29 | 30 => PySem.W.fnOf "_law_swapped" "_law_swapped" (defArgs s_law_swapped) (defBody s_law_swapped) (defScope s_law_swapped) .none kV30 dc30 pm30 an30 cd30 ct30 | 31 => PySem.W.fnOf "_law_all_swapped" "_law_all_swapped" (defArgs s_law_all_swapped) (defBody s_law_all_swapped) (defScope s_law_all_swapped) .none kV31 dc31 pm31 an31 cd31 ct31 | 32 => PySem.W.fnOf "_law_wrong_places" "_law_wrong_places" (defArgs s_law_wrong_places) (defBody s_law_wrong_places) (defScope s_law_wrong_places) .none kV32 dc32 pm32 an32 cd32 ct32 | 33 => PySem.W.fnOf "_law_bracket_of" "_law_bracket_of" (defArgs s_law_bracket_of) (defBody s_law_bracket_of) (defScope s_law_bracket_of) .none kV33 dc33 pm33 an33 cd33 ct33 | 34 => PySem.W.fnOf "_law_mixed" "_law_mixed" (defArgs s_law_mixed) (defBody s_law_mixed) (defScope s_law_mixed) .none kV34 dc34 pm34 an34 cd34 ct34 | 35 => PySem.W.fnOf "_law_near_draw" "_law_near_draw" (defArgs s_law_near_draw) (defBody s_law_near_draw) (defScope s_law_near_draw) .none kV35 dc35 pm35 an35 cd35 ct35 | 36 => PySem.W.fnOf "_law_orders" "_law_orders" (defArgs s_law_orders) (defBody s_law_orders) (defScope s_law_orders) .none kV36 dc36 pm36 an36 cd36 ct36 | 37 => PySem.W.fnOf "_law_judged" "_law_judged" (defArgs s_law_judged) (defBody s_law_judged) (defScope s_law_judged) .none kV37 dc37 pm37 an37 cd37 ct37 | 38 => PySem.W.fnOf "_law_numbered" "_law_numbered" (defArgs s_law_numbered) (defBody s_law_numbered) (defScope s_law_numbered) .none kV38 dc38 pm38 an38 cd38 ct38 | 39 => PySem.W.fnOf "law" "law" (defArgs s_law) (defBody s_law) (defScope s_law) .none kV39 dc39 pm39 an39 cd39 ct39 | _ => PySem.W.fnOf "law" "law" (defArgs s_law) (defBody s_law) (defScope s_law) .none kV39 dc39 pm39 an39 cd39 ct39) (fun n => match n with  | 1004 => tc_2 | 1005 => tp_2 | _ => 0) := fun base hT =>
    { F_is_integer := fun_mk (st := s_is_integer) l0 c0 k0,
      g_is_integer := PySem.W.mg_of X G a0,
      F_is_integer_between := fun_mk (st := s_is_integer_between) l1 c1 k1,
      g_is_integer_between := PySem.W.mg_of X G a1,
      F_is_draw := fun_mk (st := s_is_draw) l2 c2 k2,
      g_is_draw := PySem.W.mg_of X G a2,
      F_check_rounds := fun_mk (st := s_check_rounds) l3 c3 k3,
      g_check_rounds := PySem.W.mg_of X G a3,
      F_check_few_rounds := fun_mk (st := s_check_few_rounds) l4 c4 k4,
      g_check_few_rounds := PySem.W.mg_of X G a4,
      F_check_seed := fun_mk (st := s_check_seed) l5 c5 k5,
      g_check_seed := PySem.W.mg_of X G a5,
      F_check_index := fun_mk (st := s_check_index) l6 c6 k6,
      g_check_index := PySem.W.mg_of X G a6,
      F_check_draw := fun_mk (st := s_check_draw) l7 c7 k7,
      g_check_draw := PySem.W.mg_of X G a7,
      F_group_of := fun_mk (st := s_group_of) l8 c8 k8,
      g_group_of := PySem.W.mg_of X G a8,
      F_nth_dealt := fun_mk (st := s_nth_dealt) l9 c9 k9,
      g_nth_dealt := PySem.W.mg_of X G a9,
      F_turned := fun_mk (st := s_turned) l10 c10 k10,
      g_turned := PySem.W.mg_of X G a10,
      F_place_of := fun_mk (st := s_place_of) l11 c11 k11,
      g_place_of := PySem.W.mg_of X G a11,
      F_count_halves := fun_mk (st := s_count_halves) l12 c12 k12,
      g_count_halves := PySem.W.mg_of X G a12,
      F_own_half := fun_mk (st := s_own_half) l13 c13 k13,
      g_own_half := PySem.W.mg_of X G a13,
      F_other_half := fun_mk (st := s_other_half) l14 c14 k14,
      g_other_half := PySem.W.mg_of X G a14,
      F_beside := fun_mk (st := s_beside) l15 c15 k15,
      g_beside := PySem.W.mg_of X G a15,
      F_is_standard := fun_mk (st := s_is_standard) l16 c16 k16,
      g_is_standard := PySem.W.mg_of X G a16,
      F_why_not_standard := fun_mk (st := s_why_not_standard) l17 c17 k17,
      g_why_not_standard := PySem.W.mg_of X G a17,
      F_nth_draw := fun_mk (st := s_nth_draw) l18 c18 k18,
      g_nth_draw := PySem.W.mg_of X G a18,
      F_rank_draw := fun_mk (st := s_rank_draw) l19 c19 k19,
      g_rank_draw := PySem.W.mg_of X G a19,
      F_count_levels := fun_mk (st := s_count_levels) l20 c20 k20,
      g_count_levels := PySem.W.mg_of X G a20,
      F_common_level := fun_mk (st := s_common_level) l21 c21 k21,
      g_common_level := PySem.W.mg_of X G a21,
      F_count_matches := fun_mk (st := s_count_matches) l22 c22 k22,
      g_count_matches := PySem.W.mg_of X G a22,
      F_nth_order := fun_mk (st := s_nth_order) l23 c23 k23,
      g_nth_order := PySem.W.mg_of X G a23,
      F_rank_order := fun_mk (st := s_rank_order) l24 c24 k24,
      g_rank_order := PySem.W.mg_of X G a24,
      F_law_cell := fun_mk (st := s_law_cell) l25 c25 k25,
      g_law_cell := PySem.W.mg_of X G a25,
      F_law_source := fun_mk (st := s_law_source) l26 c26 k26,
      g_law_source := PySem.W.mg_of X G a26,
      F_law_draw := fun_mk (st := s_law_draw) l27 c27 k27,
      g_law_draw := PySem.W.mg_of X G a27,
      F_law_power := fun_mk (st := s_law_power) l28 c28 k28,
      g_law_power := PySem.W.mg_of X G a28,
      F_law_bracket := fun_mk (st := s_law_bracket) l29 c29 k29,
      g_law_bracket := PySem.W.mg_of X G a29,
      F_law_swapped := fun_mk (st := s_law_swapped) l30 c30 k30,
      g_law_swapped := PySem.W.mg_of X G a30,
      F_law_all_swapped := fun_mk (st := s_law_all_swapped) l31 c31 k31,
      g_law_all_swapped := PySem.W.mg_of X G a31,
      F_law_wrong_places := fun_mk (st := s_law_wrong_places) l32 c32 k32,
      g_law_wrong_places := PySem.W.mg_of X G a32,
      F_law_bracket_of := fun_mk (st := s_law_bracket_of) l33 c33 k33,
      g_law_bracket_of := PySem.W.mg_of X G a33,
      F_law_mixed := fun_mk (st := s_law_mixed) l34 c34 k34,
      g_law_mixed := PySem.W.mg_of X G a34,
      F_law_near_draw := fun_mk (st := s_law_near_draw) l35 c35 k35,
      g_law_near_draw := PySem.W.mg_of X G a35,
      F_law_orders := fun_mk (st := s_law_orders) l36 c36 k36,
      g_law_orders := PySem.W.mg_of X G a36,
      F_law_judged := fun_mk (st := s_law_judged) l37 c37 k37,
      g_law_judged := PySem.W.mg_of X G a37,
      F_law_numbered := fun_mk (st := s_law_numbered) l38 c38 k38,
      g_law_numbered := PySem.W.mg_of X G a38,
      F_law := fun_mk (st := s_law) l39 c39 k39,
      g_law := PySem.W.mg_of X G a39,
      t_MOST_ROUNDS := ⟨tc0, PySem.W.mg_of X G ac0⟩,
      t_MOST_ROUNDS_OF_A_DRAW := ⟨tc1, PySem.W.mg_of X G ac1⟩,
      u_DRAW_SIZES := ⟨ua0, PySem.W.mg_of X G ub0, fun H => .inr ⟨_, _, _, ul0, rfl, rfl, (show 7 ≤ sizeLine by decide), (.cons ⟨_, rfl⟩ (.cons ⟨_, rfl⟩ (.cons ⟨_, rfl⟩ (.cons ⟨_, rfl⟩ (.cons ⟨_, rfl⟩ (.cons ⟨_, rfl⟩ (.cons ⟨_, rfl⟩ .nil)))))))⟩⟩,
      n_abs := PySem.W.mg_none_of X G z0,
      n_all := PySem.W.mg_none_of X G z1,
      n_bool := PySem.W.mg_none_of X G z2,
      n_dict := PySem.W.mg_none_of X G z3,
      n_enumerate := PySem.W.mg_none_of X G z4,
      n_int := PySem.W.mg_none_of X G z5,
      n_isinstance := PySem.W.mg_none_of X G z6,
      n_len := PySem.W.mg_none_of X G z7,
      n_list := PySem.W.mg_none_of X G z8,
      n_max := PySem.W.mg_none_of X G z9,
      n_min := PySem.W.mg_none_of X G z10,
      n_range := PySem.W.mg_none_of X G z11,
      n_repr := PySem.W.mg_none_of X G z12,
      n_sorted := PySem.W.mg_none_of X G z13,
      b_is_draw := hT (tc_2, tp_2) (by simp),
      k_is_draw := SC.tab_cd a2 l2 q2 }
  refine ⟨PySem.W.fnOf "law" "law" (defArgs s_law) (defBody s_law) (defScope s_law) .none kV39 dc39 pm39 an39 cd39 ct39, [(tc_2, tp_2)], SC.spLawT (TL (fun n => match n with  | 1004 => tc_2 | 1005 => tp_2 | _ => 0)) K, fun p hp => ?_, fun p hp => ?_, fun p hp => ?_, fun s v => .of_eq rfl, fun H a ns hl _ hT hS => ⟨a, ns, rfl, hS, hl, SC.tb0 (L := [(tc_2, tp_2)]) hT, fun _ => rfl⟩, fun base _ _ hT => ok_law (T base fun p hp => ⟨(hT p hp).code, (hT p hp).bm, (hT p hp).gP⟩)⟩
  · simp only [List.mem_cons, List.not_mem_nil, or_false] at hp
    subst hp
    · exact (TF "is_draw" (by simp) _ _ q2).2
  · simp only [List.mem_cons, List.not_mem_nil, or_false] at hp
    subst hp
    · exact r2
  · simp only [List.mem_cons, List.not_mem_nil, or_false] at hp
    subst hp
    · exact (TF "is_draw" (by simp) _ _ q2).1
theorem walk {l : PySem.W.OpenLaw} {q : Program} {loose : List Str} {XP : (Str → Option Value) → Heap → Prop} {YP : World → Heap → Prop} {d : DefRec} {K : Params → PySem.W.Frag} (hn : l.most = some 63) (hdf : d.params.defaults = [])
    (hrec : ∀ y ∈ (["is_draw"] : List Str), ((recsOf q).any fun e => e.name == y) = true) (hY : ∀ (w : World) (h : Heap), YP w h → (K w.params).In h)
    (F : ∀ (w : World) (mg : Str → Option Value) (fl : Addr) (h : Heap), (K w.params).In h → h.Ns mainGlobals mg → mg d.name = some (.ref fl) →
      (∀ y ∈ (["is_draw"] : List Str), ∀ c P, PySem.W.tabIn (K w.params) y = some (c, P) → PySem.W.CodeHd h c P ∧ h.get? P = some { cls := .none, data := .fields #[] }) → SC.LawAtG l w (K w.params) 15 63 "script" mg fl h) :
    PySem.W.WalkO q loose XP YP l.row.toRowW d [] (fun f vs => PySem.call f vs) :=
  SC.walk_tabsG (n := 63) (k := 15) (x := "script") ["is_draw"] hn (by decide) hdf ⟨rfl, by decide, by decide⟩ hrec hY F
end My
open PySem PySem.W PyProof.Rows in
set_option maxRecDepth 100000 in
set_option maxHeartbeats 0 in
theorem PySem.Challenge.cw_seedcup_k35_draws_by_all_lists_holds : PySem.Challenge.rw_seedcup_k35_draws_by_all_lists.Holds := by
  w_on; o_law; k_head; (case hw => w_witness2)
  k_fill
  refine My.walk (l := PySem.Challenge.rw_seedcup_k35_draws_by_all_lists) rfl rfl ?R (fun w h Y => PySem.W.kIn_of Y) ?F
  case R => decide +kernel
  case F =>
    intro w mg fl h KX G hmg TF
    refine' My.all_mk KX G hmg ?a0 ?l0 ?c0 ?k0 ?a1 ?l1 ?c1 ?k1 ?a2 ?l2 ?c2 ?k2 ?a3 ?l3 ?c3 ?k3 ?a4 ?l4 ?c4 ?k4 ?a5 ?l5 ?c5 ?k5 ?a6 ?l6 ?c6 ?k6 ?a7 ?l7 ?c7 ?k7 ?a8 ?l8 ?c8 ?k8 ?a9 ?l9 ?c9 ?k9 ?a10 ?l10 ?c10 ?k10 ?a11 ?l11 ?c11 ?k11 ?a12 ?l12 ?c12 ?k12 ?a13 ?l13 ?c13 ?k13 ?a14 ?l14 ?c14 ?k14 ?a15 ?l15 ?c15 ?k15 ?a16 ?l16 ?c16 ?k16 ?a17 ?l17 ?c17 ?k17 ?a18 ?l18 ?c18 ?k18 ?a19 ?l19 ?c19 ?k19 ?a20 ?l20 ?c20 ?k20 ?a21 ?l21 ?c21 ?k21 ?a22 ?l22 ?c22 ?k22 ?a23 ?l23 ?c23 ?k23 ?a24 ?l24 ?c24 ?k24 ?a25 ?l25 ?c25 ?k25 ?a26 ?l26 ?c26 ?k26 ?a27 ?l27 ?c27 ?k27 ?a28 ?l28 ?c28 ?k28 ?a29 ?l29 ?c29 ?k29 ?a30 ?l30 ?c30 ?k30 ?a31 ?l31 ?c31 ?k31 ?a32 ?l32 ?c32 ?k32 ?a33 ?l33 ?c33 ?k33 ?a34 ?l34 ?c34 ?k34 ?a35 ?l35 ?c35 ?k35 ?a36 ?l36 ?c36 ?k36 ?a37 ?l37 ?c37 ?k37 ?a38 ?l38 ?c38 ?k38 ?a39 ?l39 ?c39 ?k39 ?ac0 ?ac1 ?ub0 ?ul0 ?z0 ?z1 ?z2 ?z3 ?z4 ?z5 ?z6 ?z7 ?z8 ?z9 ?z10 ?z11 ?z12 ?z13 ?q2 ?r2 TF
    (case a0 => k_is)
    (case l0 => k_is)
    (case c0 => k_is)
    (case k0 => k_is)
    (case a1 => k_is)
    (case l1 => k_is)
    (case c1 => k_is)
    (case k1 => k_is)
    (case a2 => k_is)
    (case l2 => k_is)
    (case c2 => k_is)
    (case k2 => k_is)
    (case a3 => k_is)
    (case l3 => k_is)
    (case c3 => k_is)
    (case k3 => k_is)
    (case a4 => k_is)
    (case l4 => k_is)
    (case c4 => k_is)
    (case k4 => k_is)
    (case a5 => k_is)
    (case l5 => k_is)
    (case c5 => k_is)
    (case k5 => k_is)
    (case a6 => k_is)
    (case l6 => k_is)
    (case c6 => k_is)
    (case k6 => k_is)
    (case a7 => k_is)
    (case l7 => k_is)
    (case c7 => k_is)
    (case k7 => k_is)
    (case a8 => k_is)
    (case l8 => k_is)
    (case c8 => k_is)
    (case k8 => k_is)
    (case a9 => k_is)
    (case l9 => k_is)
    (case c9 => k_is)
    (case k9 => k_is)
    (case a10 => k_is)
    (case l10 => k_is)
    (case c10 => k_is)
    (case k10 => k_is)
    (case a11 => k_is)
    (case l11 => k_is)
    (case c11 => k_is)
    (case k11 => k_is)
    (case a12 => k_is)
    (case l12 => k_is)
    (case c12 => k_is)
    (case k12 => k_is)
    (case a13 => k_is)
    (case l13 => k_is)
    (case c13 => k_is)
    (case k13 => k_is)
    (case a14 => k_is)
    (case l14 => k_is)
    (case c14 => k_is)
    (case k14 => k_is)
    (case a15 => k_is)
    (case l15 => k_is)
    (case c15 => k_is)
    (case k15 => k_is)
    (case a16 => k_is)
    (case l16 => k_is)
    (case c16 => k_is)
    (case k16 => k_is)
    (case a17 => k_is)
    (case l17 => k_is)
    (case c17 => k_is)
    (case k17 => k_is)
    (case a18 => k_is)
    (case l18 => k_is)
    (case c18 => k_is)
    (case k18 => k_is)
    (case a19 => k_is)
    (case l19 => k_is)
    (case c19 => k_is)
    (case k19 => k_is)
    (case a20 => k_is)
    (case l20 => k_is)
    (case c20 => k_is)
    (case k20 => k_is)
    (case a21 => k_is)
    (case l21 => k_is)
    (case c21 => k_is)
    (case k21 => k_is)
    (case a22 => k_is)
    (case l22 => k_is)
    (case c22 => k_is)
    (case k22 => k_is)
    (case a23 => k_is)
    (case l23 => k_is)
    (case c23 => k_is)
    (case k23 => k_is)
    (case a24 => k_is)
    (case l24 => k_is)
    (case c24 => k_is)
    (case k24 => k_is)
    (case a25 => k_is)
    (case l25 => k_is)
    (case c25 => k_is)
    (case k25 => k_is)
    (case a26 => k_is)
    (case l26 => k_is)
    (case c26 => k_is)
    (case k26 => k_is)
    (case a27 => k_is)
    (case l27 => k_is)
    (case c27 => k_is)
    (case k27 => k_is)
    (case a28 => k_is)
    (case l28 => k_is)
    (case c28 => k_is)
    (case k28 => k_is)
    (case a29 => k_is)
    (case l29 => k_is)
    (case c29 => k_is)
    (case k29 => k_is)
    (case a30 => k_is)
    (case l30 => k_is)
    (case c30 => k_is)
    (case k30 => k_is)
    (case a31 => k_is)
    (case l31 => k_is)
    (case c31 => k_is)
    (case k31 => k_is)
    (case a32 => k_is)
    (case l32 => k_is)
    (case c32 => k_is)
    (case k32 => k_is)
    (case a33 => k_is)
    (case l33 => k_is)
    (case c33 => k_is)
    (case k33 => k_is)
    (case a34 => k_is)
    (case l34 => k_is)
    (case c34 => k_is)
    (case k34 => k_is)
    (case a35 => k_is)
    (case l35 => k_is)
    (case c35 => k_is)
    (case k35 => k_is)
    (case a36 => k_is)
    (case l36 => k_is)
    (case c36 => k_is)
    (case k36 => k_is)
    (case a37 => k_is)
    (case l37 => k_is)
    (case c37 => k_is)
    (case k37 => k_is)
    (case a38 => k_is)
    (case l38 => k_is)
    (case c38 => k_is)
    (case k38 => k_is)
    (case a39 => k_is)
    (case l39 => k_is)
    (case c39 => k_is)
    (case k39 => k_is)
    (case ac0 => k_is)
    (case ac1 => k_is)
    (case ub0 => k_is)
    (case ul0 => k_is)
    (case z0 => k_is)
    (case z1 => k_is)
    (case z2 => k_is)
    (case z3 => k_is)
    (case z4 => k_is)
    (case z5 => k_is)
    (case z6 => k_is)
    (case z7 => k_is)
    (case z8 => k_is)
    (case z9 => k_is)
    (case z10 => k_is)
    (case z11 => k_is)
    (case z12 => k_is)
    (case z13 => k_is)
    (case q2 => (apply SC.tabIn_of; (case e1 => k_is); (case e2 => k_is); (case e3 => rfl); (case e4 => k_is); (case e5 => rfl)))
    (case r2 => kernel_rfl)

