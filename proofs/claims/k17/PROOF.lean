import PyProof.Rows.All
import Wide.All
import OpenK.AllK
import Wide.FinOn
import HandS.ForMost
import HandS.Wide
import HandS.WideBits
import HandS.SortInts
import HandS.Star
import HandS.IsInst
import HandS.Style
import HandS.Conv
import HandS.Defaults
import HandS.Text
import HandS.TryOnly
import HandS.WordsExc
import HandS.ExcOwn
import HandS.Steps
import PySem.Challenge.RW_seedcup_k17_byes_in_small_brackets
set_option Elab.async false
set_option linter.all false
set_option maxRecDepth 100000
set_option maxHeartbeats 4000000
/-! Steps of a reading, for this project's own proofs. -/
namespace SC
open PySem PySem.Spec PyProof.Rows L2

/-! ### operators of great ints -/
section
variable {X : Cx}
def CPowX (i j : Int) : Prop := 0 ≤ j ∧ (Builtin.Int.intBits i : Int) * j ≤ 2 ^ 27
theorem op_powX : OpR X (binaryOp .Pow) (rI CPowX fun i j => .int (i ^ j.toNat)) := opI fun _ _ _ _ _ _ _ hc q => pow_int hc.1 hc.2 q
end
def rMod : R2 := rI (fun _ j => 0 < j) fun i j => .int (i % j)
section
variable {X : Cx}
theorem op_modR : OpR X (binaryOp .Mod) rMod := op_mod
end
theorem bits_le {i : Int} {n : Nat} (h : i.natAbs < 2 ^ n) : Builtin.Int.intBits i ≤ n := by
  unfold Builtin.Int.intBits
  split
  · omega
  · rename_i hz
    have h1 : i.natAbs ≠ 0 := by simpa using hz
    have : i.natAbs.log2 < n := by
      rw [Nat.log2_lt h1]
      exact h
    omega

theorem n_abs {b : Int} {n : Nat} (h0 : 0 < b) (h : b < 2 ^ n) : b.natAbs < 2 ^ n := by
  have e : (b.natAbs : Int) < ((2 ^ n : Nat) : Int) := by
    rw [Int.natAbs_of_nonneg (by omega)]
    simpa using h
  exact_mod_cast e
theorem cpow_ok {x j : Int} (h0 : 0 ≤ x) (h : x < 2 ^ 400) (j0 : 0 ≤ j) (j1 : j ≤ 10) : CPowX x j := by
  refine ⟨j0, ?_⟩
  have e : (x.natAbs : Int) < ((2 ^ 400 : Nat) : Int) := by
    rw [Int.natAbs_of_nonneg h0]
    exact h
  have b := bits_le (i := x) (n := 400) (by exact_mod_cast e)
  have p : ((Builtin.Int.intBits x : Nat) : Int) * j ≤ 400 * 10 := Int.mul_le_mul (by omega) j1 j0 (by omega)
  omega
def NewL (xs : List V) (H : Hp) (Q : VK) : Prop := xs.length ≤ sizeLine ∧ ∀ p, H p = none → Q (.ref p) (upd H p (.lst xs))
def NewT (xs : List V) (H : Hp) (Q : VK) : Prop := xs.length ≤ sizeLine ∧ ∀ p, H p = none → Q (.ref p) (upd H p (.tup xs))
/-! ### readings, step by step -/
section
variable {σ : L2.St} {H H' : Hp} {Q : VK} {ta tb te : TE} {t u : TT} {r : R2} {v x y : V} {i j : Int} {D : Ends} {tr ts : TS} {trA : TA}
theorem w_var {i : Nat} (h : σ[i]? = some (some v)) (k : Q v H) : tVar i σ H Q := ⟨v, h, k⟩
theorem w_c (k : Q v H) : tC v σ H Q := k
theorem w_op (k : ta σ H fun x H1 => tb σ H1 fun y H2 => r x y H2 Q) : tOp r ta tb σ H Q := k
theorem w_i0 {g : Int → Int → V} (k : Q (g i j) H) : rI0 g (.int i) (.int j) H Q := ⟨i, j, rfl, rfl, k⟩
theorem w_i {C : Int → Int → Prop} {g : Int → Int → V} (c : C i j) (k : Q (g i j) H) : rI C g (.int i) (.int j) H Q := ⟨i, j, rfl, rfl, c, k⟩
theorem w_modG (c : 0 < j) (k : ∀ r, 0 ≤ r → r < j → Q (.int r) H) : rMod (.int i) (.int j) H Q := ⟨i, j, rfl, rfl, c, k _ (Int.emod_nonneg _ (by omega)) (Int.emod_lt_of_pos _ c)⟩
theorem w_modE (c : 0 < j) (k : Q (.int (i % j)) H) : rMod (.int i) (.int j) H Q := ⟨i, j, rfl, rfl, c, k⟩
theorem w_un {r : V → Hp → VK → Prop} (k : ta σ H fun x H1 => r x H1 Q) : tUn r ta σ H Q := k
theorem w_u {g : Int → V} (k : Q (g i) H) : rU g (.int i) H Q := ⟨i, rfl, k⟩
theorem w_eq (k : Q (.bl (decide (i = j))) H) : rEq (.int i) (.int j) H Q := ⟨rfl, by
  have e : decide (V.int i = V.int j) = decide (i = j) := by simp
  rw [e]; exact k⟩
theorem w_ne (k : Q (.bl (decide (i ≠ j))) H) : rNe (.int i) (.int j) H Q := ⟨rfl, by
  have e : (!decide (V.int i = V.int j)) = decide (i ≠ j) := by simp
  rw [e]; exact k⟩
theorem w_eqB {a b : Bool} (k : Q (.bl (decide (a = b))) H) : rEq (.bl a) (.bl b) H Q := ⟨rfl, by
  have e : decide (V.bl a = V.bl b) = decide (a = b) := by simp
  rw [e]; exact k⟩
theorem w_neB {a b : Bool} (k : Q (.bl (decide (a ≠ b))) H) : rNe (.bl a) (.bl b) H Q := ⟨rfl, by
  have e : (!decide (V.bl a = V.bl b)) = decide (a ≠ b) := by simp
  rw [e]; exact k⟩
theorem w_test {R : Bool → Hp → Prop} (k : te σ H fun x H' => ∃ b, x = .bl b ∧ R b H') : tTest te σ H R := k
theorem w_tB {R : Bool → Hp → Prop} (k : te σ H fun x H' => ∃ b, x = .bl b ∧ R b H') : tB te σ H R := k
theorem w_isb {b : Bool} {R : Bool → Prop} (k : R b) : ∃ c, V.bl b = .bl c ∧ R c := ⟨b, rfl, k⟩
theorem w_and {R : Bool → Hp → Prop} (k : t σ H fun c H1 => if c = true then u σ H1 R else R false H1) : tAnd t u σ H R := k
theorem w_or {R : Bool → Hp → Prop} (k : t σ H fun c H1 => if c = true then R true H1 else u σ H1 R) : tOr t u σ H R := k
theorem w_not {R : Bool → Hp → Prop} (k : t σ H fun c H1 => R (!c) H1) : tNot t σ H R := k
theorem w_andV (k : ta σ H fun x H1 => ∃ c, x = .bl c ∧ if c = true then tb σ H1 Q else Q (.bl false) H1) : tAndV ta tb σ H Q := k
theorem w_orV (k : ta σ H fun x H1 => ∃ c, x = .bl c ∧ if c = true then Q (.bl true) H1 else tb σ H1 Q) : tOrV ta tb σ H Q := k
theorem w_notV (k : ta σ H fun x H1 => ∃ c, x = .bl c ∧ Q (.bl (!c)) H1) : tNotV ta σ H Q := k
theorem w_bex {b : Bool} {A B : Bool → Prop} (k : if b = true then A b else B b) : ∃ c, V.bl b = .bl c ∧ if c = true then A c else B c := ⟨b, rfl, k⟩
theorem w_ife (k : t σ H fun c H1 => if c = true then ta σ H1 Q else tb σ H1 Q) : tIf t ta tb σ H Q := k
theorem w_chain {r' : R2} {tc : TE} (k : ta σ H fun x H1 => tb σ H1 fun y H2 => r x y H2 fun z H3 => ∃ k, z = .bl k ∧ (if k = true then tc σ H3 fun w' H4 => r' y w' H4 Q else Q (.bl false) H3)) : tChain r r' ta tb tc σ H Q := k
theorem w_nil {R : List V → Hp → Prop} (k : R [] H) : tNil σ H R := k
theorem w_cons {tr : TA} {R : List V → Hp → Prop} (k : ta σ H fun x H1 => tr σ H1 fun xs H2 => R (x :: xs) H2) : tCons ta tr σ H R := k
theorem w_cb {r : List V → Hp → VK → Prop} {tr : TA} (k : tr σ H fun vs H1 => r vs H1 Q) : tCB r tr σ H Q := k
theorem w_call {sp : Sp} {dvs : List V} {E : XK} {tr : TA} (k : tr σ H fun vs H1 => sp (vs ++ dvs) H1 Q E) : tCall sp dvs E tr σ H Q := k
/-- statements -/
theorem w_seq (k : tr { D with nx := ts D } σ H) : tSeq tr ts D σ H := k
theorem w_next (k : D.nx σ H) : tNext D σ H := k
theorem w_asg {g : TG} (k : te σ H fun x H1 => g x σ H1 D.nx) : tAsg te g D σ H := k
theorem w_gname {n : Nat} {R : L2.St → Hp → Prop} (k : R (σ.set n (some v)) H) : gName n v σ H R := k
theorem w_par {n m : Nat} (k : trA σ H fun vs H1 => ∃ v w, vs = [v, w] ∧ D.nx ((σ.set n (some v)).set m (some w)) H1) : tPar n m trA D σ H := k
theorem w_two {A : V → V → Prop} (k : A v x) : ∃ a b, [v, x] = [a, b] ∧ A a b := ⟨v, x, rfl, k⟩
theorem w_gtup {K : PySem.W.Frag} {a : Addr} {xs : List V} {n : Nat} {g : TGs} {R : L2.St → Hp → Prop} (h : SqT K H a xs) (hl : xs.length = n) (k : g xs σ H R) : gTup K n g (.ref a) σ H R := ⟨a, xs, rfl, h, hl, k⟩
theorem w_gcons {xs : List V} {g : TG} {gs : TGs} {R : L2.St → Hp → Prop} (k : g v σ H fun σ' H' => gs xs σ' H' R) : gCons g gs (v :: xs) σ H R := ⟨v, xs, rfl, k⟩
theorem w_gnil {R : L2.St → Hp → Prop} (k : R σ H) : gNil [] σ H R := ⟨rfl, k⟩
theorem w_gsub {to ti : TE} {st : TSet} {R : L2.St → Hp → Prop} (k : to σ H fun o H1 => ti σ H1 fun i H2 => st o i v H2 fun H3 => R σ H3) : gSub to ti st v σ H R := k
theorem w_setL {p : Addr} {xs : List V} {n : Nat} {R : Hp → Prop} (h : H p = some (.lst xs)) (hj : ixN xs.length i = some n) (k : R (upd H p (.lst (xs.set n v)))) : rSetL (.ref p) (.int i) v H R := ⟨p, xs, i, n, rfl, rfl, h, hj, k⟩
theorem w_tup (k : trA σ H fun xs H1 => NewT xs H1 Q) : tTup trA σ H Q := k
theorem w_lst' (k : trA σ H fun xs H1 => NewL xs H1 Q) : tLst trA σ H Q := k
theorem w_ret (k : te σ H D.rt) : tRet te D σ H := k
theorem w_drop (k : te σ H fun _ H1 => D.nx σ H1) : tDrop te D σ H := k
theorem w_ifS (k : t σ H fun b H1 => if b = true then tr D σ H1 else ts D σ H1) : tIfS t tr ts D σ H := k
theorem w_if {b : Bool} {A B : Prop} (h1 : b = true → A) (h2 : b = false → B) : if b = true then A else B := by
  cases b with
  | true => rw [if_pos rfl]; exact h1 rfl
  | false => rw [if_neg Bool.false_ne_true]; exact h2 rfl
theorem w_ifd {c A B : Prop} [Decidable c] (h1 : c → A) (h2 : ¬ c → B) : if decide c = true then A else B := by
  by_cases h : c
  · rw [if_pos (decide_eq_true h)]; exact h1 h
  · rw [if_neg (by rw [decide_eq_false h]; exact Bool.false_ne_true)]; exact h2 h
theorem w_ifn {c A B : Prop} [Decidable c] (h1 : ¬ c → A) (h2 : c → B) : if (!decide c) = true then A else B := by
  by_cases h : c
  · rw [decide_eq_true h]; exact iteF (h2 h)
  · rw [decide_eq_false h]; exact iteT (h1 h)
theorem iteF' {b : Bool} {A B : Prop} (e : b = false) (h : B) : if b = true then A else B := by
  subst e
  exact iteF h
theorem iteT' {b : Bool} {A B : Prop} (e : b = true) (h : A) : if b = true then A else B := by
  subst e
  exact iteT h
theorem w_yes {c A B : Prop} [Decidable c] (h : c) (k : A) : if decide c = true then A else B := w_ifd (fun _ => k) fun z => absurd h z
theorem w_no {c A B : Prop} [Decidable c] (h : ¬ c) (k : B) : if decide c = true then A else B := w_ifd (fun z => absurd z h) fun _ => k
theorem w_nyes {c A B : Prop} [Decidable c] (h : ¬ c) (k : A) : if (!decide c) = true then A else B := w_ifn (fun _ => k) fun z => absurd z h
theorem w_nno {c A B : Prop} [Decidable c] (h : c) (k : B) : if (!decide c) = true then A else B := w_ifn (fun z => absurd h z) fun _ => k
end

theorem vq {Q : VK} {v v' : V} {H : Hp} (h : Q v H) (e : v = v') : Q v' H := e ▸ h
/-! ### heaps: all but the source at a is kept -/
def Kp (a : Addr) (H H' : Hp) : Prop := ∀ b o, b ≠ a → H b = some o → H' b = some o
theorem Kp.refl (a : Addr) (H : Hp) : Kp a H H := fun _ _ _ h => h
theorem Kp.trans {a : Addr} {H H1 H2 : Hp} (x : Kp a H H1) (y : Kp a H1 H2) : Kp a H H2 := fun b o n h => y b o n (x b o n h)
theorem Kp.of_same {a : Addr} {H H' : Hp} (x : Same H H') : Kp a H H' := fun b o _ h => x b o h
theorem same_upd {H : Hp} {p : Addr} {o : HO} (h : H p = none) : Same H (upd H p o) := fun b x e => by
  rw [upd_ne (ne_of_none e h)]
  exact e
/-- a list, a tuple that is not the source -/
structure Lst (a : Addr) (H : Hp) (p : Addr) (xs : List V) : Prop where
  ne : p ≠ a
  at_ : H p = some (.lst xs)
structure Tup (a : Addr) (H : Hp) (p : Addr) (xs : List V) : Prop where
  ne : p ≠ a
  at_ : H p = some (.tup xs)
theorem Lst.go {a : Addr} {H H' : Hp} {p : Addr} {xs : List V} (h : Lst a H p xs) (g : Kp a H H') : Lst a H' p xs := ⟨h.ne, g p _ h.ne h.at_⟩
theorem Tup.go {a : Addr} {H H' : Hp} {p : Addr} {xs : List V} (h : Tup a H p xs) (g : Kp a H H') : Tup a H' p xs := ⟨h.ne, g p _ h.ne h.at_⟩
theorem Lst.sq {K : PySem.W.Frag} {a : Addr} {H : Hp} {p : Addr} {xs : List V} (h : Lst a H p xs) : SqL K H p xs := .inl (.inl h.at_)
theorem Tup.sq {K : PySem.W.Frag} {a : Addr} {H : Hp} {p : Addr} {xs : List V} (h : Tup a H p xs) : SqT K H p xs := .inl (.inl h.at_)
/-- a source: three numbers in a list; N bounds how often it was drawn from anew -/
def LIM : Int := 1000000000000
@[irreducible] def BIG : Int := 2 ^ 2000
theorem big_abs {b : Int} (h0 : 0 < b) (h : b < BIG) : b.natAbs < 2 ^ 2000 := by
  unfold BIG at h
  exact n_abs h0 h
theorem div_big {i b : Int} (h0 : 0 < b) (h : b < BIG) : CDivW i (2 * b) := by
  have e := big_abs h0 h
  refine wide_div (b := 2001) (by omega) ?_ (by decide) (by decide)
  rw [Int.natAbs_mul, Nat.pow_succ, Nat.mul_comm]
  exact Nat.mul_lt_mul_of_pos_right e (by decide)
def Src (a : Addr) (N : Int) (H : Hp) : Prop := ∃ c0 c1 c2 : Int, H a = some (.lst [.int c0, .int c1, .int c2]) ∧ 0 ≤ c0 ∧ 0 ≤ c1 ∧ c1 < 2 ^ 200 ∧ 0 ≤ c2 ∧ c2 ≤ N
theorem Src.ne {a : Addr} {N : Int} {H : Hp} (s : Src a N H) {p : Addr} (hp : H p = none) : p ≠ a := fun e => by
  obtain ⟨c0, c1, c2, h, _⟩ := s
  rw [e, h] at hp
  cases hp
theorem Src.same {a : Addr} {N : Int} {H H' : Hp} (s : Src a N H) (g : Same H H') : Src a N H' := by
  obtain ⟨c0, c1, c2, h, r⟩ := s
  exact ⟨c0, c1, c2, g _ _ h, r⟩
theorem Src.mono {a : Addr} {N M : Int} {H : Hp} (s : Src a N H) (h : N ≤ M) : Src a M H := by
  obtain ⟨c0, c1, c2, h0, h1, h2, h3, h4, h5⟩ := s
  exact ⟨c0, c1, c2, h0, h1, h2, h3, h4, by omega⟩
theorem same_kp {H H' H2 : Hp} {q : Addr} (e : Same H H') (hq : H q = none) (g : Kp q H' H2) : Same H H2 := fun b o h => g b o (ne_of_none h hq) (e b o h)
def spLaw (K : PySem.W.Frag) : Sp := fun vs H Q _ => ∃ (a : Addr) (ns : List Int), vs = [.ref a] ∧ SqL K H a (ns.map V.int) ∧ ns.length ≤ 63 ∧ ∀ H', Q (.bl true) H'
theorem kp_free {a p : Addr} {H H' : Hp} (g : Kp a H H') (hp : H' p = none) (n : p ≠ a) : H p = none := by
  cases e : H p with
  | none => rfl
  | some o =>
    rw [g p o n e] at hp
    cases hp
/-- all but two are kept -/
def Kp2 (a p : Addr) (H H' : Hp) : Prop := ∀ b o, b ≠ a → b ≠ p → H b = some o → H' b = some o
theorem Kp2.refl (a p : Addr) (H : Hp) : Kp2 a p H H := fun _ _ _ _ h => h
theorem Kp2.go {a p : Addr} {H H1 H2 : Hp} (x : Kp2 a p H H1) (g : Kp a H1 H2) : Kp2 a p H H2 := fun b o n m h => g b o n (x b o n m h)
theorem Kp2.upd {a p : Addr} {H H1 : Hp} {o : HO} (x : Kp2 a p H H1) : Kp2 a p H (upd H1 p o) := fun b u n m h => by
  rw [upd_ne m]
  exact x b u n m h
theorem Kp2.out {a p : Addr} {H0 H H1 : Hp} (x : Kp2 a p H H1) (g : Kp a H0 H) (hp : H0 p = none) : Kp a H0 H1 := fun b o n h => x b o n (ne_of_none h hp) (g b o n h)
theorem Src.upd {a p : Addr} {N : Int} {H : Hp} {o : HO} (s : Src a N H) (h : p ≠ a) : Src a N (upd H p o) := by
  obtain ⟨c0, c1, c2, h0, r⟩ := s
  exact ⟨c0, c1, c2, by rw [upd_ne (Ne.symm h)]; exact h0, r⟩
/-! ### new objects -/
section
variable {H : Hp} {Q : VK} {xs : List V} {a : Addr} {N : Int}
theorem w_new (k : ∀ p H', Same H H' → H p = none → H' p = some (.lst xs) → Q (.ref p) H') (hz : xs.length ≤ 1000000 := by first | decide | (simp only [List.length_cons, List.length_nil]; decide)) : NewL xs H Q :=
  ⟨Nat.le_trans hz (by decide), fun p hp => k p _ (same_upd hp) hp upd_same⟩
theorem w_newT (k : ∀ p H', Same H H' → H p = none → H' p = some (.tup xs) → Q (.ref p) H') (hz : xs.length ≤ 1000000 := by first | decide | (simp only [List.length_cons, List.length_nil]; decide)) : NewT xs H Q :=
  ⟨Nat.le_trans hz (by decide), fun p hp => k p _ (same_upd hp) hp upd_same⟩
theorem w_newS (s : Src a N H) (k : ∀ p H', Kp a H H' → Src a N H' → Lst a H' p xs → Q (.ref p) H') (hz : xs.length ≤ 1000000 := by first | decide | (simp only [List.length_cons, List.length_nil]; decide)) : NewL xs H Q :=
  ⟨Nat.le_trans hz (by decide), fun p hp => k p _ (.of_same (same_upd hp)) (s.same (same_upd hp)) ⟨s.ne hp, upd_same⟩⟩
theorem w_newTS (s : Src a N H) (k : ∀ p H', Kp a H H' → Src a N H' → Tup a H' p xs → Q (.ref p) H') (hz : xs.length ≤ 1000000 := by first | decide | (simp only [List.length_cons, List.length_nil]; decide)) : NewT xs H Q :=
  ⟨Nat.le_trans hz (by decide), fun p hp => k p _ (.of_same (same_upd hp)) (s.same (same_upd hp)) ⟨s.ne hp, upd_same⟩⟩
end
theorem kp_upd {a : Addr} {H : Hp} {o : HO} : Kp a H (upd H a o) := fun b x n h => by rw [upd_ne n]; exact h
/-! ### promises of defs of ints -/
def Sp1 (pre : Int → Prop) (f : Int → V) : Sp := fun vs H Q _ => ∃ i, vs = [.int i] ∧ pre i ∧ ∀ H', Same H H' → Q (f i) H'
def Sp2 (pre : Int → Int → Prop) (f : Int → Int → V) : Sp := fun vs H Q _ => ∃ i j, vs = [.int i, .int j] ∧ pre i j ∧ ∀ H', Same H H' → Q (f i j) H'
def Sp3 (pre : Int → Int → Int → Prop) (f : Int → Int → Int → V) : Sp := fun vs H Q _ => ∃ i j k, vs = [.int i, .int j, .int k] ∧ pre i j k ∧ ∀ H', Same H H' → Q (f i j k) H'
def Sp4 (pre : Int → Int → Int → Int → Prop) (f : Int → Int → Int → Int → V) : Sp := fun vs H Q _ => ∃ i j k l, vs = [.int i, .int j, .int k, .int l] ∧ pre i j k l ∧ ∀ H', Same H H' → Q (f i j k l) H'
theorem Sp1.len {pre f vs H Q E} (h : Sp1 pre f vs H Q E) : vs.length = 1 := by obtain ⟨_, rfl, _⟩ := h; rfl
theorem Sp2.len {pre f vs H Q E} (h : Sp2 pre f vs H Q E) : vs.length = 2 := by obtain ⟨_, _, rfl, _⟩ := h; rfl
theorem Sp3.len {pre f vs H Q E} (h : Sp3 pre f vs H Q E) : vs.length = 3 := by obtain ⟨_, _, _, rfl, _⟩ := h; rfl
theorem Sp4.len {pre f vs H Q E} (h : Sp4 pre f vs H Q E) : vs.length = 4 := by obtain ⟨_, _, _, _, rfl, _⟩ := h; rfl
section
variable {H : Hp} {Q : VK} {E : XK} {i j k l : Int}
theorem w_sp1 {pre : Int → Prop} {f : Int → V} (p : pre i) (q : ∀ H', Same H H' → Q (f i) H') : Sp1 pre f ([.int i] ++ []) H Q E := ⟨i, rfl, p, q⟩
theorem w_sp2 {pre : Int → Int → Prop} {f : Int → Int → V} (p : pre i j) (q : ∀ H', Same H H' → Q (f i j) H') : Sp2 pre f ([.int i, .int j] ++ []) H Q E := ⟨i, j, rfl, p, q⟩
theorem w_sp3 {pre : Int → Int → Int → Prop} {f : Int → Int → Int → V} (p : pre i j k) (q : ∀ H', Same H H' → Q (f i j k) H') : Sp3 pre f ([.int i, .int j, .int k] ++ []) H Q E := ⟨i, j, k, rfl, p, q⟩
theorem w_sp4 {pre : Int → Int → Int → Int → Prop} {f : Int → Int → Int → Int → V} (p : pre i j k l) (q : ∀ H', Same H H' → Q (f i j k l) H') : Sp4 pre f ([.int i, .int j, .int k, .int l] ++ []) H Q E := ⟨i, j, k, l, rfl, p, q⟩
end
/-- a draw -/
def SpDraw : Sp := fun vs H Q _ => ∃ (a : Addr) (N b : Int), vs = [.ref a, .int b] ∧ Src a N H ∧ 0 < b ∧ b < BIG ∧ N < LIM ∧ ∀ r H', 0 ≤ r → r < b → Kp a H H' → Src a (N + 1) H' → Q (.int r) H'
theorem SpDraw.len {vs H Q E} (h : SpDraw vs H Q E) : vs.length = 2 := by obtain ⟨_, _, _, rfl, _⟩ := h; rfl
theorem w_draw {H : Hp} {Q : VK} {E : XK} {a : Addr} {N b : Int} (s : Src a N H) (hb : 0 < b) (hb2 : b < BIG) (hN : N < LIM) (k : ∀ r H', 0 ≤ r → r < b → Kp a H H' → Src a (N + 1) H' → Q (.int r) H') : SpDraw ([.ref a, .int b] ++ []) H Q E :=
  ⟨a, N, b, rfl, s, hb, hb2, hN, k⟩
/-- a source made -/
def SpSource (K : PySem.W.Frag) : Sp := fun vs H Q _ => ∃ (p : Addr) (ns : List Int) (k : Int), vs = [.ref p, .int k] ∧ SqL K H p (ns.map V.int) ∧ 0 ≤ k ∧ k < 1000 ∧ ∀ a H', H a = none → Same H H' → Src a 0 H' → Q (.ref a) H'
theorem w_source {K : PySem.W.Frag} {H : Hp} {Q : VK} {E : XK} {p : Addr} {ns : List Int} {k : Int} (h : SqL K H p (ns.map V.int)) (h0 : 0 ≤ k) (h1 : k < 1000) (q : ∀ a H', H a = none → Same H H' → Src a 0 H' → Q (.ref a) H') : SpSource K ([.ref p, .int k] ++ []) H Q E := ⟨p, ns, k, rfl, h, h0, h1, q⟩
def SpCell (K : PySem.W.Frag) : Sp := fun vs H Q _ => ∃ (p : Addr) (ns : List Int) (k : Int), vs = [.ref p, .int k] ∧ SqL K H p (ns.map V.int) ∧ 0 ≤ k ∧ ∀ (c : Int) H', Same H H' → Q (.int c) H'
theorem w_cell {K : PySem.W.Frag} {H : Hp} {Q : VK} {E : XK} {p : Addr} {ns : List Int} {k : Int} (h : SqL K H p (ns.map V.int)) (h0 : 0 ≤ k) (q : ∀ (c : Int) H', Same H H' → Q (.int c) H') : SpCell K ([.ref p, .int k] ++ []) H Q E := ⟨p, ns, k, rfl, h, h0, q⟩
def SpSourceB : Sp := fun vs H Q _ => ∃ (c k : Int), vs = [.int c, .int k] ∧ 0 ≤ k ∧ k < 1000 ∧ ∀ a H', H a = none → Same H H' → Src a 0 H' → Q (.ref a) H'
theorem w_sourceB {H : Hp} {Q : VK} {E : XK} {c k : Int} (h0 : 0 ≤ k) (h1 : k < 1000) (q : ∀ a H', H a = none → Same H H' → Src a 0 H' → Q (.ref a) H') : SpSourceB ([.int c, .int k] ++ []) H Q E := ⟨c, k, rfl, h0, h1, q⟩
/-! lists read -/
section
variable {K : PySem.W.Frag} {H : Hp} {Q : VK} {p : Addr} {xs : List V} {i : Int} {v : V}
theorem w_ixL (h : SqL K H p xs) (ha : atI xs i = some v) (k : Q v H) : rIxL K (.ref p) (.int i) H Q := ⟨p, xs, i, v, rfl, rfl, h, ha, k⟩
theorem w_ixT (h : SqT K H p xs) (ha : atI xs i = some v) (k : Q v H) : rIxT K (.ref p) (.int i) H Q := ⟨p, xs, i, v, rfl, rfl, h, ha, k⟩
theorem w_len (h : SqL K H p xs) (k : Q (.int xs.length) H) : (fun (xs : List V) H Q => ∃ p ys, xs = [V.ref p] ∧ (SqL K H p ys ∨ SqT K H p ys) ∧ Q (.int ys.length) H) [.ref p] H Q := ⟨p, xs, rfl, .inl h, k⟩
end
section
variable {K : PySem.W.Frag} {H : Hp} {Q : VK} {p q a : Addr} {N : Int} {xs ys : List V} {i : Int}
theorem w_catS (s : Src a N H) (h1 : Lst a H p xs) (h2 : Lst a H q ys) (k : ∀ r H', Kp a H H' → Src a N H' → Lst a H' r (xs ++ ys) → Q (.ref r) H') (hz : xs.length + ys.length ≤ 1000000 := by first | decide | (simp only [List.length_cons, List.length_nil]; decide)) : rCat (.ref p) (.ref q) H Q :=
  ⟨p, q, xs, ys, rfl, rfl, h1.at_, h2.at_, Nat.le_trans hz (by decide), fun r hr => k r _ (.of_same (same_upd hr)) (s.same (same_upd hr)) ⟨s.ne hr, upd_same⟩⟩
theorem w_repS (s : Src a N H) (h1 : Lst a H p xs) (k : ∀ r H', Kp a H H' → Src a N H' → Lst a H' r (List.replicate i.toNat xs).flatten → Q (.ref r) H') (h0 : -(2 ^ 63) ≤ i := by decide) (h3 : i < 2 ^ 63 := by decide) (hz : xs.length * i.toNat ≤ 1000000 := by first | decide | (simp only [List.length_cons, List.length_nil]; decide)) : rRep (.ref p) (.int i) H Q :=
  ⟨p, i, xs, rfl, rfl, h1.at_, h0, h3, Nat.le_trans hz (by decide), fun r hr => k r _ (.of_same (same_upd hr)) (s.same (same_upd hr)) ⟨s.ne hr, upd_same⟩⟩
end
/-- an item at a drawn place -/
theorem pick {α : Type} {xs : List α} {r : Int} (h0 : 0 ≤ r) (h1 : r < (xs.length : Int)) : ∃ v, v ∈ xs ∧ atI xs r = some v := by
  obtain ⟨n, rfl⟩ := Int.eq_ofNat_of_zero_le h0
  have hn : n < xs.length := by omega
  exact ⟨xs[n], List.getElem_mem hn, atI_nat (List.getElem?_eq_getElem hn)⟩
theorem pickI {xs : List Int} {r : Int} (P : Int → Prop) (h0 : 0 ≤ r) (h1 : r < (xs.length : Int)) (hP : ∀ m ∈ xs, P m) : ∃ m, atI (xs.map V.int) r = some (.int m) ∧ P m := by
  obtain ⟨v, hv, e⟩ := pick (xs := xs.map V.int) h0 (by simpa using h1)
  obtain ⟨m, hm, rfl⟩ := List.mem_map.mp hv
  exact ⟨m, e, hP m hm⟩
/-! and of bits -/
section
variable {X : Cx}
theorem op_and1 : OpR X (binaryOp .BitAnd) (rI (fun i j => 0 ≤ i ∧ j = 1) fun i j => .int (i % 2)) := by
  intro pins s σ H x y v u Q I rx ry h
  obtain ⟨i, j, rfl, rfl, ⟨hi, rfl⟩, q⟩ := h
  exact op_andM pins s σ H (.int i) (.int 1) v u Q I rx ry ⟨i, 1, rfl, rfl, by simpa using q⟩
end
/-! built-ins by named readings -/
def rMax2 : List V → Hp → VK → Prop := fun xs H Q => ∃ i j, xs = [.int i, .int j] ∧ Q (.int (if j > i then j else i)) H
def rMin2 : List V → Hp → VK → Prop := fun xs H Q => ∃ i j, xs = [.int i, .int j] ∧ Q (.int (if j < i then j else i)) H
def rAbs : List V → Hp → VK → Prop := fun xs H Q => ∃ i, xs = [.int i] ∧ Q (.int (if i < 0 then -i else i)) H
def rLen (K : PySem.W.Frag) : List V → Hp → VK → Prop := fun xs H Q => ∃ p ys, xs = [.ref p] ∧ (SqL K H p ys ∨ SqT K H p ys) ∧ Q (.int ys.length) H
section
variable {X : Cx}
theorem c_max2 (hc : X.calm = true) : CallR X (.builtin "max") rMax2 := call_max2 hc
theorem c_min2 (hc : X.calm = true) : CallR X (.builtin "min") rMin2 := call_min2 hc
theorem c_abs : CallR X (.builtin "abs") rAbs := call_abs
theorem c_len : CallR X (.builtin "len") (rLen X.K) := call_len_seq
end
section
variable {K : PySem.W.Frag} {H : Hp} {Q : VK} {p : Addr} {xs : List V} {i j : Int}
theorem w_max2 (k : Q (.int (max i j)) H) : rMax2 [.int i, .int j] H Q := ⟨i, j, rfl, by
  have e : (if j > i then j else i) = max i j := by split <;> omega
  rw [e]; exact k⟩
theorem w_min2 (k : Q (.int (min i j)) H) : rMin2 [.int i, .int j] H Q := ⟨i, j, rfl, by
  have e : (if j < i then j else i) = min i j := by split <;> omega
  rw [e]; exact k⟩
theorem w_abs (k : Q (.int (i.natAbs : Int)) H) : rAbs [.int i] H Q := ⟨i, rfl, by
  have e : (if i < 0 then -i else i) = (i.natAbs : Int) := by split <;> omega
  rw [e]; exact k⟩
theorem w_lenL (h : SqL K H p xs) (k : Q (.int xs.length) H) : rLen K [.ref p] H Q := ⟨p, xs, rfl, .inl h, k⟩
theorem w_lenT (h : SqT K H p xs) (k : Q (.int xs.length) H) : rLen K [.ref p] H Q := ⟨p, xs, rfl, .inr h, k⟩
theorem w_isi_ii (k : Q (.bl true) H) : rIsi K [.int i, .ty "int"] H Q := ⟨_, _, _, _, true, rfl, .ty _, .base (.int i), kit_ty (by decide +kernel), k⟩
theorem w_isi_ib (k : Q (.bl false) H) : rIsi K [.int i, .ty "bool"] H Q := ⟨_, _, _, _, false, rfl, .ty _, .base (.int i), kit_ty (by decide +kernel), k⟩
end
@[irreducible] def p2 (k : Int) : Int := 2 ^ k.toNat
theorem p2_pos (k : Int) : 0 < p2 k := by
  unfold p2
  exact Int.pow_pos (by decide)
theorem p2_succ {k : Int} (h : 0 ≤ k) : p2 (k + 1) = 2 * p2 k := by
  unfold p2
  rw [show (k + 1).toNat = k.toNat + 1 by omega, Int.pow_succ]
  omega
theorem p2_zero : p2 0 = 1 := by
  unfold p2
  rfl
theorem p2_add {k l : Int} (h : 0 ≤ k) (h2 : 0 ≤ l) : p2 (k + l) = p2 k * p2 l := by
  unfold p2
  rw [show (k + l).toNat = k.toNat + l.toNat by omega, Int.pow_add]
theorem p2_lt {k l : Int} (h : 0 ≤ k) (h2 : k < l) : p2 k < p2 l := by
  unfold p2
  exact_mod_cast (Nat.pow_lt_pow_right (by decide : 1 < 2) (by omega : k.toNat < l.toNat))
theorem p2_le {k l : Int} (h2 : k ≤ l) : p2 k ≤ p2 l := by
  unfold p2
  exact_mod_cast (Nat.pow_le_pow_right (by decide : 0 < 2) (by omega : k.toNat ≤ l.toNat))

section
variable {X : Cx}
theorem op_shl1 : OpR X (binaryOp .LShift) (rI (fun i j => i = 1 ∧ 0 ≤ j ∧ j ≤ 100000) fun i j => .int (p2 j)) := by
  intro pins s σ H x y v u Q I rx ry h
  obtain ⟨i, j, rfl, rfl, ⟨rfl, h0, h1⟩, q⟩ := h
  exact op_shl pins s σ H (.int 1) (.int j) v u Q I rx ry ⟨1, j, rfl, rfl, ⟨h0, by omega, by decide⟩, by simpa [p2] using q⟩
theorem op_shrP : OpR X (binaryOp .RShift) (rI (fun _ j => 0 ≤ j) fun i j => .int (i / p2 j)) := by
  unfold p2
  exact op_shr
end
/-! loops over ranges -/
def Loop (J : It) (g : TG) (tb : TS) (D : Ends) (σ : L2.St) (H1 : Hp) : Prop := ∃ W : Nat → Nat → L2.St → Hp → Prop, (∃ m, W 0 m σ H1) ∧ ∀ i m σ H, W i m σ H →
  (J.stop i H ∧ D.nx σ H) ∨ (J.go i H ∧ ∃ N : L2.St → Hp → Prop, (∀ σ' H', N σ' H' → ∃ m', m' < m ∧ W (i + 1) m' σ' H') ∧ ∀ x H', J.yld i H x H' → g x σ H' fun σ2 H2 => tb { D with nx := N, ct := N, bk := D.nx } σ2 H2)
section
variable {K : PySem.W.Frag} {σ : L2.St} {H : Hp} {D : Ends} {ta : TA} {tl : TE} {tb : TS} {j : Nat} {g : TG}
theorem w_for1 (k : ta σ H fun vs H1 => ∃ n : Int, vs = [.int n] ∧ -(2 ^ 62) ≤ n ∧ n < 2 ^ 62 ∧ Loop (Itr 0 n.toNat) g tb D σ H1) : tFor (iRng1 ta) g tb D σ H := k
theorem w_for2 (k : ta σ H fun vs H1 => ∃ i n : Int, vs = [.int i, .int n] ∧ (-(2 ^ 62) ≤ i ∧ i < 2 ^ 62 ∧ -(2 ^ 62) ≤ n ∧ n < 2 ^ 62) ∧ Loop (Itr i (n - i).toNat) g tb D σ H1) : tFor (iRng2 ta) g tb D σ H := k
theorem w_forL (k : tl σ H fun x H1 => ∃ a, x = .ref a ∧ (∃ xs, SqL K H1 a xs) ∧ Loop (Itl K a) g tb D σ H1) : tFor (iList K tl) g tb D σ H := k
theorem w_forT (k : tl σ H fun x H1 => ∃ a, x = .ref a ∧ (∃ xs, SqT K H1 a xs) ∧ Loop (Itt K a) g tb D σ H1) : tFor (iTup K tl) g tb D σ H := k
theorem w_rng1 {n : Int} (h1 : -(2 ^ 62) ≤ n) (h2 : n < 2 ^ 62) (Pv : Nat → L2.St → Hp → Prop) (h0 : Pv 0 σ H)
    (hs : ∀ (i : Nat) σ' H', (i : Int) < n → Pv i σ' H' → tb { D with nx := Pv (i + 1), ct := Pv (i + 1), bk := D.nx } (σ'.set j (some (.int (i : Int)))) H') (hd : ∀ σ' H', Pv n.toNat σ' H' → D.nx σ' H') :
    ∃ m : Int, [V.int n] = [.int m] ∧ -(2 ^ 62) ≤ m ∧ m < 2 ^ 62 ∧ Loop (Itr 0 m.toNat) (gName j) tb D σ H := by
  refine ⟨n, rfl, h1, h2, for_range (lo := 0) (n := n.toNat) Pv h0 (fun i σ' H' hi p => ?_) hd⟩
  have e0 : (0 : Int) + (i : Int) = (i : Int) := Int.zero_add _
  show tb { D with nx := Pv (i + 1), ct := Pv (i + 1), bk := D.nx } (σ'.set j (some (.int ((0 : Int) + (i : Int))))) H'
  rw [e0]
  exact hs i σ' H' (by omega) p
theorem w_rng2 {l n : Int} (h1 : -(2 ^ 62) ≤ l) (h2 : l < 2 ^ 62) (h3 : -(2 ^ 62) ≤ n) (h4 : n < 2 ^ 62) (Pv : Nat → L2.St → Hp → Prop) (h0 : Pv 0 σ H)
    (hs : ∀ (i : Nat) σ' H', l + (i : Int) < n → Pv i σ' H' → tb { D with nx := Pv (i + 1), ct := Pv (i + 1), bk := D.nx } (σ'.set j (some (.int (l + (i : Int))))) H') (hd : ∀ σ' H', Pv (n - l).toNat σ' H' → D.nx σ' H') :
    ∃ i m : Int, [V.int l, V.int n] = [.int i, .int m] ∧ (-(2 ^ 62) ≤ i ∧ i < 2 ^ 62 ∧ -(2 ^ 62) ≤ m ∧ m < 2 ^ 62) ∧ Loop (Itr i (m - i).toNat) (gName j) tb D σ H :=
  ⟨l, n, rfl, ⟨h1, h2, h3, h4⟩, for_range (lo := l) (n := (n - l).toNat) Pv h0 (fun i σ' H' hi p => hs i σ' H' (by omega) p) hd⟩
theorem w_lst {a : Addr} {xs : List V} (hx : SqL K H a xs) (Pv : Nat → L2.St → Hp → Prop) (h0 : Pv 0 σ H) (hl : ∀ i σ' H', i ≤ xs.length → Pv i σ' H' → SqL K H' a xs)
    (hs : ∀ i x σ' H', xs[i]? = some x → Pv i σ' H' → g x σ' H' fun σ2 H2 => tb { D with nx := Pv (i + 1), ct := Pv (i + 1), bk := D.nx } σ2 H2) (hd : ∀ σ' H', Pv xs.length σ' H' → D.nx σ' H') :
    ∃ b, V.ref a = .ref b ∧ (∃ xs, SqL K H b xs) ∧ Loop (Itl K b) g tb D σ H := ⟨a, rfl, ⟨xs, hx⟩, for_list Pv h0 hl hs hd⟩
/-- xs.append(e), xs a name -/
theorem w_app {i : Nat} {p : Addr} {te : TE} (h : σ[i]? = some (some (.ref p))) {ys : List V} (hy : H p = some (.lst ys)) (k : te σ H fun y H2 => ∃ xs, H2 p = some (.lst xs) ∧ xs.length < sizeLine ∧ D.nx σ (upd H2 p (.lst (xs ++ [y])))) :
    tDrop (tBM K "list" rAppend (tVar i) (tCons te tNil)) D σ H := by
  refine ⟨.ref p, h, .inl ⟨rfl, ys, .inl (.inl hy)⟩, ?_⟩
  have e : (fun y H2 => ∃ xs, H2 p = some (.lst xs) ∧ xs.length < sizeLine ∧ D.nx σ (upd H2 p (.lst (xs ++ [y])))) = (fun y (H2 : Hp) => rAppend (.ref p) [y] H2 fun _ H3 => D.nx σ H3) := by
    funext y H2
    refine propext ⟨fun ⟨xs, h1, h2, h3⟩ => ⟨p, xs, y, rfl, rfl, h1, h2, h3⟩, fun ⟨l, xs, z, e1, e2, h1, h2, h3⟩ => ?_⟩
    cases e1
    cases e2
    exact ⟨xs, h1, h2, h3⟩
  show te σ H fun y H2 => rAppend (.ref p) [y] H2 fun _ H3 => D.nx σ H3
  rw [← e]
  exact k
/-- while, by a word and a measure -/
theorem w_while {c : TT} (W : Nat → L2.St → Hp → Prop) (m0 : Nat) (h0 : W m0 σ H)
    (hs : ∀ m σ' H', W m σ' H' → c σ' H' fun b H1 => if b = true then ∃ N : L2.St → Hp → Prop, (∀ σ2 H2, N σ2 H2 → ∃ m', m' < m ∧ W m' σ2 H2) ∧ tb { D with nx := N, ct := N, bk := D.nx } σ' H1 else D.nx σ' H1) : tWhile c tb D σ H := ⟨W, ⟨m0, h0⟩, hs⟩
end
end SC

set_option Elab.async false
set_option linter.all false
set_option maxRecDepth 100000
set_option maxHeartbeats 4000000
/-! More steps: keywords, comprehensions, == of lists, sorted, slices. -/
namespace SC
open PySem PySem.Spec PyProof.Rows L2

/-! ### a call by keywords alone -/
section
variable {X : Cx} {CX : CXT} {k n : Nat} {f : Addr} {fd : FuncData} {ps ks : List Str} {sp : Sp} {E : XK} {x : Str} {p pos : Pos} {kws : List Keyword} {t tk : TA} {g : List Value → List Value → List Value} {gV : List V → List V → List V}
theorem pe_callN0 (F : FnOk X.prog X.w X.K X.mg X.base CX k f fd ps sp) (hr : Room k X.A) (hg : Gl X x) (hm : X.mg x = some (.ref f)) (hk : PySem.W.keepIn X.K (.ref f) = true) (hb : KBn X.K fd ps 0 ks g gV) (hx : Passes CX X E)
    (hkw : PK X kws tk) (hall : (backToKw pos (keywordEach kws X.env)).all (·.1.isSome) = true := by rfl) (hks : (backToKw pos (keywordEach kws X.env)).filterMap (·.1) = ks := by rfl)
    (hdb : (x == ("__debug__" : Str)) = false := by decide)
    (hpl : ((backTo pos (starEach [] X.env)).any (·.1) || (backToKw pos (keywordEach kws X.env)).any (·.1.isNone)) = false := by rfl) :
    PE X (.Call (.Name x p) [] kws pos) (tCallN 0 ks.length sp gV E tNil tk) := by
  refine ⟨fun pins s σ H Q I h => ?_⟩
  refine wpAny_Call_Name_kw (ld_glob I hg hm ?_ hdb)
  refine PySem.W.callWith_KW0 (h₀ := X.base) I.ok.mod.kin hk hall ?_ hpl
  refine thn (hkw.run pos pins s σ H _ I h) fun ws s2 ⟨zs, H2, I2, rz, l1, l2, q2⟩ => ⟨I2.kIn, ?_⟩
  rw [hks]
  exact run_fnN (us := []) F hr hb hx I2 .nil rz l1 l2 q2
end
/-- the values by their places among the given ones -/
def pickBy {A : Type} (d : A) (idx : List Nat) (us ws : List A) : List A := idx.map fun i => (us ++ ws).getD i d
theorem vals_getD : ∀ {xs : List V} {us : List Value} (i : Nat), Vals xs us → RelV (xs.getD i .non) (us.getD i .none)
  | [], _, i, .nil => by simp only [List.getD_nil]; exact rfl
  | x :: xs, u :: us, 0, .cons r _ => r
  | x :: xs, u :: us, i + 1, .cons _ r => by
    simp only [List.getD_cons_succ]
    exact vals_getD i r
theorem vals_pick {vs zs : List V} {us ws : List Value} (r : Vals vs us) (rz : Vals zs ws) : ∀ idx : List Nat, Vals (pickBy .non idx vs zs) (pickBy .none idx us ws)
  | [] => .nil
  | i :: idx => .cons (vals_getD i (r.append rz)) (vals_pick r rz idx)
section
variable {σ : L2.St} {H : Hp} {Q : VK} {t tk : TA} {sp : Sp} {E : XK} {n m : Nat} {gV : List V → List V → List V}
def CallN (n m : Nat) (sp : Sp) (gV : List V → List V → List V) (E : XK) (vs zs : List V) (H : Hp) (Q : VK) : Prop := vs.length = n ∧ zs.length = m ∧ sp (gV vs zs) H Q E
theorem w_callN (k : t σ H fun vs H1 => tk σ H1 fun zs H2 => CallN n m sp gV E vs zs H2 Q) : tCallN n m sp gV E t tk σ H Q := k
theorem w_kw {vs zs ws : List V} (hg : gV vs zs = ws) (k : sp (ws ++ []) H Q E) (h1 : vs.length = n := by rfl) (h2 : zs.length = m := by rfl) : CallN n m sp gV E vs zs H Q := ⟨h1, h2, by rw [hg]; rw [List.append_nil] at k; exact k⟩
end

theorem at_int {ns : List Int} {i : Nat} {x : V} (h : (ns.map V.int)[i]? = some x) : ∃ z, ns[i]? = some z ∧ x = V.int z := by
  rw [List.getElem?_map] at h
  cases e : ns[i]? with
  | none => rw [e] at h; cases h
  | some z => rw [e] at h; exact ⟨z, rfl, (Option.some.inj h).symm⟩
/-! ### data -/
theorem dp_ints {K : PySem.W.Frag} {H : Hp} : ∀ ns : List Int, DpAll K H (ns.map V.int) (ns.map PyData.int)
  | [] => .nil
  | n :: ns => .cons (.int n) (dp_ints ns)
theorem lay_ints : ∀ ns : List Int, PyData.canLayAll0 (ns.map PyData.int) = true
  | [] => rfl
  | n :: ns => by simp only [List.map_cons, PyData.canLayAll0, PyData.canLay0, lay_ints ns, Bool.and_self]
theorem dep_ints : ∀ ns : List Int, PyData.depthAll (ns.map PyData.int) ≤ 1
  | [] => by simp [PyData.depthAll]
  | n :: ns => by
    have := dep_ints ns
    simp only [List.map_cons, PyData.depthAll, PyData.depth]
    omega
theorem shaped_ints (ns : List Int) : SeqAt.shaped (.list (ns.map PyData.int)) = true := by
  unfold SeqAt.shaped
  have h1 := lay_ints ns
  have h2 := dep_ints ns
  rw [Bool.and_eq_true]
  refine ⟨by simpa only [PyData.canLay0] using h1, decide_eq_true ?_⟩
  simp only [PyData.depth]
  omega
section
variable {K : PySem.W.Frag} {H : Hp} {Q : VK} {p q : Addr} {xs ys : List Int} {v u : V} {d : PyData}
theorem eqv_ints (ns : List Int) : PyData.eqv (.list (ns.map PyData.int)) (.list (ns.map PyData.int)) = true := SeqAt.eqv_refl _ (SeqAt.canLay_of_shaped (shaped_ints ns))
/-- two equal lists of ints -/
theorem w_eqLs (h1 : SqL K H p (xs.map V.int)) (h2 : SqL K H q (ys.map V.int)) (e : xs = ys) (k : Q (.bl true) H) : rEqD K (.ref p) (.ref q) H Q := by
  subst e
  refine ⟨_, _, .lst h1 (dp_ints xs), .lst h2 (dp_ints xs), shaped_ints _, shaped_ints _, ?_⟩
  rw [eqv_ints]
  exact k
theorem w_neLs (h1 : SqL K H p (xs.map V.int)) (h2 : SqL K H q (ys.map V.int)) (e : xs = ys) (k : Q (.bl false) H) : rNeD K (.ref p) (.ref q) H Q := by
  subst e
  refine ⟨_, _, .lst h1 (dp_ints xs), .lst h2 (dp_ints xs), shaped_ints _, shaped_ints _, ?_⟩
  rw [eqv_ints]
  exact k
theorem w_eqDs (h1 : Dp K H v d) (h2 : Dp K H u d) (sh : SeqAt.shaped d = true) (k : Q (.bl true) H) : rEqD K v u H Q := by
  refine ⟨_, _, h1, h2, sh, sh, ?_⟩
  rw [SeqAt.eqv_refl _ (SeqAt.canLay_of_shaped sh)]
  exact k
theorem w_neDs (h1 : Dp K H v d) (h2 : Dp K H u d) (sh : SeqAt.shaped d = true) (k : Q (.bl false) H) : rNeD K v u H Q := by
  refine ⟨_, _, h1, h2, sh, sh, ?_⟩
  rw [SeqAt.eqv_refl _ (SeqAt.canLay_of_shaped sh)]
  exact k
end
/-! ### comprehensions -/
def LcB (J : It) (g : TG) (tt : TT) (te : TE) (vs : List Nat) (σ : L2.St) (H1 : Hp) (Q : VK) : Prop := ∀ D, H1 D = none → ∃ W : Nat → Nat → Hp → Prop, (∃ m, W 0 m (upd H1 D (.lst []))) ∧ ∀ i m H, W i m H →
  (J.stop i H ∧ Q (.ref D) H) ∨ (J.go i H ∧ ∃ Nx : Hp → Prop, (∀ H', Nx H' → ∃ m', m' < m ∧ W (i + 1) m' H') ∧ ∀ x H', J.yld i H x H' → g x (wipe σ vs) H' fun σ2 H2 => wipe σ2 vs = wipe σ vs ∧ tt σ2 H2 fun b H3 =>
    if b = true then te σ2 H3 fun y H4 => ∃ acc, H4 D = some (.lst acc) ∧ acc.length < sizeLine ∧ Nx (upd H4 D (.lst (acc ++ [y]))) else Nx H3)
section
variable {K : PySem.W.Frag} {σ : L2.St} {H : Hp} {Q : VK} {ta : TA} {tl te : TE} {vs : List Nat} {j : Nat} {g : TG} {tt : TT}
theorem w_lc1 (k : ta σ H fun vs1 H1 => ∃ n : Int, vs1 = [.int n] ∧ -(2 ^ 62) ≤ n ∧ n < 2 ^ 62 ∧ LcB (Itr 0 n.toNat) g tt te vs σ H1 Q) : tLc (iRng1 ta) g tt te vs σ H Q := k
theorem w_lc2 (k : ta σ H fun vs1 H1 => ∃ i n : Int, vs1 = [.int i, .int n] ∧ (-(2 ^ 62) ≤ i ∧ i < 2 ^ 62 ∧ -(2 ^ 62) ≤ n ∧ n < 2 ^ 62) ∧ LcB (Itr i (n - i).toNat) g tt te vs σ H1 Q) : tLc (iRng2 ta) g tt te vs σ H Q := k
theorem w_lcL (k : tl σ H fun x H1 => ∃ a, x = .ref a ∧ (∃ xs, SqL K H1 a xs) ∧ LcB (Itl K a) g tt te vs σ H1 Q) : tLc (iList K tl) g tt te vs σ H Q := k
/-- over a range; what the element is, leaving all that was -/
theorem w_lcr1 {n : Int} (f : Nat → V) (h1 : 0 ≤ n) (h2 : n ≤ 1000000) (hw : ∀ x, wipe ((wipe σ vs).set j (some x)) vs = wipe σ vs)
    (he : ∀ (i : Nat) H', (i : Int) < n → Same H H' → ∀ R : VK, (∀ H2, Same H' H2 → R (f i) H2) → te ((wipe σ vs).set j (some (.int (i : Int)))) H' R)
    (k : ∀ p H', Same H H' → H p = none → H' p = some (.lst ((List.range n.toNat).map f)) → Q (.ref p) H') :
    ∃ m : Int, [V.int n] = [.int m] ∧ -(2 ^ 62) ≤ m ∧ m < 2 ^ 62 ∧ LcB (Itr 0 m.toNat) (gName j) tYes te vs σ H Q := by
  refine ⟨n, rfl, by omega, by omega, fun D hD => ?_⟩
  refine lc_range (lo := 0) (n := n.toNat) (fun i H' => Same H H' ∧ H' D = some (.lst ((List.range i).map f))) ⟨same_upd hD, upd_same⟩ (fun i H' hi p => ?_) (fun H' p => k D H' p.1 hD p.2)
  have e0 : (0 : Int) + (i : Int) = (i : Int) := Int.zero_add _
  show wipe ((wipe σ vs).set j (some (.int ((0 : Int) + (i : Int))))) vs = wipe σ vs ∧ te ((wipe σ vs).set j (some (.int ((0 : Int) + (i : Int))))) H' _
  rw [e0]
  refine ⟨hw _, he i H' (by omega) p.1 _ fun H2 s2 => ⟨_, s2 _ _ p.2, ?_, fun b o hb => ?_, ?_⟩⟩
  · rw [List.length_map, List.length_range]
    exact Nat.lt_of_lt_of_le (show i < 1000000 by omega) (by decide)
  · rw [upd_ne (ne_of_none hb hD)]
    exact s2 _ _ (p.1 _ _ hb)
  · rw [upd_same, List.range_succ, List.map_append]
    rfl
theorem w_lcr2 {l n : Int} (f : Nat → V) (h0 : -1000000 ≤ l) (h1 : l ≤ n) (h2 : n ≤ 1000000) (h3 : n - l ≤ 1000000) (hw : ∀ x, wipe ((wipe σ vs).set j (some x)) vs = wipe σ vs)
    (he : ∀ (i : Nat) H', l + (i : Int) < n → Same H H' → ∀ R : VK, (∀ H2, Same H' H2 → R (f i) H2) → te ((wipe σ vs).set j (some (.int (l + (i : Int))))) H' R)
    (k : ∀ p H', Same H H' → H p = none → H' p = some (.lst ((List.range (n - l).toNat).map f)) → Q (.ref p) H') :
    ∃ i m : Int, [V.int l, V.int n] = [.int i, .int m] ∧ (-(2 ^ 62) ≤ i ∧ i < 2 ^ 62 ∧ -(2 ^ 62) ≤ m ∧ m < 2 ^ 62) ∧ LcB (Itr i (m - i).toNat) (gName j) tYes te vs σ H Q := by
  refine ⟨l, n, rfl, ⟨by omega, by omega, by omega, by omega⟩, fun D hD => ?_⟩
  refine lc_range (lo := l) (n := (n - l).toNat) (fun i H' => Same H H' ∧ H' D = some (.lst ((List.range i).map f))) ⟨same_upd hD, upd_same⟩ (fun i H' hi p => ?_) (fun H' p => k D H' p.1 hD p.2)
  show wipe ((wipe σ vs).set j (some (.int (l + (i : Int))))) vs = wipe σ vs ∧ te ((wipe σ vs).set j (some (.int (l + (i : Int))))) H' _
  refine ⟨hw _, he i H' (by omega) p.1 _ fun H2 s2 => ⟨_, s2 _ _ p.2, ?_, fun b o hb => ?_, ?_⟩⟩
  · rw [List.length_map, List.length_range]
    exact Nat.lt_of_lt_of_le (show i < 1000000 by omega) (by decide)
  · rw [upd_ne (ne_of_none hb hD)]
    exact s2 _ _ (p.1 _ _ hb)
  · rw [upd_same, List.range_succ, List.map_append]
    rfl
/-- over a list -/
theorem w_lcl {a : Addr} {xs : List V} (f : Nat → V) (hs : SqL K H a xs) (hz : xs.length ≤ 1000000) (hw : ∀ x, wipe ((wipe σ vs).set j (some x)) vs = wipe σ vs)
    (he : ∀ (i : Nat) x H', xs[i]? = some x → Same H H' → ∀ R : VK, (∀ H2, Same H' H2 → R (f i) H2) → te ((wipe σ vs).set j (some x)) H' R)
    (k : ∀ p H', Same H H' → H p = none → H' p = some (.lst ((List.range xs.length).map f)) → Q (.ref p) H') :
    ∃ b, V.ref a = .ref b ∧ (∃ xs, SqL K H b xs) ∧ LcB (Itl K b) (gName j) tYes te vs σ H Q := by
  refine ⟨a, rfl, ⟨xs, hs⟩, fun D hD => ?_⟩
  refine lc_list (xs := xs) (fun i H' => Same H H' ∧ H' D = some (.lst ((List.range i).map f))) ⟨same_upd hD, upd_same⟩ (fun i H' _ p => p.1.seq hs) (fun i x H' hi p => ?_) (fun H' p => k D H' p.1 hD p.2)
  show wipe ((wipe σ vs).set j (some x)) vs = wipe σ vs ∧ te ((wipe σ vs).set j (some x)) H' _
  refine ⟨hw _, he i x H' hi p.1 _ fun H2 s2 => ⟨_, s2 _ _ p.2, ?_, fun b o hb => ?_, ?_⟩⟩
  · have hi2 := (List.getElem?_eq_some_iff.mp hi).1
    rw [List.length_map, List.length_range]
    exact Nat.lt_of_lt_of_le (show i < 1000000 by omega) (by decide)
  · rw [upd_ne (ne_of_none hb hD)]
    exact s2 _ _ (p.1 _ _ hb)
  · rw [upd_same, List.range_succ, List.map_append]
    rfl
end
/-! ### list(range), slices, sorted, range by steps -/
section
variable {K : PySem.W.Frag} {σ : L2.St} {H : Hp} {Q : VK} {ta : TA} {te tb : TE} {tl th : TO} {p : Addr} {xs : List V} {ns : List Int} {i j : Int} {lo hi : Option Int}
def LstRg (a b : Int) (H1 : Hp) (Q : VK) : Prop := RgOk a b ∧ ∀ q, H1 q = none → Q (.ref q) (upd H1 q (.lst (rgV a b)))
theorem w_lrg1 (k : te σ H fun x H1 => ∃ n, x = .int n ∧ LstRg 0 n H1 Q) : tLstRg (tRg1 te) σ H Q := k
theorem w_lrg2 (k : te σ H fun x H1 => tb σ H1 fun y H2 => ∃ i j, x = .int i ∧ y = .int j ∧ LstRg i j H2 Q) : tLstRg (tRg2 te tb) σ H Q := k
theorem w_rg1 {n : Int} (h0 : 0 ≤ n) (h1 : n ≤ 1000000) (k : ∀ q H', Same H H' → H q = none → H' q = some (.lst (((List.range n.toNat).map fun i : Nat => (i : Int)).map V.int)) → Q (.ref q) H') : ∃ m, V.int n = .int m ∧ LstRg 0 m H Q :=
  ⟨n, rfl, RgOk.of_le (by decide) (by omega) (by decide) h0, fun q hq => k q _ (same_upd hq) hq (by
    rw [upd_same]
    unfold rgV
    rw [List.map_map]
    congr 3
    · funext i
      show V.int (0 + (i : Int)) = V.int (i : Int)
      rw [Int.zero_add]
    · rw [Int.sub_zero])⟩
theorem w_slice {r : V → Option Int → Option Int → Hp → VK → Prop} (k : te σ H fun x H1 => tl σ H1 fun l H2 => th σ H2 fun u H3 => r x l u H3 Q) : tSl r te tl th σ H Q := k
theorem w_nopart {R : Option Int → Hp → Prop} (k : R none H) : tNoPart σ H R := k
theorem w_part {R : Option Int → Hp → Prop} (k : te σ H fun x H1 => ∃ i, x = .int i ∧ R (some i) H1) : tPart te σ H R := k
theorem w_isi {R : Int → Prop} (k : R i) : ∃ n, V.int i = .int n ∧ R n := ⟨i, rfl, k⟩
theorem w_sl (h : SqL K H p xs) (k : ∀ q H', Same H H' → H q = none → H' q = some (.lst (cutV xs lo hi)) → Q (.ref q) H') : rSlL K (.ref p) lo hi H Q := ⟨p, xs, rfl, h, fun q hq => k q _ (same_upd hq) hq upd_same⟩
theorem w_sorted (h : SqL K H p (ns.map V.int)) (k : ∀ (ms : List Int) q H', ms.Perm ns → ms.Pairwise (· ≤ ·) → Same H H' → H q = none → H' q = some (.lst (ms.map V.int)) → Q (.ref q) H') : rSortedI K [.ref p] H Q :=
  ⟨p, ns, rfl, h, fun ms q hp hs hq => k ms q _ hp hs (same_upd hq) hq upd_same⟩
theorem w_cat {q : Addr} {ys : List V} (h1 : H p = some (.lst xs)) (h2 : H q = some (.lst ys)) (hz : xs.length + ys.length ≤ 1000000) (k : ∀ r H', Same H H' → H r = none → H' r = some (.lst (xs ++ ys)) → Q (.ref r) H') : rCat (.ref p) (.ref q) H Q :=
  ⟨p, q, xs, ys, rfl, rfl, h1, h2, Nat.le_trans hz (by decide), fun r hr => k r _ (same_upd hr) hr upd_same⟩
theorem w_rep (h1 : H p = some (.lst xs)) (h0 : -(2 ^ 63) ≤ i) (h3 : i < 2 ^ 63) (hz : xs.length * i.toNat ≤ 1000000) (k : ∀ r H', Same H H' → H r = none → H' r = some (.lst (List.replicate i.toNat xs).flatten) → Q (.ref r) H') : rRep (.ref p) (.int i) H Q :=
  ⟨p, i, xs, rfl, rfl, h1, h0, h3, Nat.le_trans hz (by decide), fun r hr => k r _ (same_upd hr) hr upd_same⟩
end
section
variable {σ : L2.St} {H : Hp} {D : Ends} {ta : TA} {tb : TS} {j : Nat} {g : TG}
theorem w_for3 (k : ta σ H fun vs H1 => ∃ (i j c : Int) (n : Nat), vs = [.int i, .int j, .int c] ∧ RgC i j c n ∧ Loop (Itc i c n) g tb D σ H1) : tFor (iRng3 ta) g tb D σ H := k
theorem w_rng3 {l n c : Int} (m : Nat) (hr : RgC l n c m) (Pv : Nat → L2.St → Hp → Prop) (h0 : Pv 0 σ H)
    (hs : ∀ (i : Nat) σ' H', i < m → Pv i σ' H' → tb { D with nx := Pv (i + 1), ct := Pv (i + 1), bk := D.nx } (σ'.set j (some (.int (l + (i : Int) * c)))) H') (hd : ∀ σ' H', Pv m σ' H' → D.nx σ' H') :
    ∃ (i j' c' : Int) (n' : Nat), [V.int l, V.int n, V.int c] = [.int i, .int j', .int c'] ∧ RgC i j' c' n' ∧ Loop (Itc i c' n') (gName j) tb D σ H :=
  ⟨l, n, c, m, rfl, hr, for_rangeC Pv h0 (fun i σ' H' hi p => hs i σ' H' hi p) hd⟩
theorem w_par3 {a b c : Nat} {trA : TA} (k : trA σ H fun vs H1 => ∃ u v w, vs = [u, v, w] ∧ D.nx (((σ.set a (some u)).set b (some v)).set c (some w)) H1) : tPar3 a b c trA D σ H := k
theorem w_three {u v w : V} {A : V → V → V → Prop} (k : A u v w) : ∃ a b c, [u, v, w] = [a, b, c] ∧ A a b c := ⟨u, v, w, rfl, k⟩
end
end SC

set_option Elab.async false
set_option linter.all false
set_option maxHeartbeats 1000000
/-! The bracket by numbers: plain mathematics. -/
namespace SC
open L2
/-- a seed of a cup of twice h players, told in the cup of h players -/
def fold1 (h s : Int) : Int := if h < s then 2 * h + 1 - s else s
/-- the block numbers of s in a cup of k rounds, level by level -/
def wy (k s : Int) : Nat → Int
  | 0 => s
  | r + 1 => fold1 (p2 (k - 1 - r)) (wy k s r)
/-- its place, bit by bit -/
def pl (k s : Int) : Nat → Int
  | 0 => 0
  | r + 1 => if p2 (k - 1 - r) < wy k s r then pl k s r + p2 r else pl k s r
/-- the seed at a place, round by round -/
def sd (k p : Int) : Nat → Int
  | 0 => 1
  | d + 1 => if p / p2 (k - (1 + d)) % 2 = 1 then p2 (1 + d) + 1 - sd k p d else sd k p d
def turned (b r c : Int) : Int := if r % 2 = 0 then c else b + 1 - c
/-- the number of the block in which s stands, of m blocks -/
def blk (m s : Int) : Int := turned m ((s - 1) / m) ((s - 1) % m + 1)
def seedAt (k p : Int) : Int := sd k p k.toNat
def placeOf (k s : Int) : Int := pl k s k.toNat

theorem p2_half {k : Int} (h : 0 < k) : p2 k = 2 * p2 (k - 1) := by
  have := p2_succ (k := k - 1) (by omega)
  rwa [show k - 1 + 1 = k by omega] at this
theorem p2_abs {k : Int} {n : Nat} (h : k < n) (h0 : 0 < n) : (p2 k).natAbs < 2 ^ n := by
  unfold p2
  rw [Int.natAbs_pow]
  exact Nat.pow_lt_pow_right (by decide) (by omega)
theorem p2_div {i k : Int} (h : k ≤ 1000) : CDivW i (p2 k) := wide_div (p2_pos _) (p2_abs (n := 1001) (by omega) (by decide)) (by decide) (by decide)
theorem mul_small {i l r : Int} (h0 : 0 ≤ i) (h1 : i < p2 l) (h2 : l ≤ 1000) (h3 : r - l ≤ 1000) : CMulX i (p2 (r - l)) :=
  mulx_ok (a := 1001) (b := 1001) (Nat.lt_of_le_of_lt (by omega) (p2_abs (n := 1001) (show l < (1001 : Nat) by omega) (by decide))) (p2_abs (by omega) (by decide)) (by decide)
theorem p2_lim {k : Int} (h : k ≤ 1000) : p2 k < BIG := by
  unfold BIG
  have h1 := p2_abs (k := k) (n := 1001) (by omega) (by decide)
  have h2 := p2_pos k
  have h3 : (2 : Nat) ^ 1001 < 2 ^ 2000 := Nat.pow_lt_pow_right (by decide) (by decide)
  have h4 : ((p2 k).natAbs : Int) < ((2 ^ 2000 : Nat) : Int) := by exact_mod_cast Nat.lt_trans h1 h3
  rw [Int.natAbs_of_nonneg (by omega)] at h4
  simpa using h4
theorem small_lim {b : Int} (h : b ≤ 1000000) : b < BIG := Int.lt_of_le_of_lt h (by decide +kernel)
theorem mul_rem {x y k : Int} (h : 0 < p2 k) (hk : k ≤ 900) : CMulX (x % (2 * p2 k)) (y % (2 * p2 k)) := by
  have a := p2_abs (k := k) (n := 1000) (by omega) (by decide)
  have e : ∀ z : Int, (z % (2 * p2 k)).natAbs < 2 ^ 1001 := fun z => by
    have h1 := Int.emod_nonneg z (b := 2 * p2 k) (by omega)
    have h2 := Int.emod_lt_of_pos z (b := 2 * p2 k) (by omega)
    have h3 : (2 : Nat) ^ 1001 = 2 * 2 ^ 1000 := by rw [Nat.pow_succ]; omega
    rw [h3]
    omega
  exact mulx_ok (e x) (e y) (by decide)
theorem wy_range {k s : Int} (h1 : 1 ≤ s) (h2 : s ≤ p2 k) : ∀ r : Nat, (r : Int) ≤ k → 1 ≤ wy k s r ∧ wy k s r ≤ p2 (k - r)
  | 0, _ => by simpa [wy] using ⟨h1, h2⟩
  | r + 1, hr => by
    have ih := wy_range h1 h2 r (by omega)
    have e : p2 (k - r) = 2 * p2 (k - 1 - r) := by
      rw [p2_half (by omega)]
      congr 2
      omega
    have e2 : p2 (k - ((r + 1 : Nat) : Int)) = p2 (k - 1 - r) := by congr 1; omega
    simp only [wy, fold1]
    rw [e2]
    split <;> omega
theorem pl_range (k s : Int) : ∀ r : Nat, 0 ≤ pl k s r ∧ pl k s r < p2 r
  | 0 => by simp [pl, p2]
  | r + 1 => by
    have ih := pl_range k s r
    have e : p2 ((r + 1 : Nat) : Int) = 2 * p2 r := by
      have := p2_succ (k := (r : Int)) (by omega)
      rw [← this]; congr 1
    rw [e]
    simp only [pl]
    split <;> omega
theorem pl_bit {k s : Int} : ∀ (r j : Nat), j < r → (pl k s r / p2 j % 2 = 1 ↔ p2 (k - 1 - j) < wy k s j)
  | 0, j, h => by omega
  | r + 1, j, h => by
    by_cases hj : j = r
    · subst hj
      have ra := pl_range k s j
      have pp := p2_pos (j : Int)
      simp only [pl]
      split
      · rename_i hb
        simp only [hb, iff_true]
        rw [show pl k s j + p2 j = pl k s j + 1 * p2 j by omega, Int.add_mul_ediv_right _ _ (by omega), Int.ediv_eq_zero_of_lt ra.1 ra.2]
        decide
      · rename_i hb
        simp only [hb, iff_false]
        rw [Int.ediv_eq_zero_of_lt ra.1 ra.2]
        decide
    · have ih := pl_bit (k := k) (s := s) r j (by omega)
      rw [← ih]
      simp only [pl]
      split
      · have e : p2 (r : Int) = p2 ((r - j - 1 : Nat) : Int) * 2 * p2 (j : Int) := by
          have h1 := p2_add (k := ((r - j : Nat) : Int)) (l := (j : Int)) (by omega) (by omega)
          have h2 := p2_succ (k := ((r - j - 1 : Nat) : Int)) (by omega)
          rw [show ((r - j : Nat) : Int) + (j : Int) = r by omega] at h1
          rw [show ((r - j - 1 : Nat) : Int) + 1 = ((r - j : Nat) : Int) by omega] at h2
          rw [h1, h2, Int.mul_comm 2]
        rw [e, Int.add_mul_ediv_right _ _ (by have := p2_pos (j : Int); omega), Int.add_mul_emod_self_right]
      · exact Iff.rfl
theorem sd_back {k s : Int} (h1 : 1 ≤ s) (h2 : s ≤ p2 k) (hk : 0 ≤ k) : ∀ d : Nat, (d : Int) ≤ k → sd k (placeOf k s) d = wy k s (k.toNat - d)
  | 0, _ => by
    have := wy_range h1 h2 k.toNat (by omega)
    rw [show k - (k.toNat : Int) = 0 by omega, p2_zero] at this
    simp only [sd, Nat.sub_zero]
    omega
  | d + 1, hd => by
    have ih := sd_back h1 h2 hk d (by omega)
    have hj : k.toNat - d = k.toNat - (d + 1) + 1 := by omega
    have hb := pl_bit (k := k) (s := s) k.toNat (k.toNat - (d + 1)) (by omega)
    have e1 : k - (1 + (d : Int)) = ((k.toNat - (d + 1) : Nat) : Int) := by omega
    have e2 : k - 1 - ((k.toNat - (d + 1) : Nat) : Int) = d := by omega
    have ra := wy_range h1 h2 (k.toNat - (d + 1)) (by omega)
    have e3 : p2 (k - ((k.toNat - (d + 1) : Nat) : Int)) = p2 (1 + (d : Int)) := by congr 1; omega
    have e4 : p2 (1 + (d : Int)) = 2 * p2 d := by rw [Int.add_comm, p2_succ (by omega)]
    rw [e2] at hb
    rw [hj] at ih
    simp only [wy, fold1] at ih
    rw [e2] at ih
    have hb' : placeOf k s / p2 (k - (1 + (d : Int))) % 2 = 1 ↔ p2 (d : Int) < wy k s (k.toNat - (d + 1)) := by
      rw [e1]; exact hb
    simp only [sd]
    by_cases hc : p2 (d : Int) < wy k s (k.toNat - (d + 1))
    · rw [if_pos hc] at ih
      rw [if_pos (hb'.mpr hc), ih]
      omega
    · rw [if_neg hc] at ih
      rw [if_neg (fun z => hc (hb'.mp z)), ih]
/-- seed_at undoes place_of -/
theorem seed_place {k s : Int} (h1 : 1 ≤ s) (h2 : s ≤ p2 k) (hk : 0 ≤ k) : seedAt k (placeOf k s) = s := by
  have := sd_back h1 h2 hk k.toNat (by omega)
  rw [Nat.sub_self] at this
  exact this
theorem place_range (k s : Int) (hk : 0 ≤ k) : 0 ≤ placeOf k s ∧ placeOf k s < p2 k := by
  have := pl_range k s k.toNat
  rwa [show (k.toNat : Int) = k by omega] at this

/-- rows and columns -/
theorem blk_fold {m s : Int} (hm : 0 < m) (hs : 1 ≤ s) : blk m s = fold1 m (blk (2 * m) s) := by
  have d1 := Int.emod_add_mul_ediv (s - 1) (2 * m)
  have n1 := Int.emod_nonneg (s - 1) (b := 2 * m) (by omega)
  have l1 := Int.emod_lt_of_pos (s - 1) (b := 2 * m) (by omega)
  generalize hq : (s - 1) / (2 * m) = q at d1
  generalize ht : (s - 1) % (2 * m) = t at d1 n1 l1
  unfold blk turned fold1
  rw [hq, ht]
  by_cases c : t < m
  · have e1 : (s - 1) / m = 2 * q := by
      rw [← d1, show t + 2 * m * q = t + (2 * q) * m by rw [Int.mul_comm 2 m, Int.mul_assoc, Int.mul_comm m], Int.add_mul_ediv_right _ _ (by omega), Int.ediv_eq_zero_of_lt n1 c]
      omega
    have e2 : (s - 1) % m = t := by
      rw [← d1, show t + 2 * m * q = t + (2 * q) * m by rw [Int.mul_comm 2 m, Int.mul_assoc, Int.mul_comm m], Int.add_mul_emod_self_right, Int.emod_eq_of_lt n1 c]
    rw [e1, e2]
    split <;> split <;> split <;> omega
  · have e1 : (s - 1) / m = 2 * q + 1 := by
      rw [← d1, show t + 2 * m * q = (t - m) + (2 * q + 1) * m by rw [Int.mul_comm 2 m, Int.mul_assoc, Int.mul_comm m, Int.add_mul]; omega, Int.add_mul_ediv_right _ _ (by omega), Int.ediv_eq_zero_of_lt (by omega) (by omega)]
      omega
    have e2 : (s - 1) % m = t - m := by
      rw [← d1, show t + 2 * m * q = (t - m) + (2 * q + 1) * m by rw [Int.mul_comm 2 m, Int.mul_assoc, Int.mul_comm m, Int.add_mul]; omega, Int.add_mul_emod_self_right, Int.emod_eq_of_lt (by omega) (by omega)]
    rw [e1, e2]
    split <;> split <;> split <;> omega
theorem blk_top {m s : Int} (h1 : 1 ≤ s) (h2 : s ≤ m) : blk m s = s := by
  unfold blk turned
  have e1 : (s - 1) / m = 0 := Int.ediv_eq_zero_of_lt (by omega) (by omega)
  have e2 : (s - 1) % m = s - 1 := Int.emod_eq_of_lt (by omega) (by omega)
  rw [e1, e2]
  split <;> omega
theorem wy_blk {k s : Int} (h1 : 1 ≤ s) (h2 : s ≤ p2 k) : ∀ r : Nat, (r : Int) ≤ k → wy k s r = blk (p2 (k - r)) s
  | 0, _ => by
    simp only [wy]
    rw [blk_top h1 (by simpa using h2)]
  | r + 1, hr => by
    have ih := wy_blk h1 h2 r (by omega)
    have e : p2 (k - r) = 2 * p2 (k - 1 - r) := by
      rw [p2_half (by omega)]
      congr 2
      omega
    have e2 : p2 (k - ((r + 1 : Nat) : Int)) = p2 (k - 1 - r) := by congr 1; omega
    simp only [wy]
    rw [ih, e, e2]
    exact (blk_fold (p2_pos _) h1).symm
theorem blk_range {m s : Int} (hm : 0 < m) : 1 ≤ blk m s ∧ blk m s ≤ m := by
  have n1 := Int.emod_nonneg (s - 1) (b := m) (by omega)
  have l1 := Int.emod_lt_of_pos (s - 1) hm
  unfold blk turned
  split <;> omega
/-- the member with an index, and back -/
def mem (m b i : Int) : Int := i * m + turned m i b
theorem mem_parts {m b i : Int} (hm : 0 < m) (hb : 1 ≤ b) (hb2 : b ≤ m) : (mem m b i - 1) / m = i ∧ blk m (mem m b i) = b := by
  unfold mem blk
  have key : ∀ c : Int, 1 ≤ c → c ≤ m → (i * m + c - 1) / m = i ∧ (i * m + c - 1) % m = c - 1 := fun c h1 h2 => by
    have e : i * m + c - 1 = (c - 1) + i * m := by omega
    rw [e, Int.add_mul_ediv_right _ _ (by omega), Int.add_mul_emod_self_right, Int.ediv_eq_zero_of_lt (by omega) (by omega), Int.emod_eq_of_lt (by omega) (by omega)]
    omega
  by_cases c : i % 2 = 0
  · have e : turned m i b = b := if_pos c
    rw [e]
    obtain ⟨k1, k2⟩ := key b hb hb2
    rw [k1, k2]
    refine ⟨rfl, ?_⟩
    unfold turned
    rw [if_pos c]
    omega
  · have e : turned m i b = m + 1 - b := if_neg c
    rw [e]
    obtain ⟨k1, k2⟩ := key (m + 1 - b) (by omega) (by omega)
    rw [k1, k2]
    refine ⟨rfl, ?_⟩
    unfold turned
    rw [if_neg c]
    omega
theorem mem_back {m s : Int} (hm : 0 < m) : mem m (blk m s) ((s - 1) / m) = s := by
  have d1 := Int.emod_add_mul_ediv (s - 1) m
  unfold mem blk turned
  rw [Int.mul_comm] at d1
  split <;> omega
theorem mem_range {m n b i : Int} (hm : 0 < m) (hb : 1 ≤ b) (hb2 : b ≤ m) (hi : 0 ≤ i) (hn : i < n) : 1 ≤ mem m b i ∧ mem m b i ≤ n * m := by
  have h1 : 0 ≤ i * m := Int.mul_nonneg hi (by omega)
  have h2 : (i + 1) * m ≤ n * m := Int.mul_le_mul_of_nonneg_right (by omega) (by omega)
  rw [Int.add_mul] at h2
  unfold mem turned
  split <;> omega
/-- an index counted by the two remainders -/
theorem counted {m s : Int} (hm : 0 < m) : (s - blk m s) / (2 * m) + 1 + ((s - (2 * m + 1 - blk m s)) / (2 * m) + 1) - 1 = (s - 1) / m ∧ (s - blk m s) % (2 * m) * ((s + blk m s - 1) % (2 * m)) = 0 := by
  have d1 := Int.emod_add_mul_ediv (s - 1) m
  have n1 := Int.emod_nonneg (s - 1) (b := m) (by omega)
  have l1 := Int.emod_lt_of_pos (s - 1) hm
  unfold blk turned
  generalize (s - 1) / m = r at *
  generalize (s - 1) % m = c at *
  have key : ∀ q t x : Int, 0 ≤ t → t < 2 * m → x = t + q * (2 * m) → x / (2 * m) = q ∧ x % (2 * m) = t := fun q t x h0 h1 e => by
    rw [e, Int.add_mul_ediv_right _ _ (by omega), Int.add_mul_emod_self_right, Int.ediv_eq_zero_of_lt h0 h1, Int.emod_eq_of_lt h0 h1]
    omega
  have hr := Int.emod_add_mul_ediv r 2
  split
  · rename_i hc
    have er : r = 2 * (r / 2) := by omega
    generalize r / 2 = q at *
    subst er
    have e : m * (2 * q) = q * (2 * m) := by rw [Int.mul_comm m, Int.mul_assoc, Int.mul_left_comm]
    rw [e] at d1
    have a := key q 0 (s - (c + 1)) (by omega) (by omega) (by omega)
    have b := key (q - 1) (2 * c + 1) (s - (2 * m + 1 - (c + 1))) (by omega) (by omega) (by rw [Int.sub_mul]; omega)
    rw [a.1, b.1, a.2, Int.zero_mul]
    omega
  · rename_i hc
    have er : r = 2 * (r / 2) + 1 := by omega
    generalize r / 2 = q at *
    subst er
    have e : m * (2 * q + 1) = q * (2 * m) + m := by rw [Int.mul_add, Int.mul_one, Int.mul_comm m, Int.mul_assoc, Int.mul_left_comm]
    rw [e] at d1
    have a := key q (2 * c + 1) (s - (m + 1 - (c + 1))) (by omega) (by omega) (by omega)
    have b := key q 0 (s - (2 * m + 1 - (m + 1 - (c + 1)))) (by omega) (by omega) (by omega)
    have d := key (q + 1) 0 (s + (m + 1 - (c + 1)) - 1) (by omega) (by omega) (by rw [Int.add_mul]; omega)
    rw [a.1, b.1, d.2, Int.mul_zero]
    omega
/-- the last seed of the list -/
def lst : Nat → Int
  | 0 => 1
  | d + 1 => 2 * p2 d + 1 - lst d
theorem lst_range : ∀ d : Nat, 1 ≤ lst d ∧ lst d ≤ p2 d
  | 0 => by simp [lst, p2]
  | d + 1 => by
    have ih := lst_range d
    have e : p2 ((d + 1 : Nat) : Int) = 2 * p2 d := by
      have := p2_succ (k := (d : Int)) (by omega)
      rw [← this]; congr 1
    simp only [lst]
    omega
theorem wy_lst {k : Int} (hk : 0 ≤ k) : ∀ r : Nat, (r : Int) ≤ k → wy k (lst k.toNat) r = lst (k.toNat - r) ∧ pl k (lst k.toNat) r = p2 r - 1
  | 0, _ => ⟨rfl, by simp [pl, p2]⟩
  | r + 1, hr => by
    obtain ⟨i1, i2⟩ := wy_lst hk r (by omega)
    have ej : k.toNat - r = (k.toNat - (r + 1)) + 1 := by omega
    have e1 : k - 1 - (r : Int) = ((k.toNat - (r + 1) : Nat) : Int) := by omega
    have e : p2 ((r + 1 : Nat) : Int) = 2 * p2 r := by
      have := p2_succ (k := (r : Int)) (by omega)
      rw [← this]; congr 1
    have ra := lst_range (k.toNat - (r + 1))
    have c : p2 (k - 1 - r) < wy k (lst k.toNat) r := by
      rw [i1, ej, e1]
      simp only [lst]
      omega
    simp only [wy, pl, fold1]
    rw [if_pos c, if_pos c, i2, e, i1, ej, e1]
    simp only [lst]
    omega
theorem seed_last {k : Int} (hk : 0 ≤ k) : seedAt k (p2 k - 1) = lst k.toNat ∧ placeOf k (lst k.toNat) = p2 k - 1 := by
  have h := (wy_lst hk k.toNat (by omega)).2
  have ra := lst_range k.toNat
  rw [show (k.toNat : Int) = k by omega] at h ra
  have hp : placeOf k (lst k.toNat) = p2 k - 1 := h
  refine ⟨?_, hp⟩
  rw [← hp]
  exact seed_place ra.1 ra.2 hk
end SC

set_option Elab.async false
set_option linter.all false
set_option maxHeartbeats 1000000
/-! The bracket as a list, its parts, their members in order. -/
namespace SC
open L2
/-- each seed by itself and its new partner -/
def ext (m : Int) (s : Int) : Nat → List Int
  | 0 => [s]
  | h + 1 => (ext m s h).flatMap fun x => [x, 2 * p2 (m + h) + 1 - x]
def brk (n : Nat) : List Int := ext 0 1 n
theorem ext_len (m s : Int) : ∀ h, (ext m s h).length = 2 ^ h
  | 0 => rfl
  | h + 1 => by
    have ih := ext_len m s h
    have key : ∀ l : List Int, (l.flatMap fun x => [x, 2 * p2 (m + h) + 1 - x]).length = 2 * l.length := fun l => by
      induction l with
      | nil => rfl
      | cons a r ih => simp only [List.flatMap_cons, List.length_append, List.length_cons, List.length_nil, ih]; omega
    rw [show ext m s (h + 1) = (ext m s h).flatMap fun x => [x, 2 * p2 (m + h) + 1 - x] from rfl, key, ih, Nat.pow_succ, Nat.mul_comm]
theorem ext_two (m s : Int) : ∀ a b, ext m s (a + b) = (ext m s a).flatMap fun x => ext (m + a) x b
  | a, 0 => by
    show ext m s a = _
    simp only [ext]
    induction ext m s a with
    | nil => rfl
    | cons x r ih => rw [List.flatMap_cons, ← ih]; rfl
  | a, b + 1 => by
    have ih := ext_two m s a b
    show (ext m s (a + b)).flatMap (fun x => [x, 2 * p2 (m + ((a + b : Nat) : Int)) + 1 - x]) = _
    rw [ih, List.flatMap_assoc]
    congr 1
    funext x
    show _ = (ext (m + a) x b).flatMap fun y => [y, 2 * p2 (m + a + b) + 1 - y]
    rw [show m + ((a + b : Nat) : Int) = m + a + b by omega]
theorem blk_mirror {m x n : Int} (hm : 0 < m) : blk m (2 * (n * m) + 1 - x) = blk m x := by
  have d1 := Int.emod_add_mul_ediv (x - 1) m
  have n1 := Int.emod_nonneg (x - 1) (b := m) (by omega)
  have l1 := Int.emod_lt_of_pos (x - 1) hm
  unfold blk turned
  generalize (x - 1) / m = r at *
  generalize (x - 1) % m = c at *
  have e : 2 * (n * m) + 1 - x - 1 = (m - 1 - c) + (2 * n - r - 1) * m := by
    rw [Int.sub_mul, Int.sub_mul, Int.mul_assoc, Int.one_mul, ← Int.mul_comm m r]
    omega
  have e1 : (2 * (n * m) + 1 - x - 1) / m = 2 * n - r - 1 := by
    rw [e, Int.add_mul_ediv_right _ _ (by omega), Int.ediv_eq_zero_of_lt (by omega) (by omega), Int.zero_add]
  have e2 : (2 * (n * m) + 1 - x - 1) % m = m - 1 - c := by
    rw [e, Int.add_mul_emod_self_right, Int.emod_eq_of_lt (by omega) (by omega)]
  rw [e1, e2]
  split <;> split <;> omega
theorem ext_in {m s : Int} (hm : 0 ≤ m) (h1 : 1 ≤ s) (h2 : s ≤ p2 m) : ∀ h : Nat, ∀ x ∈ ext m s h, (1 ≤ x ∧ x ≤ p2 (m + h)) ∧ blk (p2 m) x = s
  | 0, x, hx => by
    simp only [ext, List.mem_cons, List.not_mem_nil, or_false] at hx
    subst hx
    refine ⟨⟨h1, by simpa using h2⟩, blk_top h1 h2⟩
  | h + 1, x, hx => by
    simp only [ext, List.mem_flatMap, List.mem_cons, List.not_mem_nil, or_false] at hx
    obtain ⟨y, hy, hx⟩ := hx
    obtain ⟨r, b⟩ := ext_in hm h1 h2 h y hy
    have e : p2 (m + ((h + 1 : Nat) : Int)) = 2 * p2 (m + h) := by
      rw [← p2_succ (by omega)]
      congr 1
      omega
    have e2 : p2 (m + h) = p2 h * p2 m := by rw [Int.add_comm, p2_add (by omega) hm]
    rcases hx with rfl | rfl
    · exact ⟨⟨r.1, by omega⟩, b⟩
    · refine ⟨⟨by omega, by omega⟩, ?_⟩
      rw [e2, blk_mirror (p2_pos m), b]
theorem ext_nd {m s : Int} (hm : 0 ≤ m) (h1 : 1 ≤ s) (h2 : s ≤ p2 m) : ∀ h : Nat, (ext m s h).Nodup
  | 0 => by simp [ext]
  | h + 1 => by
    have ih := ext_nd hm h1 h2 h
    have ra := ext_in hm h1 h2 h
    simp only [ext]
    generalize ext m s h = l at ih ra
    induction l with
    | nil => simp
    | cons a r il =>
      rw [List.flatMap_cons]
      have i2 := il (List.nodup_cons.mp ih).2 (fun x hx => ra x (List.mem_cons_of_mem _ hx))
      have na := (List.nodup_cons.mp ih).1
      have ea := (ra a (List.mem_cons_self ..)).1
      rw [List.nodup_append]
      refine ⟨?_, i2, fun x hx y hy => ?_⟩
      · simp only [List.nodup_cons, List.mem_cons, List.not_mem_nil, or_false, not_false_iff, List.nodup_nil, and_true]
        omega
      · simp only [List.mem_flatMap, List.mem_cons, List.not_mem_nil, or_false] at hx hy
        obtain ⟨z, hz, hy⟩ := hy
        have ez := (ra z (List.mem_cons_of_mem _ hz)).1
        have nz : a ≠ z := fun q => na (q ▸ hz)
        omega
/-- the members in ascending order -/
def mems (m b : Int) (n : Nat) : List Int := (List.range n).map fun i : Nat => mem m b (i : Int)
theorem mems_len (m b : Int) (n : Nat) : (mems m b n).length = n := by simp [mems]
theorem mems_at {m b : Int} {n : Nat} {j : Int} (h0 : 0 ≤ j) (h : j < n) : atI ((mems m b n).map V.int) j = some (.int (mem m b j)) := by
  obtain ⟨k, rfl⟩ := Int.eq_ofNat_of_zero_le h0
  refine atI_nat ?_
  unfold mems
  rw [List.map_map, List.getElem?_map, List.getElem?_range (by omega)]
  rfl
theorem mems_last {m b : Int} {n : Nat} (h : 0 < n) : atI ((mems m b n).map V.int) (-1) = some (.int (mem m b ((n : Int) - 1))) := by
  obtain ⟨k, rfl⟩ : ∃ k, n = k + 1 := ⟨n - 1, by omega⟩
  unfold mems
  rw [List.range_succ, List.map_append, List.map_append]
  rw [show (((k + 1 : Nat) : Int) - 1) = (k : Int) by omega]
  exact atI_last _ _
theorem mem_zero {m b : Int} : mem m b 0 = b := by
  unfold mem turned
  simp
theorem pow_p2 {h : Int} (h0 : 0 ≤ h) : ((2 ^ h.toNat : Nat) : Int) = p2 h := by
  unfold p2
  simp
theorem rgc_pow {m c : Nat} (hm : 0 < m) (hc : 0 < c) (hm2 : m ≤ 2 ^ 5) (hc2 : c ≤ 2 ^ 5) : RgC 0 ((m * c : Nat) : Int) (c : Int) m := by
  have e : ((m * c : Nat) : Int) = (m : Int) * (c : Int) := by push_cast; rfl
  have e2 : ((m : Int) * (c : Int) - 0 - 1) / (c : Int) + 1 = m := by
    rw [show (m : Int) * (c : Int) - 0 - 1 = ((c : Int) - 1) + ((m : Int) - 1) * (c : Int) by rw [Int.sub_mul]; omega, Int.add_mul_ediv_right _ _ (by omega), Int.ediv_eq_zero_of_lt (by omega) (by omega)]
    omega
  have e3 : (0 : Int) < (m : Int) * (c : Int) := Int.mul_pos (by omega) (by omega)
  have e4 : m * c ≤ 2 ^ 5 * 2 ^ 5 := Nat.mul_le_mul hm2 hc2
  have sz : PySem.Builtin.Range.rangeSize 0 ((m * c : Nat) : Int) (c : Int) = m := by
    unfold PySem.Builtin.Range.rangeSize
    rw [if_pos (by omega), e, if_pos e3, e2]
  refine ⟨by omega, by omega, ?_, sz⟩
  unfold PySem.Builtin.Range.small
  rw [sz]
  simp only [PySem.Builtin.Range.rangeFitsLong, Bool.and_eq_true, Bool.or_eq_true, decide_eq_true_eq, beq_iff_eq, if_pos (show (c : Int) > 0 by omega)]
  omega
theorem cut_part {xs : List V} {lo hi : Int} {a b : Nat} (ea : lo = (a : Int)) (eb : hi = (b : Int)) (h : a ≤ b) (hb : b ≤ xs.length) : cutV xs (some lo) (some hi) = (xs.drop a).take (b - a) := by
  subst ea eb
  unfold cutV
  rw [HT.sIx_nat, HT.sIx_nat]
  simp only [Nat.min_eq_left hb, Nat.min_eq_left (Nat.le_trans h hb)]
theorem idx_strict {m b x y : Int} (hm : 0 < m) (hx : blk m x = b) (hy : blk m y = b) (h : x < y) : (x - 1) / m < (y - 1) / m := by
  have h1 : (x - 1) / m ≤ (y - 1) / m := Int.ediv_le_ediv hm (by omega)
  have h2 : (x - 1) / m ≠ (y - 1) / m := fun e => by
    have a := mem_back (m := m) (s := x) hm
    have c := mem_back (m := m) (s := y) hm
    rw [hx, e] at a
    rw [hy] at c
    omega
  omega
/-- a rising list of as many numbers from lo on, below lo + their count, is that range -/
theorem rising_range : ∀ (l : List Int) (lo : Int), l.Pairwise (· < ·) → (∀ x ∈ l, lo ≤ x ∧ x < lo + l.length) → l = (List.range l.length).map fun i : Nat => lo + (i : Int)
  | [], lo, _, _ => rfl
  | a :: r, lo, hp, hb => by
    have hp2 := List.pairwise_cons.mp hp
    have ea : a = lo ∨ lo < a := by
      have := (hb a (List.mem_cons_self ..)).1
      omega
    have key : ∀ (l : List Int) (c : Int), l.Pairwise (· < ·) → (∀ x ∈ l, c < x) → ∀ d : Int, (∀ x ∈ l, x < d) → l ≠ [] → c + l.length < d := by
      intro l
      induction l with
      | nil => intro c _ _ d _ h; exact absurd rfl h
      | cons x t it =>
        intro c hp hc d hd _
        have q := List.pairwise_cons.mp hp
        have cx := hc x (List.mem_cons_self ..)
        by_cases ht : t = []
        · subst ht
          have := hd x (List.mem_cons_self ..)
          simp
          omega
        · have := it x q.2 q.1 d (fun y hy => hd y (List.mem_cons_of_mem _ hy)) ht
          simp
          omega
    have al : a = lo := by
      rcases ea with e | e
      · exact e
      · exfalso
        have := key (a :: r) lo hp (fun x hx => by
          rcases List.mem_cons.mp hx with rfl | hx
          · exact e
          · have := hp2.1 x hx; omega) (lo + ((a :: r).length : Int)) (fun x hx => (hb x hx).2) (by simp)
        omega
    subst al
    have ih := rising_range r (a + 1) hp2.2 (fun x hx => by
      have h1 := hp2.1 x hx
      have h2 := (hb x (List.mem_cons_of_mem _ hx)).2
      simp at h2
      omega)
    rw [List.length_cons, List.range_succ_eq_map, List.map_cons, List.map_map]
    congr 1
    · simp
    · conv => lhs; rw [ih]
      apply List.map_congr_left
      intro i _
      show a + 1 + (i : Int) = a + ((i + 1 : Nat) : Int)
      omega
/-- a part in order -/
theorem part_sorted {m s : Int} (hm : 0 ≤ m) (h1 : 1 ≤ s) (h2 : s ≤ p2 m) {h : Nat} {l : List Int} (hp : l.Perm (ext m s h)) (hs : l.Pairwise (· ≤ ·)) : l = mems (p2 m) s (2 ^ h) := by
  have mp := p2_pos m
  have nd : l.Nodup := (List.Perm.nodup_iff hp).mpr (ext_nd hm h1 h2 h)
  have inn : ∀ x ∈ l, (1 ≤ x ∧ x ≤ p2 (m + h)) ∧ blk (p2 m) x = s := fun x hx => ext_in hm h1 h2 h x (hp.mem_iff.mp hx)
  have len : l.length = 2 ^ h := by rw [hp.length_eq, ext_len]
  have st : l.Pairwise (· < ·) := by
    have q := hs.and nd
    refine q.imp ?_
    intro a b hab
    have := hab.1
    have := hab.2
    omega
  have e2 : p2 (m + h) = p2 h * p2 m := by rw [Int.add_comm, p2_add (by omega) hm]
  have e3 : p2 (h : Int) = ((2 ^ h : Nat) : Int) := by
    unfold p2
    simp
  have ri : (l.map fun x => (x - 1) / p2 m).Pairwise (· < ·) := by
    rw [List.pairwise_map]
    refine st.imp_of_mem ?_
    intro a b ha hb hab
    exact idx_strict mp (inn a ha).2 (inn b hb).2 hab
  have rr := rising_range (l.map fun x => (x - 1) / p2 m) 0 ri (fun x hx => by
    obtain ⟨y, hy, rfl⟩ := List.mem_map.mp hx
    have r := (inn y hy).1
    refine ⟨Int.ediv_nonneg (by omega) (by omega), ?_⟩
    rw [List.length_map, len, Int.zero_add, ← e3]
    exact Int.ediv_lt_of_lt_mul mp (by omega))
  rw [List.length_map, len] at rr
  have e : l = (l.map fun x => (x - 1) / p2 m).map fun i => mem (p2 m) s i := by
    rw [List.map_map]
    conv => lhs; rw [← List.map_id l]
    apply List.map_congr_left
    intro x hx
    have b := mem_back (m := p2 m) (s := x) mp
    rw [(inn x hx).2] at b
    exact b.symm
  rw [e, rr, List.map_map]
  unfold mems
  apply List.map_congr_left
  intro i _
  show mem (p2 m) s (0 + (i : Int)) = _
  rw [Int.zero_add]
/-- the list cut into parts of the same length -/
theorem cut_parts {f : Int → List Int} {z : Nat} : ∀ (l : List Int) (j : Nat) (x : Int), (∀ y, (f y).length = z) → l[j]? = some x → ((l.flatMap f).drop (j * z)).take z = f x
  | [], j, x, _, h => by simp at h
  | a :: r, 0, x, hz, h => by
    have e : a = x := Option.some.inj h
    subst e
    rw [List.flatMap_cons, Nat.zero_mul, List.drop_zero, List.take_append_of_le_length (by rw [hz]; exact Nat.le_refl _), ← hz a, List.take_length]
  | a :: r, j + 1, x, hz, h => by
    have ih := cut_parts r j x hz h
    have ej : (j + 1) * z = (f a).length + j * z := by rw [Nat.add_mul, hz]; omega
    rw [List.flatMap_cons, ej, List.drop_append]
    rw [List.drop_eq_nil_of_le (by omega), Nat.add_sub_cancel_left, List.nil_append]
    exact ih
theorem brk_len (n : Nat) : (brk n).length = 2 ^ n := ext_len 0 1 n
theorem brk_in (n : Nat) : ∀ x ∈ brk n, 1 ≤ x ∧ x ≤ p2 n := fun x hx => by
  have := (ext_in (m := 0) (s := 1) (by decide) (by decide) (by rw [p2_zero]; decide) n x hx).1
  simpa using this
/-- the part at j of the level h of the bracket of n rounds -/
theorem brk_part {n h j : Nat} (hn : h ≤ n) (hj : j < 2 ^ (n - h)) : ∃ s, (1 ≤ s ∧ s ≤ p2 ((n - h : Nat) : Int)) ∧ ((brk n).drop (j * 2 ^ h)).take (2 ^ h) = ext ((n - h : Nat) : Int) s h := by
  have hl : j < (brk (n - h)).length := by rw [brk_len]; exact hj
  refine ⟨(brk (n - h))[j], brk_in _ _ (List.getElem_mem hl), ?_⟩
  have e : brk n = (brk (n - h)).flatMap fun x => ext (0 + ((n - h : Nat) : Int)) x h := by
    have := ext_two 0 1 (n - h) h
    rw [show n - h + h = n by omega] at this
    exact this
  rw [e, Int.zero_add]
  exact cut_parts (f := fun x => ext ((n - h : Nat) : Int) x h) _ j _ (fun y => ext_len _ _ _) (List.getElem?_eq_getElem hl)
end SC

set_option Elab.async false
set_option linter.all false
set_option maxHeartbeats 1000000
/-! Meetings: triangular numbers, blocks, places. -/
namespace SC
open L2
/-! ### bits of natural numbers -/
theorem dvd_or {r a b : Nat} : (a ||| b) % 2 ^ r = 0 ↔ a % 2 ^ r = 0 ∧ b % 2 ^ r = 0 := by
  rw [Nat.or_mod_two_pow]
  constructor
  · intro h
    exact ⟨by have := Nat.left_le_or (n := a % 2 ^ r) (m := b % 2 ^ r); omega, by have := Nat.right_le_or (n := a % 2 ^ r) (m := b % 2 ^ r); omega⟩
  · rintro ⟨h1, h2⟩
    rw [h1, h2]
    rfl
theorem dvd_xor {r a b : Nat} : (a ^^^ b) % 2 ^ r = 0 ↔ a % 2 ^ r = b % 2 ^ r := by
  rw [Nat.xor_mod_two_pow]
  constructor
  · intro h
    have e : (a % 2 ^ r ^^^ b % 2 ^ r) ^^^ b % 2 ^ r = a % 2 ^ r := by rw [Nat.xor_assoc, Nat.xor_self, Nat.xor_zero]
    rw [h, Nat.zero_xor] at e
    exact e.symm
  · intro h
    rw [h, Nat.xor_self]
theorem and_pred : ∀ (x : Nat), 0 < x → ∃ v, x - (x &&& (x - 1)) = 2 ^ v ∧ ∀ r, x % 2 ^ r = 0 ↔ r ≤ v := by
  intro x
  induction x using Nat.strongRecOn with
  | ind x ih =>
    intro hx
    have h1 : (x &&& (x - 1)) / 2 = x / 2 &&& (x - 1) / 2 := Nat.and_div_two
    have h2 : (x &&& (x - 1)) % 2 = 0 := by
      have h3 := Nat.and_mod_two_eq_one (a := x) (b := x - 1)
      omega
    by_cases c : x % 2 = 1
    · refine ⟨0, ?_, fun r => ?_⟩
      · have e : (x - 1) / 2 = x / 2 := by omega
        rw [e, Nat.and_self] at h1
        have := Nat.and_le_left (n := x) (m := x - 1)
        show _ = 1
        omega
      · constructor
        · intro h
          by_cases z : r = 0
          · omega
          · exfalso
            obtain ⟨k, rfl⟩ : ∃ k, r = k + 1 := ⟨r - 1, by omega⟩
            have : x % 2 = 0 := by
              have d := Nat.dvd_of_mod_eq_zero h
              exact Nat.mod_eq_zero_of_dvd (Nat.dvd_trans ⟨2 ^ k, by rw [Nat.pow_succ, Nat.mul_comm]⟩ d)
            omega
        · intro h
          obtain rfl : r = 0 := by omega
          simp [Nat.mod_one]
    · obtain ⟨v, e1, e2⟩ := ih (x / 2) (by omega) (by omega)
      have e : (x - 1) / 2 = x / 2 - 1 := by omega
      rw [e] at h1
      refine ⟨v + 1, ?_, fun r => ?_⟩
      · rw [Nat.pow_succ, ← e1]
        have := Nat.and_le_left (n := x / 2) (m := x / 2 - 1)
        omega
      · cases r with
        | zero => simp [Nat.mod_one]
        | succ r =>
          have := e2 r
          rw [Nat.pow_succ, Nat.mul_comm, Nat.mod_mul]
          omega
/-! ### triangular numbers -/
def tri (s : Int) : Int := s * (s - 1) / 2
theorem tri_two (s : Int) : 2 * tri s = s * (s - 1) := by
  have h : s * (s - 1) % 2 = 0 := by
    rw [Int.mul_emod]
    have : s % 2 = 0 ∨ s % 2 = 1 := by omega
    rcases this with h | h
    · rw [h]; simp
    · rw [show (s - 1) % 2 = 0 by omega]; simp
  unfold tri
  omega
theorem tri_nn {s : Int} (h : 1 ≤ s) : 0 ≤ tri s := by
  have h1 := tri_two s
  have h2 : 0 ≤ s * (s - 1) := Int.mul_nonneg (by omega) (by omega)
  omega
theorem tri_diff (a b : Int) : 2 * (tri a - tri b) = (a - b) * (a + b - 1) := by
  have h1 := tri_two a
  have h2 := tri_two b
  have e : (a - b) * (a + b - 1) = a * (a - 1) - b * (b - 1) := by
    rw [Int.sub_mul, Int.mul_sub, Int.mul_sub, Int.mul_sub, Int.mul_sub, Int.mul_add, Int.mul_add, Int.mul_comm b a]
    omega
  omega
/-- an even power divides a product with one odd factor as it divides the other -/
theorem dvd_odd {x y : Int} (hy : y % 2 = 1) : ∀ j : Nat, (2 ^ j : Int) ∣ x * y → (2 ^ j : Int) ∣ x
  | 0, _ => ⟨x, by simp⟩
  | j + 1, h => by
    have h0 : (2 ^ j : Int) ∣ x * y := Int.dvd_trans ⟨2, by rw [Int.pow_succ]⟩ h
    obtain ⟨c, hc⟩ := dvd_odd hy j h0
    obtain ⟨d, hd⟩ := h
    rw [hc, Int.pow_succ, Int.mul_assoc, Int.mul_assoc] at hd
    have hp : (2 ^ j : Int) ≠ 0 := Int.ne_of_gt (Int.pow_pos (by decide))
    have e : c * y = 2 * d := Int.eq_of_mul_eq_mul_left hp hd
    have : c % 2 = 0 := by
      have q : c * y % 2 = 0 := by rw [e]; omega
      rw [Int.mul_emod, hy] at q
      omega
    refine ⟨c / 2, ?_⟩
    rw [hc, Int.pow_succ, Int.mul_assoc]
    congr 1
    omega
theorem tri_dvd {a b : Int} (j : Nat) : (2 ^ j : Int) ∣ tri a - tri b ↔ (2 ^ (j + 1) : Int) ∣ a - b ∨ (2 ^ (j + 1) : Int) ∣ a + b - 1 := by
  have td := tri_diff a b
  have up : (2 ^ j : Int) ∣ tri a - tri b ↔ (2 ^ (j + 1) : Int) ∣ (a - b) * (a + b - 1) := by
    rw [← td, Int.pow_succ, Int.mul_comm]
    exact (Int.mul_dvd_mul_iff_left (by decide)).symm
  rw [up]
  constructor
  · intro h
    by_cases c : (a + b - 1) % 2 = 1
    · exact .inl (dvd_odd c _ h)
    · rw [Int.mul_comm] at h
      exact .inr (dvd_odd (by omega) _ h)
  · rintro (h | h)
    · exact Int.dvd_trans h ⟨_, rfl⟩
    · exact Int.dvd_trans h ⟨_, Int.mul_comm _ _⟩
/-- blocks by remainders -/
theorem blk_eq {m a b : Int} (hm : 0 < m) : blk m a = blk m b ↔ 2 * m ∣ a - b ∨ 2 * m ∣ a + b - 1 := by
  have d1 := Int.emod_add_mul_ediv (a - 1) m
  have n1 := Int.emod_nonneg (a - 1) (b := m) (by omega)
  have l1 := Int.emod_lt_of_pos (a - 1) hm
  have d2 := Int.emod_add_mul_ediv (b - 1) m
  have n2 := Int.emod_nonneg (b - 1) (b := m) (by omega)
  have l2 := Int.emod_lt_of_pos (b - 1) hm
  unfold blk turned
  generalize (a - 1) / m = r at *
  generalize (a - 1) % m = c at *
  generalize (b - 1) / m = t at *
  generalize (b - 1) % m = e at *
  have key : ∀ (x : Int) (q : Int) (u : Int), x = u + q * (2 * m) → -(2 * m) < u → u < 2 * m → (2 * m ∣ x ↔ u = 0) := fun x q u hx h1 h2 => by
    rw [hx]
    constructor
    · rintro ⟨w, hw⟩
      have h3 : u = (w - q) * (2 * m) := by rw [Int.sub_mul, Int.mul_comm w]; omega
      by_cases z : w - q = 0
      · rw [z] at h3; omega
      · exfalso
        by_cases p : 0 < w - q
        · have := Int.mul_le_mul_of_nonneg_right (show 1 ≤ w - q by omega) (show 0 ≤ 2 * m by omega)
          omega
        · have := Int.mul_le_mul_of_nonneg_right (show w - q ≤ -1 by omega) (show 0 ≤ 2 * m by omega)
          omega
    · intro h
      exact ⟨q, by rw [h, Int.zero_add, Int.mul_comm]⟩
  have hr : r = 2 * (r / 2) + r % 2 := by omega
  have ht : t = 2 * (t / 2) + t % 2 := by omega
  have er : m * r = (r / 2) * (2 * m) + (r % 2) * m := by
    conv => lhs; rw [hr]
    rw [Int.mul_add, Int.mul_comm m (r % 2), Int.mul_comm m, Int.mul_assoc, Int.mul_left_comm]
  have et : m * t = (t / 2) * (2 * m) + (t % 2) * m := by
    conv => lhs; rw [ht]
    rw [Int.mul_add, Int.mul_comm m (t % 2), Int.mul_comm m, Int.mul_assoc, Int.mul_left_comm]
  have r2 : r % 2 = 0 ∨ r % 2 = 1 := by omega
  have t2 : t % 2 = 0 ∨ t % 2 = 1 := by omega
  generalize r / 2 = p at *
  generalize t / 2 = q at *
  rcases r2 with r2 | r2 <;> rcases t2 with t2 | t2 <;> rw [r2] at er <;> rw [t2] at et <;> simp only [r2, t2, if_true, if_false, show ¬ ((1 : Int) = 0) by decide]
  · rw [key (a - b) (p - q) (c - e) (by rw [Int.sub_mul]; omega) (by omega) (by omega), key (a + b - 1) (p + q) (c + e + 1) (by rw [Int.add_mul]; omega) (by omega) (by omega)]
    omega
  · rw [key (a - b) (p - q) (c - e - m) (by rw [Int.sub_mul]; omega) (by omega) (by omega), key (a + b - 1) (p + q + 1) (c + e + 1 - m) (by rw [Int.add_mul, Int.add_mul]; omega) (by omega) (by omega)]
    omega
  · rw [key (a - b) (p - q) (c - e + m) (by rw [Int.sub_mul]; omega) (by omega) (by omega), key (a + b - 1) (p + q + 1) (c + e + 1 - m) (by rw [Int.add_mul, Int.add_mul]; omega) (by omega) (by omega)]
    omega
  · rw [key (a - b) (p - q) (c - e) (by rw [Int.sub_mul]; omega) (by omega) (by omega), key (a + b - 1) (p + q + 1) (c + e + 1) (by rw [Int.add_mul, Int.add_mul]; omega) (by omega) (by omega)]
    omega
theorem tri_blk {a b : Int} (j : Nat) : (2 ^ j : Int) ∣ tri a - tri b ↔ blk (p2 j) a = blk (p2 j) b := by
  rw [tri_dvd, blk_eq (p2_pos _)]
  have e : (2 * p2 (j : Int) : Int) = 2 ^ (j + 1) := by
    unfold p2
    rw [Int.toNat_natCast, Int.pow_succ, Int.mul_comm]
  rw [e]
/-! ### the least common level -/
def dif (ss : List Int) (s0 : Int) : Nat := ss.foldl (fun d s => d ||| ((tri s).toNat ^^^ (tri s0).toNat)) 0
theorem dif_fold (s0 : Int) (h0 : 1 ≤ s0) (j : Nat) : ∀ (ss : List Int) (d : Nat), (∀ s ∈ ss, 1 ≤ s) → ((ss.foldl (fun d s => d ||| ((tri s).toNat ^^^ (tri s0).toNat)) d) % 2 ^ j = 0 ↔ d % 2 ^ j = 0 ∧ ∀ s ∈ ss, blk (p2 j) s = blk (p2 j) s0)
  | [], d, _ => by simp
  | s :: r, d, h => by
    have hs := h s (List.mem_cons_self ..)
    rw [List.foldl_cons, dif_fold s0 h0 j r _ (fun x hx => h x (List.mem_cons_of_mem _ hx)), dvd_or, dvd_xor]
    have e : (tri s).toNat % 2 ^ j = (tri s0).toNat % 2 ^ j ↔ (2 ^ j : Int) ∣ tri s - tri s0 := by
      have n1 := tri_nn hs
      have n2 := tri_nn h0
      obtain ⟨x, hx⟩ := Int.eq_ofNat_of_zero_le n1
      obtain ⟨y, hy⟩ := Int.eq_ofNat_of_zero_le n2
      rw [hx, hy, Int.toNat_natCast, Int.toNat_natCast, Int.dvd_iff_emod_eq_zero, ← Int.emod_eq_emod_iff_emod_sub_eq_zero]
      constructor
      · intro q
        exact_mod_cast q
      · intro q
        exact_mod_cast q
    rw [e]
    constructor
    · rintro ⟨⟨a, b⟩, c⟩
      refine ⟨a, fun x hx => ?_⟩
      rcases List.mem_cons.mp hx with rfl | hx
      · exact (tri_blk j).mp b
      · exact c x hx
    · rintro ⟨a, c⟩
      exact ⟨⟨a, (tri_blk j).mpr (c s (List.mem_cons_self ..))⟩, fun x hx => c x (List.mem_cons_of_mem _ hx)⟩
theorem dif_zero {ss : List Int} {s0 : Int} (h0 : 1 ≤ s0) (h : ∀ s ∈ ss, 1 ≤ s) (j : Nat) : dif ss s0 % 2 ^ j = 0 ↔ ∀ s ∈ ss, blk (p2 j) s = blk (p2 j) s0 := by
  unfold dif
  rw [dif_fold s0 h0 j ss 0 h]
  simp
/-- the lowest set bit's place -/
def lowAt (d : Nat) : Int := (PySem.Builtin.Int.intBits ((d - (d &&& (d - 1)) : Nat) : Int) : Int) - 1
theorem lowAt_spec {d : Nat} (h : 0 < d) : 0 ≤ lowAt d ∧ ∀ r : Nat, d % 2 ^ r = 0 ↔ (r : Int) ≤ lowAt d := by
  obtain ⟨v, e1, e2⟩ := and_pred d h
  have e : lowAt d = v := by
    unfold lowAt
    rw [e1]
    unfold PySem.Builtin.Int.intBits
    have hp : (2 : Nat) ^ v ≠ 0 := Nat.pos_iff_ne_zero.mp (Nat.pow_pos (by decide))
    rw [if_neg (by intro z; have z2 : ((2 ^ v : Nat) : Int) = 0 := eq_of_beq z; omega)]
    rw [Int.natAbs_natCast, Nat.log2_two_pow]
    omega
  rw [e]
  refine ⟨by omega, fun r => ?_⟩
  rw [e2]
  omega
def lev (k : Int) (ss : List Int) (s0 : Int) : Int := if dif ss s0 = 0 then 0 else k - lowAt (dif ss s0)
/-- the level is at most h exactly if all stand in one block of level h -/
theorem lev_le {k h : Int} {ss : List Int} {s0 : Int} (hk : 0 ≤ k) (h0 : 1 ≤ s0) (hs0 : s0 ≤ p2 k) (hs : ∀ s ∈ ss, 1 ≤ s ∧ s ≤ p2 k) (l0 : 0 ≤ h) (l1 : h ≤ k) : lev k ss s0 ≤ h ↔ ∀ s ∈ ss, blk (p2 (k - h)) s = blk (p2 (k - h)) s0 := by
  obtain ⟨j, hj⟩ := Int.eq_ofNat_of_zero_le (show 0 ≤ k - h by omega)
  have dz := dif_zero h0 (fun s x => (hs s x).1) j
  rw [hj, ← dz]
  unfold lev
  by_cases c : dif ss s0 = 0
  · rw [if_pos c, c]
    simp [l0]
  · rw [if_neg c, (lowAt_spec (by omega)).2 j]
    omega
theorem lev_range {k : Int} {ss : List Int} {s0 : Int} (hk : 0 ≤ k) (h0 : 1 ≤ s0) (hs0 : s0 ≤ p2 k) (hs : ∀ s ∈ ss, 1 ≤ s ∧ s ≤ p2 k) : 0 ≤ lev k ss s0 ∧ lev k ss s0 ≤ k := by
  obtain ⟨j, hj⟩ := Int.eq_ofNat_of_zero_le hk
  have dz := dif_zero h0 (fun s x => (hs s x).1)
  unfold lev
  by_cases c : dif ss s0 = 0
  · rw [if_pos c]
    omega
  · rw [if_neg c]
    have ls := lowAt_spec (d := dif ss s0) (by omega)
    refine ⟨?_, by omega⟩
    by_cases z : lowAt (dif ss s0) ≤ k
    · omega
    · exfalso
      have e1 := (dz j).mp ((ls.2 j).mpr (by omega))
      have e2 : ∀ s ∈ ss, s = s0 := fun s x => by
        have := e1 s x
        rw [← hj, blk_top (hs s x).1 (hs s x).2, blk_top h0 hs0] at this
        exact this
      have e3 : ∀ r, dif ss s0 % 2 ^ r = 0 := fun r => (dz r).mpr fun s x => by rw [e2 s x]
      have e4 := e3 (dif ss s0)
      rw [Nat.mod_eq_of_lt Nat.lt_two_pow_self] at e4
      exact c e4
/-- places by blocks -/
theorem pl_shift {k s : Int} (h1 : 1 ≤ s) (h2 : s ≤ p2 k) {r : Nat} (hr : (r : Int) ≤ k) : ∀ n : Nat, wy (k - r) (wy k s r) n = wy k s (r + n) ∧ pl k s (r + n) = pl k s r + p2 r * pl (k - r) (wy k s r) n
  | 0 => by simp [wy, pl]
  | n + 1 => by
    obtain ⟨i1, i2⟩ := pl_shift h1 h2 hr n
    have e : k - r - 1 - (n : Int) = k - 1 - ((r + n : Nat) : Int) := by omega
    have e2 : p2 ((r + n : Nat) : Int) = p2 r * p2 n := by rw [show ((r + n : Nat) : Int) = (r : Int) + n by omega, p2_add (by omega) (by omega)]
    constructor
    · show fold1 (p2 (k - r - 1 - n)) (wy (k - r) (wy k s r) n) = fold1 (p2 (k - 1 - ((r + n : Nat) : Int))) (wy k s (r + n))
      rw [i1, e]
    · show (if p2 (k - 1 - ((r + n : Nat) : Int)) < wy k s (r + n) then pl k s (r + n) + p2 ((r + n : Nat) : Int) else pl k s (r + n)) = pl k s r + p2 r * (if p2 (k - r - 1 - n) < wy (k - r) (wy k s r) n then pl (k - r) (wy k s r) n + p2 n else pl (k - r) (wy k s r) n)
      rw [i1, e]
      split
      · rw [i2, e2, Int.mul_add]
        omega
      · exact i2
theorem place_div {k s : Int} (hk : 0 ≤ k) (h1 : 1 ≤ s) (h2 : s ≤ p2 k) {h : Int} (l0 : 0 ≤ h) (l1 : h ≤ k) : placeOf k s / p2 h = placeOf (k - h) (blk (p2 (k - h)) s) := by
  obtain ⟨r, rfl⟩ := Int.eq_ofNat_of_zero_le l0
  obtain ⟨_, e⟩ := pl_shift h1 h2 l1 (k - r).toNat
  have ra := pl_range k s r
  have pp := p2_pos (r : Int)
  unfold placeOf
  rw [show k.toNat = r + (k - r).toNat by omega, e, ← wy_blk h1 h2 r l1, Int.add_mul_ediv_left _ _ (by omega), Int.ediv_eq_zero_of_lt ra.1 ra.2, Int.zero_add]
theorem place_eq {k a b : Int} (hk : 0 ≤ k) (a1 : 1 ≤ a) (a2 : a ≤ p2 k) (b1 : 1 ≤ b) (b2 : b ≤ p2 k) {h : Int} (l0 : 0 ≤ h) (l1 : h ≤ k) : placeOf k a / p2 h = placeOf k b / p2 h ↔ blk (p2 (k - h)) a = blk (p2 (k - h)) b := by
  rw [place_div hk a1 a2 l0 l1, place_div hk b1 b2 l0 l1]
  constructor
  · intro e
    have ra := blk_range (m := p2 (k - h)) (s := a) (p2_pos _)
    have rb := blk_range (m := p2 (k - h)) (s := b) (p2_pos _)
    have ea := seed_place (k := k - h) ra.1 ra.2 (by omega)
    have eb := seed_place (k := k - h) rb.1 rb.2 (by omega)
    rw [← ea, e, eb]
  · intro e
    rw [e]
theorem lev_same {k : Int} {ss : List Int} {s0 : Int} (hk : 0 ≤ k) (h0 : 1 ≤ s0) (hs0 : s0 ≤ p2 k) (hs : ∀ s ∈ ss, 1 ≤ s ∧ s ≤ p2 k) (e : ∀ s ∈ ss, s = s0) : lev k ss s0 = 0 := by
  have h1 := (lev_le hk h0 hs0 hs (Int.le_refl 0) hk).mpr fun s x => by rw [e s x]
  have h2 := lev_range hk h0 hs0 hs
  omega
theorem two_in {k a b : Int} (ha : 1 ≤ a ∧ a ≤ p2 k) (hb : 1 ≤ b ∧ b ≤ p2 k) : ∀ s ∈ [a, b], 1 ≤ s ∧ s ≤ p2 k := fun s hs => by
  simp only [List.mem_cons, List.not_mem_nil, or_false] at hs
  rcases hs with rfl | rfl
  · exact ha
  · exact hb
theorem lev_two {k a b h : Int} (hk : 0 ≤ k) (ha : 1 ≤ a ∧ a ≤ p2 k) (hb : 1 ≤ b ∧ b ≤ p2 k) (l0 : 0 ≤ h) (l1 : h ≤ k) : lev k [a, b] a ≤ h ↔ blk (p2 (k - h)) a = blk (p2 (k - h)) b := by
  rw [lev_le hk ha.1 ha.2 (two_in ha hb) l0 l1]
  constructor
  · intro z
    exact (z b (by simp)).symm
  · intro z s hs
    simp only [List.mem_cons, List.not_mem_nil, or_false] at hs
    rcases hs with rfl | rfl
    · rfl
    · exact z.symm
theorem lev_diff {k a b : Int} (hk : 0 ≤ k) (ha : 1 ≤ a ∧ a ≤ p2 k) (hb : 1 ≤ b ∧ b ≤ p2 k) (h : a ≠ b) : 1 ≤ lev k [a, b] a := by
  by_cases c : lev k [a, b] a ≤ 0
  · have := (lev_two hk ha hb (Int.le_refl 0) hk).mp c
    rw [Int.sub_zero, blk_top ha.1 ha.2, blk_top hb.1 hb.2] at this
    exact absurd this h
  · omega
/-- with one round more the same seeds meet one round later -/
theorem lev_more {k a b : Int} (hk : 0 ≤ k) (ha : 1 ≤ a ∧ a ≤ p2 k) (hb : 1 ≤ b ∧ b ≤ p2 k) (h : a ≠ b) : lev (k + 1) [b, a] b = lev k [a, b] a + 1 := by
  have up := p2_succ hk
  have ha' : 1 ≤ a ∧ a ≤ p2 (k + 1) := by omega
  have hb' : 1 ≤ b ∧ b ≤ p2 (k + 1) := by omega
  have r1 := lev_range hk ha.1 ha.2 (two_in ha hb)
  have r2 := lev_range (show 0 ≤ k + 1 by omega) hb'.1 hb'.2 (two_in hb' ha')
  have d2 := lev_diff (show 0 ≤ k + 1 by omega) hb' ha' (Ne.symm h)
  have e1 : ∀ x, 0 ≤ x → x ≤ k → (lev (k + 1) [b, a] b ≤ x + 1 ↔ lev k [a, b] a ≤ x) := fun x x0 x1 => by
    rw [lev_two hk ha hb x0 x1, lev_two (by omega) hb' ha' (by omega) (by omega), show k + 1 - (x + 1) = k - x by omega]
    exact eq_comm
  have a1 := (e1 _ r1.1 r1.2).mpr (Int.le_refl _)
  have a2 := (e1 (lev (k + 1) [b, a] b - 1) (by omega) (by omega)).mp (by omega)
  omega
/-- the least level of many is the greatest of the pairs' -/
theorem lev_max {k m : Int} {ss : List Int} {s0 : Int} (hk : 0 ≤ k) (h0 : 1 ≤ s0 ∧ s0 ≤ p2 k) (hs : ∀ s ∈ ss, 1 ≤ s ∧ s ≤ p2 k) (hm : ∃ s ∈ ss, m = lev k [s0, s] s0) (ha : ∀ s ∈ ss, lev k [s0, s] s0 ≤ m) : lev k ss s0 = m := by
  have r1 := lev_range hk h0.1 h0.2 hs
  obtain ⟨t, ht, rfl⟩ := hm
  have r2 := lev_range hk h0.1 h0.2 (two_in h0 (hs t ht))
  have e1 : lev k ss s0 ≤ lev k [s0, t] s0 := by
    rw [lev_le hk h0.1 h0.2 hs r2.1 r2.2]
    intro s x
    exact ((lev_two hk h0 (hs s x) r2.1 r2.2).mp (ha s x)).symm
  have e2 : lev k [s0, t] s0 ≤ lev k ss s0 := by
    rw [lev_two hk h0 (hs t ht) r1.1 r1.2]
    exact ((lev_le hk h0.1 h0.2 hs r1.1 r1.2).mp (Int.le_refl _) t ht).symm
  omega
/-- two seeds whose sum is one more than a power of two -/
theorem lev_sum {k t a : Int} (hk : 0 ≤ k) (t0 : 1 ≤ t) (t1 : t ≤ k) (a0 : 1 ≤ a) (a1 : a ≤ p2 t / 2) : lev k [a, p2 t + 1 - a] a = k - t + 1 := by
  have pt := p2_half (show 0 < t by omega)
  have pk := p2_le (k := t) (l := k) t1
  have ha : 1 ≤ a ∧ a ≤ p2 k := by omega
  have hb : 1 ≤ p2 t + 1 - a ∧ p2 t + 1 - a ≤ p2 k := by omega
  have e1 : lev k [a, p2 t + 1 - a] a ≤ k - t + 1 := by
    rw [lev_two hk ha hb (by omega) (by omega), blk_eq (p2_pos _)]
    right
    rw [show k - (k - t + 1) = t - 1 by omega, ← pt]
    exact ⟨1, by omega⟩
  have e2 : ¬ lev k [a, p2 t + 1 - a] a ≤ k - t := by
    rw [lev_two hk ha hb (by omega) (by omega), blk_eq (p2_pos _), show k - (k - t) = t by omega]
    rintro (⟨c, hc⟩ | ⟨c, hc⟩)
    · have e : a - (p2 t + 1 - a) = 2 * (p2 t * c) := by rw [hc, Int.mul_assoc]
      omega
    · have e : a + (p2 t + 1 - a) - 1 = p2 t * (2 * c) := by rw [hc, Int.mul_comm 2 (p2 t), Int.mul_assoc]
      have pp := p2_pos t
      have : (1 : Int) = 2 * c := by
        refine Int.eq_of_mul_eq_mul_left (Int.ne_of_gt pp) ?_
        omega
      omega
  omega
theorem getD_range {ss : List Int} {n : Nat} (h : ss.length = n) : ((List.range n).map fun j => ss.getD j 0) = ss := by
  apply List.ext_getElem
  · simp [h]
  · intro i h1 h2
    rw [List.getElem_map, List.getElem_range, List.getD_eq_getElem?_getD, List.getElem?_eq_getElem h2]
    rfl
end SC

set_option Elab.async false
set_option linter.all false
set_option maxRecDepth 100000
set_option maxHeartbeats 4000000
/-! Star defs, their calls; walks over tuples; scalar equality. -/
namespace SC
open PySem PySem.Spec PyProof.Rows L2 StX
def spStar (n : Nat) (sp : Sp) : Sp := fun vs H Q E => ∃ ws rest, vs = ws ++ rest ∧ ws.length = n ∧ rest.length ≤ sizeLine ∧ ∀ p, H p = Option.none → sp (ws ++ [V.ref p]) (upd H p (.tup rest)) Q E
section
variable {P : Program} {w : World} {K : PySem.W.Frag} {mg : Str → Option Value} {base : Heap}
theorem okStar {x qual : Str} {st : Stmt} {f : Addr} {fd : FuncData} {N ps : List Str} {pv : Str} {k : Nat} {sp : Sp} (F : Fun K x qual st f fd) (S : FnScope N (ps ++ [pv]) (defScope st))
    (hb : ∀ (kV doc pm : Value) (an : Option Addr) (cdv ct : Value) (us rest : List Value), us.length = ps.length → bindArgs (PySem.W.fnOf x qual (defArgs st) (defBody st) (defScope st) .none kV doc pm an cdv ct) ⟨us ++ rest, []⟩ = (newTuple rest >>= fun t => pure (ps.zip us ++ [(pv, t)])))
    (hbody : ∀ (cdv : Value) (A : Around) (outer : List Env) (s : Shared) (H : Hp) (vs : List V) (Q : VK) (E : XK), Room k (A.deeper (envOfC qual (defScope st) s.heap.objs.size f cdv)) → sp vs H Q E →
      ∃ t, PSs (cxOf CX0 P w K mg base N qual (defScope st) f cdv A outer s H E).nox (defBody st) t ∧ t { nx := fun _ H' => Q .non H', rt := Q } (start N vs) H) : FnR P w K mg base CX0 (k + 1) f (spStar ps.length sp) := by
  obtain ⟨oc, od, kV, doc, pm, an, cdv, ct, osl, rfl, lk, hcd⟩ := F.ex
  refine fn_star lk hcd S cxUp_none (hb kV doc pm an cdv ct) fun A outer s H vs Q E hr hsp => ?_
  obtain ⟨t, h, q⟩ := hbody cdv A outer s H vs Q E hr hsp
  exact ⟨t, h.nox, q⟩
/-- a promise by keywords alone -/
def FnRk (P : Program) (w : World) (K : PySem.W.Frag) (mg : Str → Option Value) (base : Heap) (CX : CXT) (k : Nat) (f : Addr) (ks : List Str) (sp : Sp) : Prop :=
  ∀ (A : Around) (outer : List Env) (s : Shared) (H : Hp) (ws : List Value) (zs : List V) (Q : VK) (E : XK), Room k A → Env0 P w K mg base A outer s H → Vals zs ws → zs.length = ks.length → sp zs H Q E →
    codeAny (model P w) A (.call (.ref f) ⟨[], ks.zip ws⟩) (CR CX outer P w H s Q E) s
def spStarK (idx : List Nat) (sp : Sp) : Sp := fun zs H Q E => ∀ p, H p = Option.none → sp (pickBy .non idx [] zs ++ [V.ref p]) (upd H p (.tup [])) Q E
theorem okStarK {x qual : Str} {st : Stmt} {f : Addr} {fd : FuncData} {N ps ks : List Str} {pv : Str} {k : Nat} {sp : Sp} (idx : List Nat) (hi : idx.length = ps.length) (F : Fun K x qual st f fd) (S : FnScope N (ps ++ [pv]) (defScope st))
    (hb : ∀ (kV doc pm : Value) (an : Option Addr) (cdv ct : Value) (ws : List Value), ws.length = ks.length → bindArgs (PySem.W.fnOf x qual (defArgs st) (defBody st) (defScope st) .none kV doc pm an cdv ct) ⟨[], ks.zip ws⟩ = (newTuple [] >>= fun t => pure (ps.zip (pickBy .none idx [] ws) ++ [(pv, t)])))
    (hbody : ∀ (cdv : Value) (A : Around) (outer : List Env) (s : Shared) (H : Hp) (vs : List V) (Q : VK) (E : XK), Room k (A.deeper (envOfC qual (defScope st) s.heap.objs.size f cdv)) → sp vs H Q E →
      ∃ t, PSs (cxOf CX0 P w K mg base N qual (defScope st) f cdv A outer s H E).nox (defBody st) t ∧ t { nx := fun _ H' => Q .non H', rt := Q } (start N vs) H) : FnRk P w K mg base CX0 (k + 1) f ks (spStarK idx sp) := by
  obtain ⟨oc, od, kV, doc, pm, an, cdv, ct, osl, rfl, lk, hcd⟩ := F.ex
  intro A outer s H ws zs Q E hr e0 r hl hsp
  have hn : H s.heap.objs.size = Option.none := e0.hok.fresh (Nat.le_refl _)
  refine run_bnd lk hcd S hr e0 (G := fun xs H2 => ∃ p, H p = Option.none ∧ xs = pickBy .non idx [] zs ++ [V.ref p] ∧ H2 = upd H p (.tup [])) (fun A' Ex Q' h => ?_) fun s2 H2 xs ⟨p, hp, ex, eH⟩ hr' => ?_
  · rw [hb kV doc pm an cdv ct ws (by rw [← r.length]; exact hl)]
    refine wpAny_bind (wpAny_newTuple (wpAny_pure ?_) (Nat.zero_le _))
    have new : ObjOk P w (upd H s.heap.objs.size (.tup [])) (s.heap.push ({ cls := .type "tuple", data := .seq ([] : List Value).toArray } : Obj)) s.heap.objs.size (.tup []) := ⟨Nat.zero_le _, [], .nil, ⟨_, Heap.get?_push_size _ rfl, rfl, _, rfl⟩⟩
    have un := un_laid (fs := frs outer) (s := s) (o := ({ cls := .type "tuple", data := .seq ([] : List Value).toArray } : Obj)) (u := .tup []) hn
    have r1 : Vals (pickBy .non idx [] zs) (pickBy .none idx [] ws) := vals_pick .nil r idx
    have l1 : (pickBy .none idx [] ws).length = ps.length := by rw [← hi]; simp [pickBy]
    have z := h _ _ (pickBy .non idx [] zs ++ [V.ref s.heap.objs.size]) (pickBy .none idx [] ws ++ [Value.ref s.heap.objs.size]) (env0_laid e0 new) un rfl (fun e s' z => False.elim z) (r1.append (.cons rfl .nil))
      (by rw [List.length_append, List.length_append, r1.length, l1] <;> rfl) ⟨_, hn, rfl, rfl⟩
    rw [List.zip_append l1.symm] at z
    exact z
  · subst ex eH
    obtain ⟨t, h, q⟩ := hbody cdv A outer s2 _ _ Q E hr' (hsp p hp)
    exact ⟨t, h.nox, q⟩
end
section
variable {X : Cx} {CX : CXT} {k : Nat} {f : Addr} {ks : List Str} {sp : Sp} {E : XK} {x : Str} {p pos : Pos} {e : Expr} {es : List Expr} {kws : List Keyword} {t tk : TA}
def tCallR (sp : Sp) (E : XK) (t : TA) : TE := fun σ H Q => t σ H fun vs H1 => sp vs H1 Q E
theorem pe_callR (F : FnR X.prog X.w X.K X.mg X.base CX k f sp) (hr : Room k X.A) (hg : Gl X x) (hm : X.mg x = some (.ref f)) (hk : PySem.W.keepIn X.K (.ref f) = true) (hx : Passes CX X E)
    (ha : PA X (e :: es) t) (hdb : (x == ("__debug__" : Str)) = false := by decide) (he : starEach (e :: es) X.env = (false, eval e X.env) :: starEach es X.env := by rfl) (hpl : (backTo pos (starEach es X.env)).any (·.1) = false := by rfl) :
    PE X (.Call (.Name x p) (e :: es) [] pos) (tCallR sp E t) := by
  refine ⟨fun pins s σ H Q I h => ?_⟩
  refine wpAny_Call_Name_kw (ld_glob I hg hm ?_ hdb)
  refine PySem.W.callWith_K (h₀ := X.base) I.ok.mod.kin hk (thn (ha.run pos pins s σ H _ I h) fun us s1 ⟨vs, H1, I1, r, q⟩ => ⟨I1.kIn, ?_⟩) he hpl
  exact wpAny_call (run_fnR F hr hx I1 r q)
def tCallRk (n : Nat) (sp : Sp) (E : XK) (tk : TA) : TE := fun σ H Q => tk σ H fun zs H1 => zs.length = n ∧ sp zs H1 Q E
theorem pe_callRk (F : FnRk X.prog X.w X.K X.mg X.base CX k f ks sp) (hr : Room k X.A) (hg : Gl X x) (hm : X.mg x = some (.ref f)) (hk : PySem.W.keepIn X.K (.ref f) = true) (hx : Passes CX X E)
    (hkw : PK X kws tk) (hall : (backToKw pos (keywordEach kws X.env)).all (·.1.isSome) = true := by rfl) (hks : (backToKw pos (keywordEach kws X.env)).filterMap (·.1) = ks := by rfl)
    (hdb : (x == ("__debug__" : Str)) = false := by decide) (hpl : ((backTo pos (starEach [] X.env)).any (·.1) || (backToKw pos (keywordEach kws X.env)).any (·.1.isNone)) = false := by rfl) :
    PE X (.Call (.Name x p) [] kws pos) (tCallRk ks.length sp E tk) := by
  refine ⟨fun pins s σ H Q I h => ?_⟩
  refine wpAny_Call_Name_kw (ld_glob I hg hm ?_ hdb)
  refine PySem.W.callWith_KW0 (h₀ := X.base) I.ok.mod.kin hk hall ?_ hpl
  refine thn (hkw.run pos pins s σ H _ I h) fun ws s2 ⟨zs, H2, I2, rz, l, q⟩ => ⟨I2.kIn, ?_⟩
  rw [hks]
  refine wpAny_call (codeAny_mono (F X.A X.stack s2 H2 ws zs Q E hr I2.env0 rz l q) fun r s' hq => ?_)
  cases r with
  | error e => exact hx pins σ H2 s2 e s' I2 hq
  | ok fl =>
    cases fl with
    | ret u => exact I2.after hq
    | next => exact False.elim hq
    | brk => exact False.elim hq
    | cont => exact False.elim hq
end
section
variable {K : PySem.W.Frag} {σ : L2.St} {H : Hp} {Q : VK} {t tk : TA} {te : TE} {sp : Sp} {E : XK} {n : Nat} {D : Ends} {tb : TS} {g : TG}
def CallRk (n : Nat) (sp : Sp) (E : XK) (zs : List V) (H : Hp) (Q : VK) : Prop := zs.length = n ∧ sp zs H Q E
theorem w_callR (k : t σ H fun vs H1 => sp vs H1 Q E) : tCallR sp E t σ H Q := k
theorem w_callRk (k : tk σ H fun zs H1 => CallRk n sp E zs H1 Q) : tCallRk n sp E tk σ H Q := k
theorem w_rk {zs : List V} (k : sp zs H Q E) (h : zs.length = n := by rfl) : CallRk n sp E zs H Q := ⟨h, k⟩
def Starred (K : PySem.W.Frag) (x : V) (H1 : Hp) (R : List V → Prop) : Prop := ∃ p xs, x = V.ref p ∧ (SqT K H1 p xs ∨ SqL K H1 p xs) ∧ R xs
theorem w_star {R : List V → Hp → Prop} (k : te σ H fun x H1 => Starred K x H1 fun xs => t σ H1 fun ys H2 => R (xs ++ ys) H2) : tStar K te t σ H R := k
theorem w_starT {p : Addr} {xs : List V} {R : List V → Prop} (h : SqT K H p xs) (k : R xs) : Starred K (.ref p) H R := ⟨p, xs, rfl, .inl h, k⟩
theorem w_bits (k : te σ H fun x H1 => ∃ i, x = .int i ∧ Q (.int (Builtin.Int.intBits i : Nat)) H1) : tBits te σ H Q := k
theorem w_ltup {a : Addr} {xs : List V} (hx : SqT K H a xs) (Pv : Nat → L2.St → Hp → Prop) (h0 : Pv 0 σ H) (hl : ∀ i σ' H', i ≤ xs.length → Pv i σ' H' → SqT K H' a xs)
    (hs : ∀ i x σ' H', xs[i]? = some x → Pv i σ' H' → g x σ' H' fun σ2 H2 => tb { D with nx := Pv (i + 1), ct := Pv (i + 1), bk := D.nx } σ2 H2) (hd : ∀ σ' H', Pv xs.length σ' H' → D.nx σ' H') :
    ∃ b, V.ref a = .ref b ∧ (∃ xs, SqT K H b xs) ∧ Loop (Itt K b) g tb D σ H := ⟨a, rfl, ⟨xs, hx⟩, for_tup Pv h0 hl hs hd⟩
end
theorem same_seqT {K : PySem.W.Frag} {H H' : Hp} {a : Addr} {xs : List V} (e : Same H H') (h : SqT K H a xs) : SqT K H' a xs := by
  rcases h with (h | ⟨o, h⟩) | h
  · exact .inl (.inl (e _ _ h))
  · exact .inl (.inr ⟨o, e _ _ h⟩)
  · exact .inr h
/-! isinstance of a scalar against a new tuple of classes, one class -/
section
variable {K : PySem.W.Frag} {H : Hp} {Q : VK} {i : Int} {b : Bool} {p : Addr}
theorem w_isiT_i (h : H p = some (.tup [.ty "list", .ty "tuple"])) (k : Q (.bl false) H) : rIsiT K [.int i, .ref p] H Q :=
  ⟨_, _, _, _, _, false, rfl, h, .cons (.ty _) (.cons (.ty _) .nil), .base (.int i), kitAny_cons (kit_ty (b := "list") (r := false) (by decide +kernel)) (fun _ => kitAny_cons (kit_ty (b := "tuple") (r := false) (by decide +kernel)) (fun _ => kitAny_nil) (fun z => nomatch z)) (fun z => nomatch z), k⟩
theorem w_isiT_b (h : H p = some (.tup [.ty "list", .ty "tuple"])) (k : Q (.bl false) H) : rIsiT K [.bl b, .ref p] H Q :=
  ⟨_, _, _, _, _, false, rfl, h, .cons (.ty _) (.cons (.ty _) .nil), .base (.bl b), kitAny_cons (kit_ty (b := "list") (r := false) (by decide +kernel)) (fun _ => kitAny_cons (kit_ty (b := "tuple") (r := false) (by decide +kernel)) (fun _ => kitAny_nil) (fun z => nomatch z)) (fun z => nomatch z), k⟩
theorem w_isiT_l {a : Addr} {xs : List V} (ha : H a = some (.lst xs)) (h : H p = some (.tup [.ty "list", .ty "tuple"])) (k : Q (.bl true) H) : rIsiT K [.ref a, .ref p] H Q :=
  ⟨_, _, _, _, _, true, rfl, h, .cons (.ty _) (.cons (.ty _) .nil), .base (.lst ha), kitAny_cons (kit_ty (b := "list") (r := true) (by decide +kernel)) (fun z => nomatch z) (fun _ => rfl), k⟩
theorem w_isi_ll {a : Addr} {xs : List V} (ha : H a = some (.lst xs)) (k : Q (.bl true) H) : rIsi K [.ref a, .ty "list"] H Q := ⟨_, _, _, _, true, rfl, .ty _, .base (.lst ha), kit_ty (by decide +kernel), k⟩
theorem w_all {a : Addr} {bs : List Bool} (h : SqL K H a (bs.map V.bl)) (k : Q (.bl (bs.all id)) H) : rAll K [.ref a] H Q := ⟨a, bs, rfl, h, k⟩
theorem w_max {a : Addr} {ns : List Int} (h : SqL K H a (ns.map V.int)) (h0 : 0 < ns.length) (k : ∀ m, m ∈ ns → (∀ y, y ∈ ns → y ≤ m) → Q (.int m) H) : rMax K [.ref a] H Q := ⟨a, ns, rfl, h, h0, k⟩
theorem w_isi_bb (k : Q (.bl true) H) : rIsi K [.bl b, .ty "bool"] H Q := ⟨_, _, _, _, true, rfl, .ty _, .base (.bl b), kit_ty (by decide +kernel), k⟩
end
end SC

set_option Elab.async false
set_option linter.all false
set_option maxHeartbeats 1000000
/-! Dicts of ints, lists made of draws, the bracket as a list and its meetings. -/
namespace SC
open PySem PySem.Spec PyProof.Rows L2
section
variable {K : PySem.W.Frag} {σ : L2.St} {H : Hp} {Q : VK} {D : Ends} {ta : TA} {td ty tv te : TE} {a : Addr} {kvs : List (Key × V)} {x : Int} {v : V}
def rLenD : List V → Hp → VK → Prop := fun xs H Q => ∃ a kvs, xs = [V.ref a] ∧ H a = some (.dK kvs) ∧ Q (.int kvs.length) H
theorem c_lenD {X : Cx} : CallR X (.builtin "len") rLenD := call_lenD
theorem w_lenD (e : H a = some (.dK kvs)) (k : Q (.int kvs.length) H) : rLenD [.ref a] H Q := ⟨a, kvs, rfl, e, k⟩
theorem w_dnew (k : ∀ p H', Same H H' → H p = none → H' p = some (.dK []) → Q (.ref p) H') : tDNewK σ H Q := fun p hp => k p _ (same_upd hp) hp upd_same
theorem w_sdput (k : tv σ H fun v H1 => td σ H1 fun x H2 => ty σ H2 fun y H3 => ∃ a H4, x = .ref a ∧ DPut H3 a y v H4 ∧ D.nx σ H4) : sDPut td ty tv D σ H := k
theorem w_put {R : Hp → Prop} (e : H a = some (.dK kvs)) (hl : kvs.length < 1000000) (k : R (upd H a (.dK (putK kvs (.inl x) v)))) : ∃ b H4, V.ref a = .ref b ∧ DPut H b (.int x) v H4 ∧ R H4 :=
  ⟨a, _, rfl, DPut.k (k := .inl x) e (Nat.lt_of_lt_of_le hl (by decide)), k⟩
theorem w_dget' (k : td σ H fun x H1 => ty σ H1 fun y H2 => ∃ a v, x = .ref a ∧ DGet H2 a y (some v) ∧ Q v H2) : tDGet td ty σ H Q := k
theorem w_get (e : H a = some (.dK kvs)) (hv : valV kvs (.inl x) = some v) (k : Q v H) : ∃ b u, V.ref a = .ref b ∧ DGet H b (.int x) (some u) ∧ Q u H :=
  ⟨a, v, rfl, by rw [← hv]; exact DGet.k (k := .inl x) e, k⟩
theorem w_glst {xs : List V} {n : Nat} {g : TGs} {R : L2.St → Hp → Prop} (h : SqL K H a xs) (hl : xs.length = n) (k : g xs σ H R) : gLst K n g (.ref a) σ H R := ⟨a, xs, rfl, h, hl, k⟩
/-- a comprehension over a range, by what holds after each turn -/
theorem w_lcrI {n : Int} {vs : List Nat} {j : Nat} (J : Nat → List V → Addr → Hp → Prop) (h1 : 0 ≤ n) (h2 : n ≤ 1000000) (hw : ∀ x, wipe ((wipe σ vs).set j (some x)) vs = wipe σ vs)
    (h0 : ∀ p H', Same H H' → H p = none → H' p = some (.lst []) → J 0 [] p H')
    (he : ∀ (i : Nat) xs p H', (i : Int) < n → H p = none → xs.length = i → J i xs p H' → H' p = some (.lst xs) → ∀ R : VK, (∀ y H2, H2 p = some (.lst xs) → J (i + 1) (xs ++ [y]) p (upd H2 p (.lst (xs ++ [y]))) → R y H2) → te ((wipe σ vs).set j (some (.int (i : Int)))) H' R)
    (k : ∀ xs p H', H p = none → xs.length = n.toNat → J n.toNat xs p H' → H' p = some (.lst xs) → Q (.ref p) H') :
    ∃ m : Int, [V.int n] = [.int m] ∧ -(2 ^ 62) ≤ m ∧ m < 2 ^ 62 ∧ LcB (Itr 0 m.toNat) (gName j) tYes te vs σ H Q := by
  refine ⟨n, rfl, by omega, by omega, fun D hD => ?_⟩
  refine lc_range (lo := 0) (n := n.toNat) (fun i H' => ∃ xs, J i xs D H' ∧ H' D = some (.lst xs) ∧ xs.length = i) ⟨[], h0 D _ (same_upd hD) hD upd_same, upd_same, rfl⟩ (fun i H' hi p => ?_) (fun H' p => ?_)
  · obtain ⟨xs, hJ, hx, hl⟩ := p
    have e0 : (0 : Int) + (i : Int) = (i : Int) := Int.zero_add _
    show wipe ((wipe σ vs).set j (some (.int ((0 : Int) + (i : Int))))) vs = wipe σ vs ∧ te ((wipe σ vs).set j (some (.int ((0 : Int) + (i : Int))))) H' _
    rw [e0]
    refine ⟨hw _, he i xs D H' (by omega) hD hl hJ hx _ fun y H2 e2 j2 => ⟨_, e2, ?_, _, j2, upd_same, by simp [hl]⟩⟩
    exact Nat.lt_of_lt_of_le (show xs.length < 1000000 by omega) (by decide)
  · obtain ⟨xs, hJ, hx, hl⟩ := p
    exact k xs D H' hD hl hJ hx
end
/-! ### the bracket as a list -/
theorem brk_all : ∀ (n : Nat) (s : Int), 1 ≤ s → s ≤ p2 n → s ∈ brk n
  | 0, s, h1, h2 => by
    have e : p2 ((0 : Nat) : Int) = 1 := p2_zero
    have : s = 1 := by omega
    subst this
    exact List.mem_singleton.mpr rfl
  | n + 1, s, h1, h2 => by
    have e := p2_succ (k := (n : Int)) (by omega)
    have e2 : p2 ((n + 1 : Nat) : Int) = 2 * p2 n := by rw [Int.natCast_add]; exact e
    have ez : p2 (0 + (n : Int)) = p2 n := by rw [Int.zero_add]
    show s ∈ (ext 0 1 n).flatMap fun x => [x, 2 * p2 (0 + (n : Int)) + 1 - x]
    rw [List.mem_flatMap]
    by_cases c : s ≤ p2 n
    · exact ⟨s, brk_all n s h1 c, by simp⟩
    · refine ⟨2 * p2 n + 1 - s, brk_all n _ (by omega) (by omega), ?_⟩
      rw [ez]
      simp only [List.mem_cons, List.not_mem_nil, or_false]
      omega
theorem brk_nd (n : Nat) : (brk n).Nodup := ext_nd (m := 0) (s := 1) (by omega) (by omega) (by rw [p2_zero]; omega) n
theorem p2_nat (h : Nat) : p2 (h : Int) = ((2 ^ h : Nat) : Int) := by
  have := pow_p2 (h := (h : Int)) (by omega)
  rw [Int.toNat_natCast] at this
  exact this.symm
theorem brk_blk {n h i : Nat} {x : Int} (hn : h ≤ n) (hx : (brk n)[i]? = some x) : (brk (n - h))[i / 2 ^ h]? = some (blk (p2 ((n : Int) - h)) x) := by
  have hi : i < 2 ^ n := by
    have := (List.getElem?_eq_some_iff.mp hx).1
    rwa [brk_len] at this
  have en : 2 ^ n = 2 ^ (n - h) * 2 ^ h := by rw [← Nat.pow_add]; congr 1; omega
  have hq : i / 2 ^ h < 2 ^ (n - h) := by
    rw [Nat.div_lt_iff_lt_mul (Nat.pow_pos (by decide))]
    omega
  have hb : i / 2 ^ h < (brk (n - h)).length := by rw [brk_len]; exact hq
  have ex : (brk (n - h))[i / 2 ^ h]? = some (brk (n - h))[i / 2 ^ h] := List.getElem?_eq_getElem hb
  generalize hs : (brk (n - h))[i / 2 ^ h] = s at ex
  have hin := brk_in (n - h) s (by rw [← hs]; exact List.getElem_mem _)
  have ee : brk n = (brk (n - h)).flatMap fun y => ext (0 + ((n - h : Nat) : Int)) y h := by
    have := ext_two 0 1 (n - h) h
    rw [show n - h + h = n by omega] at this
    exact this
  have hc := cut_parts (f := fun y => ext (0 + ((n - h : Nat) : Int)) y h) (z := 2 ^ h) (brk (n - h)) (i / 2 ^ h) s (fun y => ext_len _ _ _) ex
  rw [← ee] at hc
  have hm : x ∈ ext (0 + ((n - h : Nat) : Int)) s h := by
    rw [← hc]
    have r := Nat.mod_lt i (Nat.pow_pos (n := h) (show 0 < 2 by decide))
    have e3 : ((brk n).drop (i / 2 ^ h * 2 ^ h)).take (2 ^ h) = ((brk n).drop (i / 2 ^ h * 2 ^ h)).take (2 ^ h) := rfl
    refine List.mem_of_getElem? (i := i % 2 ^ h) ?_
    rw [List.getElem?_take, if_pos r, List.getElem?_drop, Nat.div_add_mod']
    exact hx
  rw [Int.zero_add] at hm
  have bb := (ext_in (m := ((n - h : Nat) : Int)) (by omega) hin.1 hin.2 h x hm).2
  rw [show ((n : Int) - h) = ((n - h : Nat) : Int) by omega, bb]
  exact ex
theorem brk_inj {n i j : Nat} {x : Int} (h1 : (brk n)[i]? = some x) (h2 : (brk n)[j]? = some x) : i = j := by
  have hi := (List.getElem?_eq_some_iff.mp h1).1
  exact (List.getElem?_inj hi (brk_nd n)).mp (h1.trans h2.symm)
theorem brk_meet {n i j h : Nat} {a b : Int} (hi : (brk n)[i]? = some a) (hj : (brk n)[j]? = some b) (hh : h ≤ n) : lev n [a, b] a ≤ h ↔ (i : Int) / p2 h = (j : Int) / p2 h := by
  have ha := brk_in n a (List.mem_of_getElem? hi)
  have hb := brk_in n b (List.mem_of_getElem? hj)
  rw [lev_two (by omega) ha hb (by omega) (by omega), p2_nat h]
  have x1 := brk_blk hh hi
  have x2 := brk_blk hh hj
  constructor
  · intro e
    rw [e] at x1
    have := brk_inj x1 x2
    rw [← Int.natCast_ediv, ← Int.natCast_ediv, this]
  · intro e
    have e2 : i / 2 ^ h = j / 2 ^ h := by
      rw [← Int.natCast_ediv, ← Int.natCast_ediv] at e
      exact Int.ofNat.inj e
    rw [e2, x2] at x1
    exact (Option.some.inj x1).symm
/-- the place of each seed -/
def PD (n : Nat) (kvs : List (Key × V)) : Prop := kvs.length = 2 ^ n ∧ ∀ (i : Nat) x, (brk n)[i]? = some x → valV kvs (.inl x) = some (.int (i : Int))
theorem PD.at_ {n : Nat} {kvs : List (Key × V)} (h : PD n kvs) {a : Int} (ha : 1 ≤ a ∧ a ≤ p2 n) : ∃ i : Nat, (brk n)[i]? = some a ∧ valV kvs (.inl a) = some (.int (i : Int)) := by
  obtain ⟨i, hi⟩ := List.getElem?_of_mem (brk_all n a ha.1 ha.2)
  exact ⟨i, hi, h.2 i a hi⟩
/-- after d seeds -/
def PDn (n d : Nat) (kvs : List (Key × V)) : Prop := kvs.length = d ∧ (∀ (i : Nat) x, i < d → (brk n)[i]? = some x → valV kvs (.inl x) = some (.int (i : Int))) ∧ ∀ (i : Nat) x, d ≤ i → (brk n)[i]? = some x → valV kvs (.inl x) = none
theorem PDn.zero (n : Nat) : PDn n 0 [] := ⟨rfl, fun _ _ h => absurd h (Nat.not_lt_zero _), fun _ _ _ _ => rfl⟩
theorem PDn.put {n d : Nat} {kvs : List (Key × V)} {x : Int} (h : PDn n d kvs) (hx : (brk n)[d]? = some x) : PDn n (d + 1) (putK kvs (.inl x) (.int (d : Int))) := by
  obtain ⟨h1, h2, h3⟩ := h
  refine ⟨?_, fun i y hi hy => ?_, fun i y hi hy => ?_⟩
  · rw [putK_new _ (h3 d x (Nat.le_refl _) hx), List.length_append, h1]
    rfl
  · rw [valV_put]
    split
    · rename_i e
      have e := Sum.inl.inj e
      subst e
      rw [brk_inj hy hx]
    · rename_i e
      refine h2 i y ?_ hy
      by_cases z : i = d
      · subst z
        rw [hx] at hy
        exact absurd (by rw [Option.some.inj hy]) e
      · omega
  · rw [valV_put, if_neg, h3 i y (by omega) hy]
    intro e
    have e := Sum.inl.inj e
    subst e
    have := brk_inj hy hx
    omega
theorem PDn.done {n : Nat} {kvs : List (Key × V)} (h : PDn n (2 ^ n) kvs) : PD n kvs := ⟨h.1, fun i x hx => h.2.1 i x (by
  have := (List.getElem?_eq_some_iff.mp hx).1
  rwa [brk_len] at this) hx⟩
theorem lev_sym {k a b : Int} (hk : 0 ≤ k) (ha : 1 ≤ a ∧ a ≤ p2 k) (hb : 1 ≤ b ∧ b ≤ p2 k) : lev k [b, a] b = lev k [a, b] a := by
  have r1 := lev_range (k := k) (s0 := a) hk ha.1 ha.2 (two_in ha hb)
  have r2 := lev_range (k := k) (s0 := b) hk hb.1 hb.2 (two_in hb ha)
  have e : ∀ h, 0 ≤ h → h ≤ k → (lev k [b, a] b ≤ h ↔ lev k [a, b] a ≤ h) := fun h l0 l1 => by
    rw [lev_two hk hb ha l0 l1, lev_two hk ha hb l0 l1]
    exact ⟨Eq.symm, Eq.symm⟩
  have x1 := (e _ r1.1 r1.2).mpr (Int.le_refl _)
  have x2 := (e _ r2.1 r2.2).mp (Int.le_refl _)
  omega
/-- the level of a set, whoever is named first -/
theorem lev_any {k h a b : Int} {s t : List Int} (hk : 0 ≤ k) (hs : ∀ x ∈ s, 1 ≤ x ∧ x ≤ p2 k) (ha : a ∈ s) (hb : b ∈ t) (e : ∀ x, x ∈ s ↔ x ∈ t) (l0 : 0 ≤ h) (l1 : h ≤ k) : lev k s a ≤ h ↔ lev k t b ≤ h := by
  have ht : ∀ x ∈ t, 1 ≤ x ∧ x ≤ p2 k := fun x hx => hs x ((e x).mpr hx)
  rw [lev_le hk (hs a ha).1 (hs a ha).2 hs l0 l1, lev_le hk (ht b hb).1 (ht b hb).2 ht l0 l1]
  constructor
  · intro z x hx
    rw [z x ((e x).mpr hx), z b ((e b).mpr hb)]
  · intro z x hx
    rw [z x ((e x).mp hx), z a ((e a).mp ha)]
theorem lev_nil {k a : Int} : lev k [] a = 0 := by
  unfold lev dif
  simp
theorem lev_one {k a : Int} (hk : 0 ≤ k) (ha : 1 ≤ a ∧ a ≤ p2 k) : lev k [a] a = 0 :=
  lev_same hk ha.1 ha.2 (fun s hs => by rw [List.mem_singleton.mp hs]; exact ha) fun s hs => List.mem_singleton.mp hs
theorem six {xs : List V} {P : Int → Prop} (hl : xs.length = 6) (h : ∀ x ∈ xs, ∃ z, x = V.int z ∧ P z) : ∃ a b c d e f : Int, xs = [.int a, .int b, .int c, .int d, .int e, .int f] ∧ P a ∧ P b ∧ P c ∧ P d ∧ P e ∧ P f := by
  match xs, hl with
  | [x1, x2, x3, x4, x5, x6], _ =>
    obtain ⟨a, rfl, ha⟩ := h x1 (by simp)
    obtain ⟨b, rfl, hb⟩ := h x2 (by simp)
    obtain ⟨c, rfl, hc⟩ := h x3 (by simp)
    obtain ⟨d, rfl, hd⟩ := h x4 (by simp)
    obtain ⟨e, rfl, he⟩ := h x5 (by simp)
    obtain ⟨f, rfl, hf⟩ := h x6 (by simp)
    exact ⟨a, b, c, d, e, f, rfl, ha, hb, hc, hd, he, hf⟩
/-- a tuple of two seeds -/
def PairOk (n : Nat) (x : V) (H : Hp) : Prop := ∃ (q : Addr) (u v : Int), x = .ref q ∧ H q = some (.tup [.int u, .int v]) ∧ (1 ≤ u ∧ u ≤ p2 n) ∧ (1 ≤ v ∧ v ≤ p2 n)
theorem PairOk.go {n : Nat} {x : V} {H H' : Hp} (h : PairOk n x H) (g : ∀ q ys, H q = some (.tup ys) → H' q = some (.tup ys)) : PairOk n x H' := by
  obtain ⟨q, u, v, e, hq, hu, hv⟩ := h
  exact ⟨q, u, v, e, g _ _ hq, hu, hv⟩
theorem PairOk.same {n : Nat} {x : V} {H H' : Hp} (h : PairOk n x H) (g : Same H H') : PairOk n x H' := h.go fun q ys e => g q _ e
theorem PairOk.kp {n : Nat} {x : V} {H H' : Hp} {a : Addr} {N : Int} (h : PairOk n x H) (s : Src a N H) (g : Kp a H H') : PairOk n x H' := h.go fun q ys e => g q _ (fun z => by
  subst z
  obtain ⟨_, _, _, z, _⟩ := s
  rw [z] at e
  cases e) e
theorem PairOk.upd {n : Nat} {x : V} {H : Hp} {p : Addr} {xs : List V} {o : HO} (h : PairOk n x H) (hp : H p = some (.lst xs)) : PairOk n x (upd H p o) := h.go fun q ys e => by
  rw [upd_ne]
  · exact e
  · intro z
    subst z
    rw [hp] at e
    cases e
theorem pickV {xs : List V} {r : Int} (h0 : 0 ≤ r) (h1 : r < (xs.length : Int)) : ∃ x, atI xs r = some x ∧ x ∈ xs := by
  have hl : r.toNat < xs.length := by omega
  refine ⟨xs[r.toNat], ?_, List.getElem_mem _⟩
  have := atI_nat (j := r.toNat) (List.getElem?_eq_getElem hl)
  rwa [Int.toNat_of_nonneg h0] at this
theorem cut2 {a b c d e f : V} : cutV [a, b, c, d, e, f] none (some 2) = [a, b] := rfl
theorem cut3 {a b c d e f : V} : cutV [a, b, c, d, e, f] none (some 3) = [a, b, c] := rfl
theorem cut4 {a b c d e f : V} : cutV [a, b, c, d, e, f] none (some 4) = [a, b, c, d] := rfl
theorem cut5 {a b c d e f : V} : cutV [a, b, c, d, e, f] none (some 5) = [a, b, c, d, e] := rfl
end SC

set_option Elab.async false
set_option linter.all false
set_option maxRecDepth 100000
set_option maxHeartbeats 4000000
/-! Values of any kind, what a check of one answers, errors without a text. -/
namespace SC
open PySem PySem.Spec PyProof.Rows L2
/-- what a caller may hand -/
inductive Kd (H : Hp) : V → Prop where
  | int (i : Int) : Kd H (.int i)
  | bl (b : Bool) : Kd H (.bl b)
  | non : Kd H .non
  | str (s : Str) : Kd H (.str s)
  | lst {a : Addr} {xs : List V} (e : H a = some (.lst xs)) : Kd H (.ref a)
  | tup {a : Addr} {xs : List V} (e : H a = some (.tup xs)) : Kd H (.ref a)
  | dic {a : Addr} {kvs : List (Key × V)} (e : H a = some (.dK kvs)) : Kd H (.ref a)
theorem Kd.same {H H' : Hp} {v : V} (h : Kd H v) (s : Same H H') : Kd H' v := by
  cases h with
  | int i => exact .int i
  | bl b => exact .bl b
  | non => exact .non
  | str s => exact .str s
  | lst e => exact .lst (s _ _ e)
  | tup e => exact .tup (s _ _ e)
  | dic e => exact .dic (s _ _ e)
def isI : V → Bool
  | .int _ => true
  | _ => false
def iv : V → Int
  | .int i => i
  | _ => 0
def isB : V → Bool
  | .bl _ => true
  | _ => false
def inR (v : V) (l h : Int) : Bool := match v with
  | .int i => decide (l ≤ i ∧ i ≤ h)
  | _ => false
section
variable {K : PySem.W.Frag} {H : Hp} {Q : VK} {v : V}
theorem w_isInt (h : Kd H v) (k : Q (.bl (isI v || isB v)) H) : rIsi K [v, .ty "int"] H Q := by
  cases h with
  | int i => exact ⟨_, _, _, _, true, rfl, .ty _, .base (.int i), kit_ty (by decide +kernel), k⟩
  | bl b => exact ⟨_, _, _, _, true, rfl, .ty _, .base (.bl b), kit_ty (by decide +kernel), k⟩
  | non => exact ⟨_, _, _, _, false, rfl, .ty _, .base .non, kit_ty (by decide +kernel), k⟩
  | str s => exact ⟨_, _, _, _, false, rfl, .ty _, .base (.str s), kit_ty (by decide +kernel), k⟩
  | lst e => exact ⟨_, _, _, _, false, rfl, .ty _, .base (.lst e), kit_ty (by decide +kernel), k⟩
  | tup e => exact ⟨_, _, _, _, false, rfl, .ty _, .base (.tup e), kit_ty (by decide +kernel), k⟩
  | dic e => exact ⟨_, _, _, _, false, rfl, .ty _, .base (.dK e), kit_ty (by decide +kernel), k⟩
theorem w_isBool (h : Kd H v) (k : Q (.bl (isB v)) H) : rIsi K [v, .ty "bool"] H Q := by
  cases h with
  | int i => exact ⟨_, _, _, _, false, rfl, .ty _, .base (.int i), kit_ty (by decide +kernel), k⟩
  | bl b => exact ⟨_, _, _, _, true, rfl, .ty _, .base (.bl b), kit_ty (by decide +kernel), k⟩
  | non => exact ⟨_, _, _, _, false, rfl, .ty _, .base .non, kit_ty (by decide +kernel), k⟩
  | str s => exact ⟨_, _, _, _, false, rfl, .ty _, .base (.str s), kit_ty (by decide +kernel), k⟩
  | lst e => exact ⟨_, _, _, _, false, rfl, .ty _, .base (.lst e), kit_ty (by decide +kernel), k⟩
  | tup e => exact ⟨_, _, _, _, false, rfl, .ty _, .base (.tup e), kit_ty (by decide +kernel), k⟩
  | dic e => exact ⟨_, _, _, _, false, rfl, .ty _, .base (.dK e), kit_ty (by decide +kernel), k⟩
end
section
variable {X : Cx} {C : Addr} {bmB : List Value} {B newId initId : String}
/-- X(), X an own error without own __init__ -/
theorem pmk_own0 {x : Str} {p pos : Pos} (F : ExcBaseFacts B newId initId bmB) (q : PySem.W.excIn X.K C bmB newId = true) (gC : X.mg x = some (.ref C)) (kC : PySem.W.keepIn X.K (.ref C) = true) (r : Raises X (.ref C)) (hg : Gl X x)
    (hdb : (x == ("__debug__" : Str)) = false := by decide) : PMk X (.Call (.Name x p) [] [] pos) (fun _ H Q => Q (.ref C) none H) := by
  intro pins s σ H Q I h
  refine wpAny_Call_Name_kw (ld_glob I hg gC ?_ hdb)
  refine PySem.W.callWith_K0 I.kIn kC ?_
  show wpAny _ _ (call (.ref C) []) _ _ _
  obtain ⟨bm, N, nm, qn, bs, hdct, sn, sub, ab, col, dd, k0, k1, k2, k3, k5, mN, hC, hN, hni, T⟩ := exc_obj I.kIn q
  exact wpAny_call_exc_subT F T hC hN hni (fun h' e hm => mk_of I hm r h (I.hok.gone hm.new)) (Nat.zero_le _)
end
section
variable {σ : L2.St} {H : Hp} {Q : VK} {sp : Sp} {E : L2.St → XK} {t : TA} {C : Addr} {D : Ends}
theorem w_callS (k : t σ H fun vs H1 => sp vs H1 Q (E σ)) : tCallS sp E t σ H Q := k
end
/-! promises of checks -/
def SpIsI : Sp := fun vs H Q _ => ∃ v, vs = [v] ∧ Kd H v ∧ ∀ H', Same H H' → Q (.bl (isI v)) H'
theorem w_isI {H : Hp} {Q : VK} {E : XK} {v : V} (h : Kd H v) (q : ∀ H', Same H H' → Q (.bl (isI v)) H') : SpIsI ([v] ++ []) H Q E := ⟨v, rfl, h, q⟩
def SpBet : Sp := fun vs H Q _ => ∃ v l h, vs = [v, .int l, .int h] ∧ Kd H v ∧ ∀ H', Same H H' → Q (.bl (inR v l h)) H'
theorem w_bet {H : Hp} {Q : VK} {E : XK} {v : V} {l h : Int} (hv : Kd H v) (q : ∀ H', Same H H' → Q (.bl (inR v l h)) H') : SpBet ([v, .int l, .int h] ++ []) H Q E := ⟨v, l, h, rfl, hv, q⟩
/-- how a def ends: with a value, or with an error of the class at C -/
inductive Out where
  | val (v : V)
  | err (C : Addr)
def Out.to (o : Out) (Q : VK) (E : XK) (H : Hp) : Prop := match o with
  | .val v => Q v H
  | .err C => E (.ref C) none H
/-- any values of some form: the end that f says, all that was being left as it was -/
def SpOut (n : Nat) (pre : List V → Prop) (f : List V → Out) : Sp := fun vs H Q E => vs.length = n ∧ pre vs ∧ (∀ v ∈ vs, Kd H v) ∧ ∀ H', Same H H' → (f vs).to Q E H'
theorem w_out {n : Nat} {pre : List V → Prop} {f : List V → Out} {vs : List V} {H : Hp} {Q : VK} {E : XK} (hp : pre vs) (hk : ∀ v ∈ vs, Kd H v) (q : ∀ H', Same H H' → (f vs).to Q E H') (hl : vs.length = n := by rfl) : SpOut n pre f vs H Q E := ⟨hl, hp, hk, q⟩
theorem out_if {c : Bool} {C : Addr} {Q : VK} {E : XK} {H : Hp} {v : V} (h1 : c = true → Q v H) (h2 : c = false → E (.ref C) none H) : (if c = true then Out.val v else .err C).to Q E H := by
  cases c with
  | true => exact h1 rfl
  | false => exact h2 rfl
theorem out_yes {c : Bool} {C : Addr} {Q : VK} {E : XK} {H : Hp} {o : Out} (k : (if c = true then o else .err C).to Q E H) (e : c = true) : o.to Q E H := by
  subst e
  exact k
theorem out_no {c : Bool} {C : Addr} {Q : VK} {E : XK} {H : Hp} {o : Out} (k : (if c = true then o else .err C).to Q E H) (e : c = false) : E (.ref C) none H := by
  subst e
  exact k
theorem inR_int {v : V} {l h : Int} (e : inR v l h = true) : ∃ i, v = .int i ∧ l ≤ i ∧ i ≤ h := by
  cases v with
  | int i => exact ⟨i, rfl, of_decide_eq_true e⟩
  | _ => cases e
theorem w_ifn' {c : Bool} {A B : Prop} (h1 : c = false → A) (h2 : c = true → B) : if (!c) = true then A else B := by
  cases c with
  | true => exact h2 rfl
  | false => exact h1 rfl
theorem w_ifb {c : Bool} {A B : Prop} (h1 : c = true → A) (h2 : c = false → B) : if c = true then A else B := by
  cases c with
  | true => exact h1 rfl
  | false => exact h2 rfl
end SC

set_option Elab.async false
set_option linter.all false
set_option maxHeartbeats 1000000
/-! A cup and the cup of one round more: plain mathematics. -/
namespace SC
open L2
theorem place_double {m s : Int} (hm : 0 ≤ m) (h1 : 1 ≤ s) (h2 : s ≤ p2 (m + 1)) : placeOf (m + 1) s = 2 * placeOf m (fold1 (p2 m) s) + (if p2 m < s then 1 else 0) := by
  obtain ⟨_, e⟩ := pl_shift (k := m + 1) h1 h2 (r := 1) (by omega) m.toNat
  have e1 : m + 1 - 1 - ((0 : Nat) : Int) = m := by omega
  have w1 : wy (m + 1) s 1 = fold1 (p2 m) s := by
    show fold1 (p2 (m + 1 - 1 - ((0 : Nat) : Int))) s = _
    rw [e1]
  have l1 : pl (m + 1) s 1 = if p2 m < s then 1 else 0 := by
    show (if p2 (m + 1 - 1 - ((0 : Nat) : Int)) < s then 0 + p2 ((0 : Nat) : Int) else 0) = _
    rw [e1, show p2 ((0 : Nat) : Int) = 1 from p2_zero, Int.zero_add]
  have p1 : p2 ((1 : Nat) : Int) = 2 := by
    have := p2_succ (k := 0) (by omega)
    rw [p2_zero] at this
    exact this
  unfold placeOf
  rw [show (m + 1).toNat = 1 + m.toNat by omega, e, w1, l1, p1, show m + 1 - ((1 : Nat) : Int) = m by omega]
  omega
theorem place_low {m s : Int} (hm : 0 ≤ m) (h1 : 1 ≤ s) (h2 : s ≤ p2 m) : placeOf (m + 1) s = 2 * placeOf m s := by
  have e := p2_succ (k := m) hm
  rw [place_double hm h1 (by have := p2_pos m; omega), fold1, if_neg (by omega), if_neg (by omega)]
  omega
theorem place_mate {m s : Int} (hm : 0 ≤ m) (h1 : 1 ≤ s) (h2 : s ≤ p2 m) : placeOf (m + 1) (2 * p2 m + 1 - s) = 2 * placeOf m s + 1 := by
  have e := p2_succ (k := m) hm
  rw [place_double hm (by omega) (by omega), fold1, if_pos (by omega), if_pos (by omega), show 2 * p2 m + 1 - (2 * p2 m + 1 - s) = s by omega]
theorem seed_low {m s : Int} (hm : 0 ≤ m) (h1 : 1 ≤ s) (h2 : s ≤ p2 m) : seedAt (m + 1) (2 * placeOf m s) = s := by
  have e := p2_succ (k := m) hm
  rw [← place_low hm h1 h2]
  exact seed_place h1 (by omega) (by omega)
theorem seed_mate {m s : Int} (hm : 0 ≤ m) (h1 : 1 ≤ s) (h2 : s ≤ p2 m) : seedAt (m + 1) (2 * placeOf m s + 1) = 2 * p2 m + 1 - s := by
  have e := p2_succ (k := m) hm
  rw [← place_mate hm h1 h2]
  exact seed_place (by omega) (by omega) (by omega)
/-- a block and the two below it -/
theorem blk_below {m s : Int} (hm : 0 < m) (h1 : 1 ≤ s) : blk (2 * m) s = blk m s ∨ blk (2 * m) s = 2 * m + 1 - blk m s := by
  have e := blk_fold hm h1
  unfold fold1 at e
  split at e
  · right; omega
  · left; exact e.symm
theorem blk_above {m s : Int} (hm : 0 < m) (h1 : 1 ≤ s) : blk m s = blk (2 * m) s ∨ blk m s = 2 * m + 1 - blk (2 * m) s := by
  have e := blk_fold hm h1
  unfold fold1 at e
  split at e
  · right; exact e
  · left; exact e
/-- a member of a half is a member of the block -/
theorem half_in {m b x : Int} (hm : 0 < m) (hb : 1 ≤ b) (hb2 : b ≤ m) (h1 : 1 ≤ x) (hx : blk (2 * m) x = b ∨ blk (2 * m) x = 2 * m + 1 - b) : blk m x = b := by
  have e := blk_fold hm h1
  unfold fold1 at e
  split at e <;> omega
/-- the first members of the two halves: their places -/
theorem halves_low {n h b : Int} (h1 : 1 ≤ h) (h2 : h ≤ n) (hb : 1 ≤ b) (hb2 : b ≤ p2 (n - h)) : placeOf n b / p2 (h - 1) = 2 * placeOf (n - h) b ∧ placeOf n b / p2 h = placeOf (n - h) b := by
  have up := p2_succ (k := n - h) (by omega)
  have le := p2_le (k := n - h + 1) (l := n) (by omega)
  have e1 := place_div (k := n) (s := b) (h := h - 1) (by omega) hb (by omega) (by omega) (by omega)
  have e2 := place_div (k := n) (s := b) (h := h) (by omega) hb (by omega) (by omega) (by omega)
  rw [show n - (h - 1) = n - h + 1 by omega, blk_top hb (by omega), place_low (by omega) hb hb2] at e1
  rw [blk_top hb hb2] at e2
  exact ⟨e1, e2⟩
theorem halves_high {n h b : Int} (h1 : 1 ≤ h) (h2 : h ≤ n) (hb : 1 ≤ b) (hb2 : b ≤ p2 (n - h)) : placeOf n (2 * p2 (n - h) + 1 - b) / p2 (h - 1) = 2 * placeOf (n - h) b + 1 ∧ placeOf n (2 * p2 (n - h) + 1 - b) / p2 h = placeOf (n - h) b := by
  have up := p2_succ (k := n - h) (by omega)
  have le := p2_le (k := n - h + 1) (l := n) (by omega)
  have e1 := place_div (k := n) (s := 2 * p2 (n - h) + 1 - b) (h := h - 1) (by omega) (by omega) (by omega) (by omega) (by omega)
  have e2 := place_div (k := n) (s := 2 * p2 (n - h) + 1 - b) (h := h) (by omega) (by omega) (by omega) (by omega) (by omega)
  rw [show n - (h - 1) = n - h + 1 by omega, blk_top (by omega) (by omega), place_mate (by omega) hb hb2] at e1
  have mi := blk_mirror (m := p2 (n - h)) (x := b) (n := 1) (p2_pos _)
  rw [Int.one_mul] at mi
  rw [mi, blk_top hb hb2] at e2
  exact ⟨e1, e2⟩
/-- the rule of the triangular numbers -/
theorem tri_rule {a b j : Int} (hj : 0 ≤ j) : (tri a - tri b) % p2 j = 0 ↔ blk (p2 j) a = blk (p2 j) b := by
  obtain ⟨n, rfl⟩ := Int.eq_ofNat_of_zero_le hj
  rw [← tri_blk n, show p2 (n : Int) = 2 ^ n by unfold p2; simp]
  exact ⟨Int.dvd_of_emod_eq_zero, Int.emod_eq_zero_of_dvd⟩
end SC

set_option Elab.async false
set_option linter.all false
set_option maxRecDepth 100000
set_option maxHeartbeats 4000000
/-! Steps that find their own facts: chains of heaps by what stands in the context. -/
namespace SC
open PySem PySem.Spec PyProof.Rows L2
theorem same_at {A H : Hp} {p : Addr} {o : HO} (s : Same A H) (h : A p = some o) : H p = some o := s _ _ h
theorem kp_at {a : Addr} {A H : Hp} {p : Addr} {o : HO} (g : Kp a A H) (n : p ≠ a) (h : A p = some o) : H p = some o := g _ _ n h
theorem upd_at {A : Hp} {p q : Addr} {o u : HO} (n : p ≠ q) (h : A p = some o) : upd A q u p = some o := by rw [upd_ne n]; exact h
theorem ne_new {H : Hp} {p q : Addr} {o : HO} (h : H p = some o) (hq : H q = none) : p ≠ q := ne_of_none h hq
theorem src_ne {a p : Addr} {N : Int} {H : Hp} (s : Src a N H) (hp : H p = none) : p ≠ a := s.ne hp
theorem same_src {a : Addr} {N : Int} {H H' : Hp} (g : Same H H') (s : Src a N H) : Src a N H' := s.same g
theorem big_abs0 {b : Int} (h0 : 0 ≤ b) (h : b < BIG) : b.natAbs < 2 ^ 2000 := by
  by_cases z : b = 0
  · subst z
    exact Nat.pow_pos (by decide)
  · exact big_abs (by omega) h
theorem same_seq {K : PySem.W.Frag} {H H' : Hp} {a : Addr} {xs : List V} (e : Same H H') (h : SqL K H a xs) : SqL K H' a xs := e.seq h
theorem sq_of {K : PySem.W.Frag} {H : Hp} {a : Addr} {xs : List V} (h : H a = some (.lst xs)) : SqL K H a xs := .inl (.inl h)
theorem sqT_of {K : PySem.W.Frag} {H : Hp} {a : Addr} {xs : List V} (h : H a = some (.tup xs)) : SqT K H a xs := .inl (.inl h)
theorem cdivB {i b : Int} (h0 : 0 < b) (h : b < BIG) : CDivW i b := wide_div h0 (big_abs h0 h) (by decide) (by decide)
theorem cmulB {i j : Int} (h0 : 0 ≤ i) (h : i < BIG) (j0 : 0 ≤ j) (hj : j < BIG) : CMulX i j := mulx_ok (a := 2000) (b := 2000) (big_abs0 h0 h) (big_abs0 j0 hj) (by decide)
/-- how many of the seeds 1 to l are in group b -/
def cnt (m b l : Int) : Int := if turned m (l / m) b ≤ l % m then l / m + 1 else l / m
end SC
namespace SC
open PySem PySem.Spec PyProof.Rows L2
theorem wide_lim {b : Int} (h : b ≤ 10 ^ 300) : b < BIG := Int.lt_of_le_of_lt h (by decide +kernel)
/-- repr of a bool -/
def rReprB : List V → Hp → VK → Prop := fun xs H Q => ∃ b : Bool, xs = [.bl b] ∧ Q (.str (if b then "True" else "False")) H
theorem c_reprB {X : Cx} : CallR X (.builtin "repr") rReprB := by
  intro pins s σ H xs us Q I r h
  obtain ⟨i, rfl, q⟩ := h
  obtain ⟨u, rfl, r1⟩ := vals1 r
  cases r1
  exact PySem.P.repr_of_bool ⟨.str _, H, I.tok _, ⟨_, rfl⟩, q⟩
theorem w_reprB {H : Hp} {Q : VK} {b : Bool} (k : Q (.str (if b then "True" else "False")) H) : rReprB [.bl b] H Q := ⟨b, rfl, k⟩
theorem w_eqS {H : Hp} {Q : VK} {x y : Str} (k : Q (.bl (decide (x = y))) H) : rEq (.str x) (.str y) H Q := ⟨rfl, by
  have e : decide (V.str x = V.str y) = decide (x = y) := by simp
  rw [e]; exact k⟩
theorem dp_bools {K : PySem.W.Frag} {H : Hp} : ∀ ns : List Bool, DpAll K H (ns.map V.bl) (ns.map PyData.bool)
  | [] => .nil
  | n :: ns => .cons (.bl n) (dp_bools ns)
theorem lay_bools : ∀ ns : List Bool, PyData.canLayAll0 (ns.map PyData.bool) = true
  | [] => rfl
  | n :: ns => by simp only [List.map_cons, PyData.canLayAll0, PyData.canLay0, lay_bools ns, Bool.and_self]
theorem dep_bools : ∀ ns : List Bool, PyData.depthAll (ns.map PyData.bool) ≤ 1
  | [] => by simp [PyData.depthAll]
  | n :: ns => by
    have := dep_bools ns
    simp only [List.map_cons, PyData.depthAll, PyData.depth]
    omega
theorem shaped_bools (ns : List Bool) : SeqAt.shaped (.list (ns.map PyData.bool)) = true := by
  unfold SeqAt.shaped
  have h1 := lay_bools ns
  have h2 := dep_bools ns
  rw [Bool.and_eq_true]
  refine ⟨by simpa only [PyData.canLay0] using h1, decide_eq_true ?_⟩
  simp only [PyData.depth]
  omega
theorem w_neLb {K : PySem.W.Frag} {H : Hp} {Q : VK} {p q : Addr} (xs ys : List Bool) (h1 : SqL K H p (xs.map V.bl)) (h2 : SqL K H q (ys.map V.bl)) (e : xs = ys) (k : Q (.bl false) H) : rNeD K (.ref p) (.ref q) H Q := by
  subst e
  exact w_neDs (.lst h1 (dp_bools xs)) (.lst h2 (dp_bools xs)) (shaped_bools xs) k
/-- the sum of the first seeds of a group -/
def gsum (m b c : Int) : Int := c / 2 * (2 * m * (c / 2) + 1) + (if c % 2 = 1 then mem m b (c - 1) else 0)
theorem gsum_step {m b c : Int} : gsum m b (c + 1) - gsum m b c = mem m b c := by
  unfold gsum mem turned
  by_cases h : c % 2 = 0
  · have e1 : (c + 1) / 2 = c / 2 := by omega
    rw [e1, if_pos (show (c + 1) % 2 = 1 by omega), if_neg (show ¬ c % 2 = 1 by omega), if_pos h, show c + 1 - 1 = c by omega, if_pos h]
    omega
  · have e1 : (c + 1) / 2 = c / 2 + 1 := by omega
    rw [e1, if_neg (show ¬ (c + 1) % 2 = 1 by omega), if_pos (show c % 2 = 1 by omega), if_neg h, if_pos (show (c - 1) % 2 = 0 by omega)]
    obtain ⟨q, rfl⟩ : ∃ q, c = 2 * q + 1 := ⟨c / 2, by omega⟩
    rw [show (2 * q + 1) / 2 = q by omega]
    grind
theorem gsum_even {m b h : Int} : gsum m b (2 * h) = h * (2 * m * h + 1) := by
  unfold gsum
  rw [if_neg (by omega), show 2 * h / 2 = h by omega]
  omega
theorem gsum_bound {m b c : Int} (h0 : 0 ≤ m) (hm : m ≤ 10 ^ 41) (b1 : 1 ≤ b) (bm : b ≤ m) (c0 : 0 ≤ c) (hc : c ≤ 10 ^ 41) : 0 ≤ gsum m b c ∧ gsum m b c ≤ 10 ^ 130 := by
  have g1 : 0 ≤ m * (c / 2) := Int.mul_nonneg h0 (by omega)
  have g2 : m * (c / 2) ≤ 10 ^ 41 * 10 ^ 41 := Int.mul_le_mul hm (by omega) (by omega) (by decide)
  have g3 : 0 ≤ c / 2 * (2 * m * (c / 2) + 1) := Int.mul_nonneg (by omega) (by rw [Int.mul_assoc]; omega)
  have g4 : c / 2 * (2 * m * (c / 2) + 1) ≤ 10 ^ 41 * (10 ^ 83) := Int.mul_le_mul (by omega) (by rw [Int.mul_assoc]; omega) (by rw [Int.mul_assoc]; omega) (by decide)
  have g5 : -1 ≤ c - 1 := by omega
  unfold gsum mem turned
  by_cases h : c % 2 = 1
  · have g6 : 0 ≤ (c - 1) * m := Int.mul_nonneg (by omega) h0
    have g7 : (c - 1) * m ≤ 10 ^ 41 * 10 ^ 41 := Int.mul_le_mul (by omega) hm h0 (by decide)
    rw [if_pos h, if_pos (by omega)]
    omega
  · rw [if_neg h]
    omega
end SC
namespace SC
open PySem PySem.Spec PyProof.Rows L2
section
variable {K : PySem.W.Frag} {H : Hp} {Q : VK} {a b : Bool} {p : Addr}
theorem w_isB (k : Q (.bl (decide (a = b))) H) : rIsB (.bl a) (.bl b) H Q := ⟨a, b, rfl, rfl, k⟩
theorem w_isnotB (k : Q (.bl (!decide (a = b))) H) : rNotB (.bl a) (.bl b) H Q := ⟨a, b, rfl, rfl, k⟩
theorem w_isN {x : V} (k : Q (.bl (decide (x = .non))) H) : rIsN x .non H Q := ⟨rfl, k⟩
theorem w_isnotN {x : V} (k : Q (.bl (!decide (x = .non))) H) : rNotN x .non H Q := ⟨rfl, k⟩
theorem inV_int {x : Int} : ∀ ns : List Int, inV (.int x) (ns.map V.int) = decide (x ∈ ns)
  | [] => rfl
  | n :: ns => by
    have ih := inV_int (x := x) ns
    simp only [List.map_cons, inV, List.any_cons] at ih ⊢
    rw [ih]
    by_cases h : x = n
    · subst h
      simp [eqV]
    · simp [eqV, h, Ne.symm h]
theorem flat_ints : ∀ ns : List Int, (ns.map V.int).all flatV = true
  | [] => rfl
  | n :: ns => by
    simp only [List.map_cons, List.all_cons, flat_ints ns, Bool.and_true]
    rfl
theorem w_inI (ns : List Int) {x : Int} (h : SqL K H p (ns.map V.int)) (k : Q (.bl (decide (x ∈ ns))) H) : rIn K false (.int x) (.ref p) H Q :=
  ⟨p, _, rfl, .inl h, rfl, flat_ints ns, by rw [inV_int]; exact k⟩
theorem w_ninI (ns : List Int) {x : Int} (h : SqL K H p (ns.map V.int)) (k : Q (.bl (!decide (x ∈ ns))) H) : rIn K true (.int x) (.ref p) H Q :=
  ⟨p, _, rfl, .inl h, rfl, flat_ints ns, by rw [inV_int]; exact k⟩
end
theorem w_newZ {H : Hp} {Q : VK} {xs : List V} (hz : xs.length ≤ 1000000) (k : ∀ p H', Same H H' → H p = none → H' p = some (.lst xs) → Q (.ref p) H') : NewL xs H Q := w_new k hz
theorem w_newTZ {H : Hp} {Q : VK} {xs : List V} (hz : xs.length ≤ 1000000) (k : ∀ p H', Same H H' → H p = none → H' p = some (.tup xs) → Q (.ref p) H') : NewT xs H Q := w_newT k hz
theorem src_upd {a p : Addr} {N : Int} {H : Hp} {o : HO} (h : p ≠ a) (s : Src a N H) : Src a N (upd H p o) := s.upd h
theorem ne_src {a p : Addr} {N : Int} {H : Hp} (hp : H p = none) (s : Src a N H) : p ≠ a := s.ne hp
theorem ne_new' {H : Hp} {p q : Addr} {o : HO} (hq : H q = none) (h : H p = some o) : p ≠ q := ne_of_none h hq
theorem ifNT {A B : Prop} (h : B) : if (!true) = true then A else B := iteF' rfl h
theorem ifNF {A B : Prop} (h : A) : if (!false) = true then A else B := iteT' rfl h
end SC

set_option Elab.async false
set_option linter.all false
set_option maxRecDepth 100000
set_option maxHeartbeats 4000000
/-! Comprehensions with a test, sums, None; seeds counted. -/
namespace SC
open PySem PySem.Spec PyProof.Rows L2
section
variable {K : PySem.W.Frag} {σ : L2.St} {H : Hp} {Q : VK} {ta : TA} {tl te : TE} {vs : List Nat} {j : Nat} {g : TG} {tt : TT}
theorem w_lcr2F {l n : Int} (pf : Nat → Bool) (f : Nat → V) (h0 : -1000000 ≤ l) (h1 : l ≤ n) (h2 : n ≤ 1000000) (h3 : n - l ≤ 1000000) (hw : ∀ x, wipe ((wipe σ vs).set j (some x)) vs = wipe σ vs)
    (ht : ∀ (i : Nat) H', l + (i : Int) < n → Same H H' → ∀ R : Bool → Hp → Prop, (∀ H2, Same H' H2 → R (pf i) H2) → tt ((wipe σ vs).set j (some (.int (l + (i : Int))))) H' R)
    (he : ∀ (i : Nat) H', l + (i : Int) < n → pf i = true → Same H H' → ∀ R : VK, (∀ H2, Same H' H2 → R (f i) H2) → te ((wipe σ vs).set j (some (.int (l + (i : Int))))) H' R)
    (k : ∀ p H', Same H H' → H p = none → H' p = some (.lst (((List.range (n - l).toNat).filter pf).map f)) → Q (.ref p) H') :
    ∃ i m : Int, [V.int l, V.int n] = [.int i, .int m] ∧ (-(2 ^ 62) ≤ i ∧ i < 2 ^ 62 ∧ -(2 ^ 62) ≤ m ∧ m < 2 ^ 62) ∧ LcB (Itr i (m - i).toNat) (gName j) tt te vs σ H Q := by
  refine ⟨l, n, rfl, ⟨by omega, by omega, by omega, by omega⟩, fun D hD => ?_⟩
  refine lc_range (lo := l) (n := (n - l).toNat) (fun i H' => Same H H' ∧ H' D = some (.lst (((List.range i).filter pf).map f))) ⟨same_upd hD, upd_same⟩ (fun i H' hi p => ?_) (fun H' p => k D H' p.1 hD p.2)
  show wipe ((wipe σ vs).set j (some (.int (l + (i : Int))))) vs = wipe σ vs ∧ tt ((wipe σ vs).set j (some (.int (l + (i : Int))))) H' _
  refine ⟨hw _, ht i H' (by omega) p.1 _ fun H2 s2 => ?_⟩
  have rs : (List.range (i + 1)).filter pf = (List.range i).filter pf ++ (if pf i = true then [i] else []) := by
    rw [List.range_succ, List.filter_append]
    congr 1
    by_cases c : pf i = true
    · rw [if_pos c, List.filter_cons_of_pos c, List.filter_nil]
    · rw [if_neg c, List.filter_cons_of_neg c, List.filter_nil]
  by_cases c : pf i = true
  · rw [if_pos c]
    refine he i H2 (by omega) c (p.1.trans s2) _ fun H3 s3 => ⟨_, s3 _ _ (s2 _ _ p.2), ?_, fun b o hb => ?_, ?_⟩
    · rw [List.length_map]
      have := List.length_filter_le pf (List.range i)
      rw [List.length_range] at this
      exact Nat.lt_of_lt_of_le (show _ < 1000000 by omega) (by decide)
    · rw [upd_ne (ne_of_none hb hD)]
      exact s3 _ _ (s2 _ _ (p.1 _ _ hb))
    · rw [upd_same, rs, if_pos c, List.map_append]
      rfl
  · rw [if_neg c]
    refine ⟨p.1.trans s2, ?_⟩
    rw [rs, if_neg c, List.append_nil]
    exact s2 _ _ p.2
theorem w_lclF {a : Addr} {xs : List V} (pf : V → Bool) (f : V → V) (hs : SqL K H a xs) (hz : xs.length ≤ 1000000) (hw : ∀ x, wipe ((wipe σ vs).set j (some x)) vs = wipe σ vs)
    (ht : ∀ (i : Nat) x H', xs[i]? = some x → Same H H' → ∀ R : Bool → Hp → Prop, (∀ H2, Same H' H2 → R (pf x) H2) → tt ((wipe σ vs).set j (some x)) H' R)
    (he : ∀ (i : Nat) x H', xs[i]? = some x → pf x = true → Same H H' → ∀ R : VK, (∀ H2, Same H' H2 → R (f x) H2) → te ((wipe σ vs).set j (some x)) H' R)
    (k : ∀ p H', Same H H' → H p = none → H' p = some (.lst ((xs.filter pf).map f)) → Q (.ref p) H') :
    ∃ b, V.ref a = .ref b ∧ (∃ xs, SqL K H b xs) ∧ LcB (Itl K b) (gName j) tt te vs σ H Q := by
  refine ⟨a, rfl, ⟨xs, hs⟩, fun D hD => ?_⟩
  refine lc_list (xs := xs) (fun i H' => Same H H' ∧ H' D = some (.lst (((xs.take i).filter pf).map f))) ⟨same_upd hD, by rw [List.take_zero]; exact upd_same⟩ (fun i H' _ p => p.1.seq hs) (fun i x H' hi p => ?_) (fun H' p => k D H' p.1 hD (by have := p.2; rwa [List.take_length] at this))
  show wipe ((wipe σ vs).set j (some x)) vs = wipe σ vs ∧ tt ((wipe σ vs).set j (some x)) H' _
  have rs : (xs.take (i + 1)).filter pf = (xs.take i).filter pf ++ (if pf x = true then [x] else []) := by
    rw [List.take_add_one, hi, List.filter_append]
    congr 1
    by_cases c : pf x = true
    · rw [if_pos c]
      exact List.filter_cons_of_pos c
    · rw [if_neg c]
      exact List.filter_cons_of_neg c
  refine ⟨hw _, ht i x H' hi p.1 _ fun H2 s2 => ?_⟩
  by_cases c : pf x = true
  · rw [if_pos c]
    refine he i x H2 hi c (p.1.trans s2) _ fun H3 s3 => ⟨_, s3 _ _ (s2 _ _ p.2), ?_, fun b o hb => ?_, ?_⟩
    · rw [List.length_map]
      have h1 := List.length_filter_le pf (xs.take i)
      have h2 := (List.getElem?_eq_some_iff.mp hi).1
      rw [List.length_take] at h1
      exact Nat.lt_of_lt_of_le (show _ < 1000000 by omega) (by decide)
    · rw [upd_ne (ne_of_none hb hD)]
      exact s3 _ _ (s2 _ _ (p.1 _ _ hb))
    · rw [upd_same, rs, if_pos c, List.map_append]
      rfl
  · rw [if_neg c]
    refine ⟨p.1.trans s2, ?_⟩
    rw [rs, if_neg c, List.append_nil]
    exact s2 _ _ p.2
end
def rInt1 : List V → Hp → VK → Prop := fun xs H Q => (∃ i, xs = [.int i] ∧ Q (.int i) H) ∨ ∃ k, xs = [.bl k] ∧ Q (.int (if k then 1 else 0)) H
theorem c_int1 {X : Cx} : CallR X (.type "int") rInt1 := call_int1
section
variable {K : PySem.W.Frag} {H : Hp} {Q : VK} {a p : Addr} {b : Bool} {i : Int} {v : V} {d : PyData}
theorem w_intB (k : Q (.int (if b then 1 else 0)) H) : rInt1 [.bl b] H Q := .inr ⟨b, rfl, k⟩
theorem w_intI (k : Q (.int i) H) : rInt1 [.int i] H Q := .inl ⟨i, rfl, k⟩
theorem w_sum (ns : List Int) (h : SqL K H a (ns.map V.int)) (k : Q (.int ns.sum) H) : rSum K [.ref a] H Q := ⟨a, ns, rfl, h, k⟩
theorem w_min (ns : List Int) (h : SqL K H a (ns.map V.int)) (h0 : 0 < ns.length) (k : ∀ m, m ∈ ns → (∀ y, y ∈ ns → m ≤ y) → Q (.int m) H) : rMin K [.ref a] H Q := ⟨a, ns, rfl, h, h0, k⟩
theorem w_isi_n (k : Q (.bl false) H) : rIsi K [.non, .ty "bool"] H Q := ⟨_, _, _, _, false, rfl, .ty _, .base .non, kit_ty (by decide +kernel), k⟩
theorem w_isiT_n (h : H p = some (.tup [.ty "list", .ty "tuple"])) (k : Q (.bl false) H) : rIsiT K [.non, .ref p] H Q :=
  ⟨_, _, _, _, _, false, rfl, h, .cons (.ty _) (.cons (.ty _) .nil), .base .non, kitAny_cons (kit_ty (b := "list") (r := false) (by decide +kernel)) (fun _ => kitAny_cons (kit_ty (b := "tuple") (r := false) (by decide +kernel)) (fun _ => kitAny_nil) (fun z => nomatch z)) (fun z => nomatch z), k⟩
theorem w_eqN (k : Q (.bl true) H) : rEq .non .non H Q := ⟨rfl, by simpa using k⟩
/-- a list of ints and the empty list -/
theorem w_ne0 (ns : List Int) {q : Addr} (h1 : SqL K H p (ns.map V.int)) (h2 : H q = some (.lst [])) (k : Q (.bl (decide (ns ≠ []))) H) : rNeD K (.ref p) (.ref q) H Q := by
  refine ⟨_, _, .lst h1 (dp_ints ns), .lst (.inl (.inl h2)) .nil, shaped_ints ns, shaped_ints [], ?_⟩
  cases ns with
  | nil =>
    rw [show PyData.eqv (.list (([] : List Int).map PyData.int)) (.list []) = true from eqv_ints []]
    simpa using k
  | cons n r =>
    have e : PyData.eqv (.list ((n :: r).map PyData.int)) (.list []) = false := by rfl
    rw [e]
    simpa using k
end
/-! how many of the seeds 1 to l stand in a block -/
theorem cnt_halves {m b l : Int} (hm : 0 < m) (b1 : 1 ≤ b) (b2 : b ≤ m) : cnt (2 * m) b l + cnt (2 * m) (2 * m + 1 - b) l = cnt m b l := by
  have d1 := Int.emod_add_mul_ediv l (2 * m)
  have n1 := Int.emod_nonneg l (b := 2 * m) (by omega)
  have l1 := Int.emod_lt_of_pos l (b := 2 * m) (by omega)
  generalize hq : l / (2 * m) = q at d1
  generalize ht : l % (2 * m) = t at d1 n1 l1
  unfold cnt turned
  rw [hq, ht]
  by_cases c : t < m
  · have e1 : l / m = 2 * q := by
      rw [← d1, show t + 2 * m * q = t + (2 * q) * m by rw [Int.mul_comm 2 m, Int.mul_assoc, Int.mul_comm m], Int.add_mul_ediv_right _ _ (by omega), Int.ediv_eq_zero_of_lt n1 c]
      omega
    have e2 : l % m = t := by
      rw [← d1, show t + 2 * m * q = t + (2 * q) * m by rw [Int.mul_comm 2 m, Int.mul_assoc, Int.mul_comm m], Int.add_mul_emod_self_right, Int.emod_eq_of_lt n1 c]
    rw [e1, e2]
    repeat' split
    all_goals omega
  · have e1 : l / m = 2 * q + 1 := by
      rw [← d1, show t + 2 * m * q = (t - m) + (2 * q + 1) * m by rw [Int.mul_comm 2 m, Int.mul_assoc, Int.mul_comm m, Int.add_mul]; omega, Int.add_mul_ediv_right _ _ (by omega), Int.ediv_eq_zero_of_lt (by omega) (by omega)]
      omega
    have e2 : l % m = t - m := by
      rw [← d1, show t + 2 * m * q = (t - m) + (2 * q + 1) * m by rw [Int.mul_comm 2 m, Int.mul_assoc, Int.mul_comm m, Int.add_mul]; omega, Int.add_mul_emod_self_right, Int.emod_eq_of_lt (by omega) (by omega)]
    rw [e1, e2]
    repeat' split
    all_goals omega
theorem cnt_one {l : Int} : cnt 1 1 l = l := by
  unfold cnt turned
  have e : l % 1 = 0 := by omega
  rw [e, show l / 1 = l by omega]
  split <;> split at * <;> omega
theorem cnt_nn {m b l : Int} (hm : 0 < m) (hl : 0 ≤ l) : 0 ≤ cnt m b l := by
  unfold cnt
  have := Int.ediv_nonneg (a := l) (b := m) hl (by omega)
  split <;> omega
/-- of the first row: the seed itself -/
theorem cnt_top {m b l : Int} (hm : 0 < m) (b1 : 1 ≤ b) (bl : b ≤ l) (lm : l ≤ m) : cnt m b l = 1 := by
  unfold cnt turned
  by_cases c : l = m
  · subst c
    rw [Int.ediv_self (by omega), Int.emod_self, if_neg (show ¬ (1 : Int) % 2 = 0 by decide), if_neg (by omega)]
  · rw [Int.ediv_eq_zero_of_lt (a := l) (b := m) (by omega) (by omega), Int.emod_eq_of_lt (a := l) (b := m) (by omega) (by omega), if_pos (show (0 : Int) % 2 = 0 by decide), if_pos bl]
    omega
theorem cnt_full {m b n : Int} (hm : 0 < m) (b1 : 1 ≤ b) (b2 : b ≤ m) : cnt m b (n * m) = n := by
  unfold cnt turned
  rw [Int.mul_ediv_cancel _ (by omega), Int.mul_emod_left]
  split <;> split at * <;> omega
/-- one player more -/
theorem cnt_more {m b l : Int} (hm : 0 < m) (b1 : 1 ≤ b) (b2 : b ≤ m) (hl : 0 ≤ l) : cnt m b (l + 1) - cnt m b l = if blk m (l + 1) = b then 1 else 0 := by
  have d1 := Int.emod_add_mul_ediv l m
  have n1 := Int.emod_nonneg l (b := m) (by omega)
  have l1 := Int.emod_lt_of_pos l hm
  generalize hq : l / m = q at d1
  generalize ht : l % m = t at d1 n1 l1
  have ec : l + 1 - 1 = l := by omega
  unfold cnt blk turned
  rw [ec, hq, ht]
  by_cases c : t + 1 < m
  · have e1 : (l + 1) / m = q := by
      rw [← d1, show t + m * q + 1 = (t + 1) + q * m by rw [Int.mul_comm]; omega, Int.add_mul_ediv_right _ _ (by omega), Int.ediv_eq_zero_of_lt (by omega) c]
      omega
    have e2 : (l + 1) % m = t + 1 := by
      rw [← d1, show t + m * q + 1 = (t + 1) + q * m by rw [Int.mul_comm]; omega, Int.add_mul_emod_self_right, Int.emod_eq_of_lt (by omega) c]
    rw [e1, e2]
    repeat' split
    all_goals omega
  · have e1 : (l + 1) / m = q + 1 := by
      rw [← d1, show t + m * q + 1 = 0 + (q + 1) * m by rw [Int.mul_comm, Int.add_mul]; omega, Int.add_mul_ediv_right _ _ (by omega), Int.zero_ediv]
      omega
    have e2 : (l + 1) % m = 0 := by
      rw [← d1, show t + m * q + 1 = 0 + (q + 1) * m by rw [Int.mul_comm, Int.add_mul]; omega, Int.add_mul_emod_self_right, Int.zero_emod]
    rw [e1, e2]
    repeat' split
    all_goals omega
/-- the other half of the block of level t around a seed -/
def oth (k t s : Int) : Int := p2 (k - t + 1) + 1 - blk (p2 (k - t + 1)) s
theorem oth_range {k t s : Int} : 1 ≤ oth k t s ∧ oth k t s ≤ p2 (k - t + 1) := by
  have := blk_range (m := p2 (k - t + 1)) (s := s) (p2_pos _)
  unfold oth
  omega
theorem cnt_level {k t s l : Int} (t0 : 1 ≤ t) (t1 : t ≤ k) (hs : 1 ≤ s) : cnt (p2 (k - t + 1)) (blk (p2 (k - t + 1)) s) l + cnt (p2 (k - t + 1)) (oth k t s) l = cnt (p2 (k - t)) (blk (p2 (k - t)) s) l := by
  have M0 := p2_pos (k - t)
  have e := p2_succ (k := k - t) (by omega)
  have br := blk_range (m := p2 (k - t)) (s := s) M0
  have h := cnt_halves (m := p2 (k - t)) (b := blk (p2 (k - t)) s) (l := l) M0 br.1 br.2
  have f := blk_below (m := p2 (k - t)) (s := s) M0 hs
  unfold oth
  rw [e]
  rcases f with f | f
  · rw [f]
    exact h
  · rw [f, show 2 * p2 (k - t) + 1 - (2 * p2 (k - t) + 1 - blk (p2 (k - t)) s) = blk (p2 (k - t)) s by omega]
    omega
/-- the new player meets the seed in round t -/
theorem oth_meets {k t a b : Int} (hk : 0 ≤ k) (t0 : 1 ≤ t) (t1 : t ≤ k) (ha : 1 ≤ a ∧ a ≤ p2 k) (hb : 1 ≤ b ∧ b ≤ p2 k) : blk (p2 (k - t + 1)) b = oth k t a ↔ t = lev k [a, b] a := by
  have M0 := p2_pos (k - t)
  have e := p2_succ (k := k - t) (by omega)
  have h1 := lev_two hk ha hb (h := t) (by omega) t1
  have h2 := lev_two hk ha hb (h := t - 1) (by omega) (by omega)
  rw [show k - (t - 1) = k - t + 1 by omega] at h2
  have fa := blk_fold (m := p2 (k - t)) (s := a) M0 ha.1
  have fb := blk_fold (m := p2 (k - t)) (s := b) M0 hb.1
  have ra := blk_range (m := p2 (k - t + 1)) (s := a) (p2_pos _)
  have rb := blk_range (m := p2 (k - t + 1)) (s := b) (p2_pos _)
  rw [← e] at fa fb
  unfold fold1 at fa fb
  unfold oth
  by_cases c : blk (p2 (k - t)) a = blk (p2 (k - t)) b
  · have q1 := h1.mpr c
    by_cases c2 : blk (p2 (k - t + 1)) a = blk (p2 (k - t + 1)) b
    · have q2 := h2.mpr c2
      omega
    · have q2 : ¬ lev k [a, b] a ≤ t - 1 := fun z => c2 (h2.mp z)
      split at fa <;> split at fb <;> omega
  · have q1 : ¬ lev k [a, b] a ≤ t := fun z => c (h1.mp z)
    split at fa <;> split at fb <;> omega
end SC
namespace SC
open PySem PySem.Spec PyProof.Rows L2
theorem cnt_pos {m b l : Int} (hm : 0 < m) (b1 : 1 ≤ b) (b2 : b ≤ m) (hl : 0 ≤ l) : 0 < SC.cnt m b l ↔ b ≤ l := by
  have q0 := Int.ediv_nonneg (a := l) (b := m) hl (by omega)
  by_cases c : l < m
  · unfold SC.cnt turned
    rw [Int.ediv_eq_zero_of_lt (a := l) (b := m) (by omega) (by omega), Int.emod_eq_of_lt (a := l) (b := m) (by omega) (by omega), if_pos (show (0 : Int) % 2 = 0 by decide)]
    split <;> omega
  · have q1 : 1 ≤ l / m := by
      have := Int.ediv_le_ediv (a := m) (b := l) hm (by omega)
      rwa [Int.ediv_self (by omega)] at this
    unfold SC.cnt
    split <;> omega
/-- the head of a rising list is its least item -/
theorem head_least {x : Int} {r : List Int} (h : (x :: r).Pairwise (· < ·)) : ∀ y ∈ x :: r, x ≤ y := fun y hy => by
  rcases List.mem_cons.mp hy with rfl | hy
  · omega
  · have := (List.pairwise_cons.mp h).1 y hy
    omega
theorem rising_filter (n : Nat) (pf : Nat → Bool) : (((List.range n).filter pf).map fun i : Nat => 1 + (i : Int)).Pairwise (· < ·) := by
  rw [List.pairwise_map]
  refine (List.Pairwise.filter pf List.pairwise_lt_range).imp ?_
  intro a b h
  omega
end SC

set_option Elab.async false
set_option linter.all false
set_option maxRecDepth 100000
set_option maxHeartbeats 4000000
/-! Parts of the bracket's list: their least seed, how many of them are players. -/
namespace SC
open PySem PySem.Spec PyProof.Rows L2
theorem mem_le {m b i l : Int} (hm : 0 < m) (b1 : 1 ≤ b) (b2 : b ≤ m) (i0 : 0 ≤ i) (l0 : 0 ≤ l) : mem m b i ≤ l ↔ i < SC.cnt m b l := by
  have d1 := Int.emod_add_mul_ediv l m
  have n1 := Int.emod_nonneg l (b := m) (by omega)
  have l1 := Int.emod_lt_of_pos l hm
  have q0 := Int.ediv_nonneg (a := l) (b := m) l0 (by omega)
  unfold SC.cnt
  generalize l / m = r at *
  generalize l % m = t at *
  have tr : ∀ x : Int, 1 ≤ turned m x b ∧ turned m x b ≤ m := fun x => by unfold turned; split <;> omega
  have ti := tr i
  rw [Int.mul_comm] at d1
  unfold mem
  by_cases c : i < r
  · have h2 : (i + 1) * m ≤ r * m := Int.mul_le_mul_of_nonneg_right (by omega) (by omega)
    rw [Int.add_mul] at h2
    split <;> omega
  · by_cases c2 : i = r
    · subst c2
      split <;> omega
    · have h2 : (r + 1) * m ≤ i * m := Int.mul_le_mul_of_nonneg_right (by omega) (by omega)
      rw [Int.add_mul] at h2
      split <;> omega
theorem cnt_le {m b n l : Int} (hm : 0 < m) (b1 : 1 ≤ b) (b2 : b ≤ m) (n0 : 0 ≤ n) (l0 : 0 ≤ l) (h : l ≤ n * m) : SC.cnt m b l ≤ n := by
  by_cases c : n < SC.cnt m b l
  · have := (mem_le hm b1 b2 n0 l0).mpr c
    unfold mem turned at this
    split at this <;> omega
  · omega
theorem filter_lt (c : Nat) : ∀ N : Nat, ((List.range N).filter fun i : Nat => decide ((i : Int) < (c : Int))).length = min N c
  | 0 => by simp
  | N + 1 => by
    have ih := filter_lt c N
    rw [List.range_succ, List.filter_append, List.length_append, ih]
    by_cases h : (N : Int) < c
    · rw [List.filter_cons_of_pos (by simpa using h)]
      simp only [List.filter_nil, List.length_cons, List.length_nil]
      omega
    · rw [List.filter_cons_of_neg (by simpa using h)]
      simp only [List.filter_nil, List.length_nil]
      omega
theorem ext_perm {m s : Int} (hm : 0 ≤ m) (h1 : 1 ≤ s) (h2 : s ≤ p2 m) (h : Nat) : (mems (p2 m) s (2 ^ h)).Perm (ext m s h) := by
  have pm : ((ext m s h).mergeSort (fun a b => decide (a ≤ b))).Perm (ext m s h) := List.mergeSort_perm _ _
  have so : ((ext m s h).mergeSort (fun a b => decide (a ≤ b))).Pairwise (· ≤ ·) := by
    have := List.pairwise_mergeSort (le := fun a b : Int => decide (a ≤ b)) (fun a b c x y => by simp only [decide_eq_true_eq] at *; omega) (fun a b => by simp only [Bool.or_eq_true, decide_eq_true_eq]; omega) (ext m s h)
    exact this.imp fun x => of_decide_eq_true x
  rw [← part_sorted hm h1 h2 pm so]
  exact pm
theorem ext_count {m s l : Int} (hm : 0 ≤ m) (h1 : 1 ≤ s) (h2 : s ≤ p2 m) (h : Nat) (l0 : 0 ≤ l) (hl : l ≤ p2 h * p2 m) : (((ext m s h).filter fun x => decide (x ≤ l)).length : Int) = SC.cnt (p2 m) s l := by
  have mp := p2_pos m
  have e := ((ext_perm hm h1 h2 h).filter fun x => decide (x ≤ l)).length_eq
  rw [← e]
  unfold mems
  rw [List.filter_map, List.length_map]
  have c0 := cnt_nn (b := s) mp l0
  have cl := cnt_le mp h1 h2 (n := p2 h) (Int.le_of_lt (p2_pos _)) l0 hl
  obtain ⟨c, hc⟩ := Int.eq_ofNat_of_zero_le c0
  have fe : (List.range (2 ^ h)).filter ((fun x => decide (x ≤ l)) ∘ fun i : Nat => mem (p2 m) s (i : Int)) = (List.range (2 ^ h)).filter fun i : Nat => decide ((i : Int) < (c : Int)) := by
    refine List.filter_congr fun i _ => ?_
    show decide (mem (p2 m) s (i : Int) ≤ l) = decide ((i : Int) < (c : Int))
    rw [← hc]
    exact decide_eq_decide.mpr (mem_le mp h1 h2 (by omega) l0)
  rw [fe, filter_lt, hc]
  rw [hc, p2_nat] at cl
  omega
theorem ext_has (m s : Int) : ∀ h : Nat, s ∈ ext m s h
  | 0 => by simp [ext]
  | h + 1 => by
    simp only [ext, List.mem_flatMap, List.mem_cons, List.not_mem_nil, or_false]
    exact ⟨s, ext_has m s h, .inl rfl⟩
theorem ext_least {m s : Int} (hm : 0 ≤ m) (h1 : 1 ≤ s) (h2 : s ≤ p2 m) {h : Nat} : ∀ x ∈ ext m s h, s ≤ x := fun x hx => by
  obtain ⟨r, b⟩ := ext_in hm h1 h2 h x hx
  have mp := p2_pos m
  have q0 := Int.ediv_nonneg (a := x - 1) (b := p2 m) (by omega) (by omega)
  have e := mem_back (m := p2 m) (s := x) mp
  rw [b] at e
  rw [← e]
  unfold mem turned
  by_cases c : (x - 1) / p2 m = 0
  · rw [c]
    simp
  · have h2 : 1 * p2 m ≤ (x - 1) / p2 m * p2 m := Int.mul_le_mul_of_nonneg_right (by omega) (by omega)
    split <;> omega
theorem brk_cut {n h j : Nat} {s : Int} (hn : h ≤ n) (hs : (brk (n - h))[j]? = some s) : ((brk n).drop (j * 2 ^ h)).take (2 ^ h) = ext ((n - h : Nat) : Int) s h := by
  have e : brk n = (brk (n - h)).flatMap fun x => ext (0 + ((n - h : Nat) : Int)) x h := by
    have := ext_two 0 1 (n - h) h
    rw [show n - h + h = n by omega] at this
    exact this
  rw [e, Int.zero_add]
  exact cut_parts (f := fun x => ext ((n - h : Nat) : Int) x h) _ j _ (fun y => ext_len _ _ _) hs
theorem flat2 (c : Int) : ∀ (l : List Int) (q : Nat) (x : Int), l[q]? = some x → (l.flatMap fun x => [x, c - x])[2 * q]? = some x ∧ (l.flatMap fun x => [x, c - x])[2 * q + 1]? = some (c - x)
  | [], q, x, h => by simp at h
  | a :: r, 0, x, h => by
    have e : a = x := Option.some.inj h
    subst e
    exact ⟨rfl, rfl⟩
  | a :: r, q + 1, x, h => by
    have ih := flat2 c r q x h
    rw [show 2 * (q + 1) = 2 * q + 1 + 1 by omega, show 2 * q + 1 + 1 + 1 = (2 * q + 1) + 1 + 1 by omega]
    simp only [List.flatMap_cons, List.cons_append, List.nil_append, List.getElem?_cons_succ]
    exact ih
theorem brk_two {k q : Nat} {x : Int} (h : (brk k)[q]? = some x) : (brk (k + 1))[2 * q]? = some x ∧ (brk (k + 1))[2 * q + 1]? = some (2 * p2 k + 1 - x) := by
  have e : brk (k + 1) = (brk k).flatMap fun x => [x, 2 * p2 k + 1 - x] := by
    show (ext 0 1 k).flatMap (fun x => [x, 2 * p2 (0 + (k : Int)) + 1 - x]) = _
    rw [Int.zero_add]
    rfl
  rw [e]
  exact flat2 (2 * p2 k + 1) _ q x h
/-- the neighbour in the list -/
theorem brk_sib {k i : Nat} {x : Int} (h : (brk (k + 1))[i]? = some x) : (brk (k + 1))[if i % 2 = 0 then i + 1 else i - 1]? = some (p2 ((k + 1 : Nat) : Int) + 1 - x) := by
  have hi : i < 2 ^ (k + 1) := by
    have := (List.getElem?_eq_some_iff.mp h).1
    rwa [brk_len] at this
  have hq : i / 2 < 2 ^ k := by rw [Nat.pow_succ] at hi; omega
  obtain ⟨y, hy⟩ : ∃ y, (brk k)[i / 2]? = some y := ⟨_, List.getElem?_eq_getElem (by rw [brk_len]; exact hq)⟩
  have t := brk_two hy
  have ep : p2 ((k + 1 : Nat) : Int) = 2 * p2 k := by
    have := p2_succ (k := (k : Int)) (by omega)
    rw [← this]; congr 1
  rw [ep]
  by_cases c : i % 2 = 0
  · rw [if_pos c]
    rw [show 2 * (i / 2) = i by omega] at t
    have e : x = y := Option.some.inj (h.symm.trans t.1)
    rw [e]
    exact t.2
  · rw [if_neg c]
    rw [show 2 * (i / 2) + 1 = i by omega] at t
    have e : x = 2 * p2 k + 1 - y := Option.some.inj (h.symm.trans t.2)
    rw [e, show 2 * p2 k + 1 - (2 * p2 k + 1 - y) = y by omega, show i - 1 = 2 * (i / 2) by omega]
    exact t.1
theorem filter_not (p : Int → Bool) : ∀ l : List Int, (l.filter p).length + (l.filter fun x => !p x).length = l.length
  | [] => rfl
  | a :: r => by
    have ih := filter_not p r
    by_cases c : p a = true
    · rw [List.filter_cons_of_pos c, List.filter_cons_of_neg (by simp [c])]
      simp only [List.length_cons]
      omega
    · rw [List.filter_cons_of_neg c, List.filter_cons_of_pos (by simpa using c)]
      simp only [List.length_cons]
      omega
/-- how many matches of a round have two players -/
theorem brk_both (k : Nat) {p : Int} (hp : 0 ≤ p) : (((brk k).filter fun x => decide (2 * p2 k + 1 - x ≤ p)).length : Int) = max 0 (min (p2 k) (p - p2 k)) := by
  have P0 := p2_pos (k : Int)
  have e1 : ((brk k).filter fun x => decide (2 * p2 k + 1 - x ≤ p)) = (brk k).filter fun x => !decide (x ≤ min (p2 k) (max 0 (2 * p2 k - p))) := by
    refine List.filter_congr fun x hx => ?_
    have r := brk_in k x hx
    by_cases c : 2 * p2 k + 1 - x ≤ p
    · rw [decide_eq_true c, decide_eq_false (by omega)]
      rfl
    · rw [decide_eq_false c, decide_eq_true (by omega)]
      rfl
  have c1 := ext_count (m := 0) (s := 1) (l := min (p2 k) (max 0 (2 * p2 k - p))) (by decide) (by decide) (by rw [p2_zero]; decide) k (by omega) (by rw [p2_zero]; omega)
  rw [p2_zero, cnt_one] at c1
  have f := filter_not (fun x => decide (x ≤ min (p2 k) (max 0 (2 * p2 k - p)))) (brk k)
  rw [brk_len] at f
  have pn := p2_nat k
  rw [e1]
  unfold brk at f ⊢
  omega
/-- all matches of the rounds 1 to d -/
theorem both_sum {k p : Int} (hp : 1 ≤ p) (hk : p ≤ p2 k) : ∀ d : Nat, (d : Int) ≤ k → ((List.range d).map fun i : Nat => max 0 (min p (p2 (k - (1 + (i : Int)) + 1)) - p2 (k - (1 + (i : Int)) + 1) / 2)).sum = p - min p (p2 (k - d))
  | 0, _ => by
    rw [show k - ((0 : Nat) : Int) = k by omega]
    simp
    omega
  | d + 1, hd => by
    have ih := both_sum hp hk d (by omega)
    have e := p2_half (k := k - d) (by omega)
    have ph := p2_pos (k - d - 1)
    rw [List.range_succ, List.map_append, List.sum_append, ih]
    simp only [List.map_cons, List.map_nil, List.sum_cons, List.sum_nil]
    rw [show k - (1 + (d : Int)) + 1 = k - d by omega, show k - ((d + 1 : Nat) : Int) = k - d - 1 by omega]
    omega
end SC
namespace SC
open PySem PySem.Spec PyProof.Rows L2
def BmL (K : PySem.W.Frag) (T : String) (r : V → List V → Hp → VK → Prop) (t : TA) (σ : L2.St) (x : V) (H : Hp) (Q : VK) : Prop := tyV K T x H ∧ t σ H fun xs H2 => r x xs H2 Q
section
variable {K : PySem.W.Frag} {σ : L2.St} {H : Hp} {Q : VK} {to : TE} {t : TA} {T : String} {r : V → List V → Hp → VK → Prop} {p : Addr} {xs : List V}
theorem w_bm (k : to σ H fun x H1 => BmL K T r t σ x H1 Q) : tBM K T r to t σ H Q := k
theorem w_bml (h : SqL K H p xs) (k : t σ H fun ys H2 => r (.ref p) ys H2 Q) : BmL K "list" r t σ (.ref p) H Q := ⟨.inl ⟨rfl, _, h⟩, k⟩
theorem w_index (ns : List Int) {x : Int} {j : Nat} (h : SqL K H p (ns.map V.int)) (hj : ns[j]? = some x) (hn : ns.Nodup) (k : Q (.int (j : Nat)) H) : rIndex K (.ref p) [.int x] H Q := by
  refine ⟨p, _, .int x, j, .int x, rfl, rfl, h, rfl, flat_ints ns, by rw [List.getElem?_map, hj]; rfl, by simp [eqV], fun m z' hm hz => ?_, k⟩
  obtain ⟨z, ez, rfl⟩ := at_int hz
  have hne : z ≠ x := fun e => by
    subst e
    have h1 := (List.getElem?_eq_some_iff.mp ez).1
    have := (List.getElem?_inj h1 hn).mp (ez.trans hj.symm)
    omega
  simp [eqV, hne]
end
theorem rgc_pow13 {m c : Nat} (hm : 0 < m) (hc : 0 < c) (hm2 : m ≤ 2 ^ 13) (hc2 : c ≤ 2 ^ 13) : RgC 0 ((m * c : Nat) : Int) (c : Int) m := by
  have e : ((m * c : Nat) : Int) = (m : Int) * (c : Int) := by push_cast; rfl
  have e2 : ((m : Int) * (c : Int) - 0 - 1) / (c : Int) + 1 = m := by
    rw [show (m : Int) * (c : Int) - 0 - 1 = ((c : Int) - 1) + ((m : Int) - 1) * (c : Int) by rw [Int.sub_mul]; omega, Int.add_mul_ediv_right _ _ (by omega), Int.ediv_eq_zero_of_lt (by omega) (by omega)]
    omega
  have e3 : (0 : Int) < (m : Int) * (c : Int) := Int.mul_pos (by omega) (by omega)
  have e4 : m * c ≤ 2 ^ 13 * 2 ^ 13 := Nat.mul_le_mul hm2 hc2
  have sz : PySem.Builtin.Range.rangeSize 0 ((m * c : Nat) : Int) (c : Int) = m := by
    unfold PySem.Builtin.Range.rangeSize
    rw [if_pos (by omega), e, if_pos e3, e2]
  refine ⟨by omega, by omega, ?_, sz⟩
  unfold PySem.Builtin.Range.small
  rw [sz]
  simp only [PySem.Builtin.Range.rangeFitsLong, Bool.and_eq_true, Bool.or_eq_true, decide_eq_true_eq, beq_iff_eq, if_pos (show (c : Int) > 0 by omega)]
  omega
end SC

set_option Elab.async false
set_option linter.all false
set_option maxRecDepth 100000
set_option maxHeartbeats 4000000
namespace My
open PySem PySem.Spec PyProof.Rows L2 SC StX
local macro_rules | `(tactic| walk_at "s1") => `(tactic| first
  | (with_reducible refine SC.w_seq ?_)
  | (with_reducible refine SC.w_op ?_)
  | ((with_reducible refine SC.w_var (v := ?v0) ?vh ?_); (case vh => rfl))
  | (with_reducible refine SC.w_c ?_)
  | (with_reducible refine SC.w_i0 ?_)
  | (with_reducible refine SC.w_eq ?_)
  | (with_reducible refine SC.w_ne ?_)
  | (with_reducible refine SC.w_cons ?_)
  | (with_reducible refine SC.w_nil ?_)
  | (with_reducible refine SC.w_call ?_)
  | (with_reducible refine SC.w_cb ?_)
  | (with_reducible refine SC.w_asg ?_)
  | (with_reducible refine SC.w_gname ?_)
  | (with_reducible refine SC.w_ret ?_)
  | (with_reducible refine SC.w_gsub ?_)
  | (with_reducible refine SC.w_callR ?_)
  | (with_reducible refine SC.w_callRk ?_)
  | (with_reducible refine SC.w_star ?_)
  | (with_reducible refine SC.w_bits ?_)
  | (with_reducible refine SC.w_isi_bb ?_)
  | (with_reducible refine SC.w_eqB ?_)
  | (with_reducible refine SC.w_neB ?_)
  | (with_reducible refine SC.w_callN ?_)
  | (with_reducible refine SC.w_lc1 ?_)
  | (with_reducible refine SC.w_lc2 ?_)
  | (with_reducible refine SC.w_lcL ?_)
  | (with_reducible refine SC.w_lrg1 ?_)
  | (with_reducible refine SC.w_lrg2 ?_)
  | (with_reducible refine SC.w_slice ?_)
  | (with_reducible refine SC.w_nopart ?_)
  | (with_reducible refine SC.w_part ?_)
  | (with_reducible refine SC.w_isi ?_)
  | (with_reducible refine SC.w_for3 ?_)
  | (with_reducible refine SC.w_forL ?_)
  | (with_reducible refine SC.w_forT ?_)
  | (with_reducible refine SC.w_par3 ?_)
  | (with_reducible refine SC.w_three ?_)
  | (with_reducible refine SC.w_callS ?_)
  | (with_reducible refine SC.w_sdput ?_)
  | (with_reducible refine SC.w_dget' ?_)
  | (with_reducible refine SC.w_gcons ?_)
  | (with_reducible refine SC.w_gnil ?_)
  | (with_reducible refine SC.w_par ?_)
  | (with_reducible refine SC.w_two ?_)
  | (with_reducible refine SC.w_for1 ?_)
  | (with_reducible refine SC.w_for2 ?_)
  | (with_reducible refine SC.w_tup ?_)
  | (with_reducible refine SC.w_lst' ?_)
  | (with_reducible refine SC.w_drop ?_)
  | (with_reducible refine SC.w_ifS ?_)
  | (with_reducible refine SC.w_test ?_)
  | (with_reducible refine SC.w_isb ?_)
  | (with_reducible refine SC.w_not ?_)
  | (with_reducible refine SC.w_or ?_)
  | (with_reducible refine SC.w_and ?_)
  | (with_reducible refine SC.w_tB ?_)
  | (with_reducible refine SC.w_ife ?_)
  | (with_reducible refine SC.w_un ?_)
  | (with_reducible refine SC.w_u ?_)
  | (with_reducible refine SC.w_max2 ?_)
  | (with_reducible refine SC.w_min2 ?_)
  | (with_reducible refine SC.w_abs ?_)
  | (with_reducible refine SC.w_isi_ii ?_)
  | (with_reducible refine SC.w_isi_ib ?_)
  | (with_reducible refine SC.w_andV ?_)
  | (with_reducible refine SC.w_orV ?_)
  | (with_reducible refine SC.w_notV ?_)
  | (with_reducible refine SC.w_chain ?_)
  | (with_reducible refine SC.w_next ?_)
  | ((with_reducible refine SC.w_i ?ch ?_); (case ch => walk_at "side")))
local macro_rules | `(tactic| walk_at "s") => `(tactic| repeat (walk_at "s1"))
local macro_rules | `(tactic| walk_at "side") => `(tactic| first
  | assumption | omega | decide | exact SC.p2_pos _ | exact SC.p2_div (by omega) | exact Or.inl (by decide) | exact Or.inr (by decide) | (with_unfolding_all decide)
  | (refine ⟨?_, ?_⟩ <;> first | assumption | omega | decide | (with_unfolding_all decide)))

local macro_rules | `(tactic| walk_at "ne") => `(tactic| first
  | assumption
  | exact Ne.symm (by assumption)
  | exact SC.src_ne (by assumption) (by assumption)
  | ((with_reducible apply SC.ne_src); (focus assumption); walk_at "src")
  | ((with_reducible apply SC.ne_new'); (focus assumption); walk_at "at")
  | (apply Ne.symm; (with_reducible apply SC.ne_new'); (focus assumption); walk_at "at"))
local macro_rules | `(tactic| walk_at "at") => `(tactic| first
  | assumption
  | exact upd_same
  | ((with_reducible apply SC.same_at); (focus assumption); walk_at "at")
  | ((with_reducible apply SC.upd_at); (focus walk_at "ne"); walk_at "at")
  | ((with_reducible apply SC.kp_at); (focus assumption); (focus walk_at "ne"); walk_at "at"))
local macro_rules | `(tactic| walk_at "src") => `(tactic| first
  | assumption
  | ((with_reducible apply SC.same_src); (focus assumption); walk_at "src")
  | ((with_reducible apply SC.src_upd); (focus walk_at "ne"); walk_at "src"))
local macro_rules | `(tactic| walk_at "same") => `(tactic| first
  | assumption
  | exact Same.refl _
  | ((with_reducible refine Same.trans ?_ (by assumption)); walk_at "same"))
local macro_rules | `(tactic| walk_at "kp") => `(tactic| first
  | assumption
  | exact SC.Kp.refl _ _
  | exact SC.Kp.of_same (by assumption)
  | ((with_reducible refine SC.Kp.trans ?_ (by first | assumption | exact SC.Kp.of_same (by assumption))); walk_at "kp"))
local macro_rules | `(tactic| walk_at "seq") => `(tactic| first
  | assumption
  | ((with_reducible apply SC.sq_of); walk_at "at")
  | ((with_reducible apply SC.same_seq); (focus assumption); walk_at "seq"))
local macro_rules | `(tactic| walk_at "seqT") => `(tactic| first
  | assumption
  | ((with_reducible apply SC.sqT_of); walk_at "at")
  | ((with_reducible apply SC.same_seqT); (focus assumption); walk_at "seqT"))
local macro_rules | `(tactic| walk_at "pre") => `(tactic| first
  | exact True.intro | assumption | omega | exact SC.p2_pos _ | exact SC.p2_lim (by omega) | exact SC.small_lim (by omega) | exact SC.wide_lim (by omega)
  | (with_reducible refine And.intro ?_ ?_ <;> walk_at "pre"))
local macro_rules | `(tactic| walk_at "len") => `(tactic| first | decide | (simp only [List.length_cons, List.length_nil]; decide) | (simp only [List.length_cons, List.length_nil, List.length_map]; omega))
local macro_rules | `(tactic| walk_at "rfl") => `(tactic| exact rfl)
local macro_rules | `(tactic| walk_at "r1") => `(tactic| first
  | walk_at "s1"
  | (with_reducible refine SC.w_bm ?_)
  | ((with_reducible apply SC.w_bml); (focus walk_at "seq"))
  | ((with_reducible refine SC.w_sp1 ?_ fun _ _ => ?_); (focus walk_at "pre"))
  | ((with_reducible refine SC.w_sp2 ?_ fun _ _ => ?_); (focus walk_at "pre"))
  | ((with_reducible refine SC.w_sp3 ?_ fun _ _ => ?_); (focus walk_at "pre"))
  | ((with_reducible refine SC.w_sp4 ?_ fun _ _ => ?_); (focus walk_at "pre"))
  | ((with_reducible apply SC.w_draw); (focus walk_at "src"); (focus walk_at "pre"); (focus walk_at "pre"); (focus omega); (focus intro _ _ _ _ _ _))
  | ((with_reducible refine SC.w_newZ ?_ fun _ _ _ _ _ => ?_); (focus walk_at "len"))
  | ((with_reducible refine SC.w_newTZ ?_ fun _ _ _ _ _ => ?_); (focus walk_at "len"))
  | ((with_reducible apply SC.w_ixL); (focus walk_at "seq"); (focus walk_at "rfl"))
  | ((with_reducible apply SC.w_lenL); (focus walk_at "seq"))
  | ((with_reducible apply SC.w_lenT); (focus walk_at "seqT"))
  | (with_reducible refine SC.ifNT ?_)
  | (with_reducible refine SC.ifNF ?_)
  | (with_reducible refine iteF ?_)
  | (with_reducible refine iteT ?_)
  | ((with_reducible refine SC.w_nno ?_ ?_); (focus first | omega | (simp; done)))
  | ((with_reducible refine SC.w_no ?_ ?_); (focus first | omega | (simp; done)))
  | ((with_reducible refine SC.w_modE ?_ ?_); (focus first | omega | exact SC.p2_pos _))
  | ((with_reducible refine SC.w_i (SC.cdivB ?_ ?_) ?_); (focus walk_at "pre"); (focus walk_at "pre"))
  | ((with_reducible refine SC.w_i (SC.cmulB ?_ ?_ ?_ ?_) ?_); (focus walk_at "pre"); (focus walk_at "pre"); (focus walk_at "pre"); (focus walk_at "pre")))
local macro_rules | `(tactic| walk_at "r") => `(tactic| repeat (walk_at "r1"))

def topS (i : Nat) : Stmt := PySem.Challenge.pw_seedcup_k17_byes_in_small_brackets.main.body.getD i (.Pass ⟨0, 0, 0, 0⟩)
abbrev s_is_integer : Stmt := topS 8
abbrev nm_is_integer : List Str := ["value"]
theorem sc_is_integer : FnScope nm_is_integer ["value"] (defScope s_is_integer) := ⟨rfl, rfl, rfl, by decide +kernel, rfl, by decide +kernel, by decide +kernel⟩
abbrev s_is_integer_between : Stmt := topS 9
abbrev nm_is_integer_between : List Str := ["value", "low", "high"]
theorem sc_is_integer_between : FnScope nm_is_integer_between ["value", "low", "high"] (defScope s_is_integer_between) := ⟨rfl, rfl, rfl, by decide +kernel, rfl, by decide +kernel, by decide +kernel⟩
abbrev s_check_rounds : Stmt := topS 10
abbrev nm_check_rounds : List Str := ["rounds"]
theorem sc_check_rounds : FnScope nm_check_rounds ["rounds"] (defScope s_check_rounds) := ⟨rfl, rfl, rfl, by decide +kernel, rfl, by decide +kernel, by decide +kernel⟩
abbrev s_check_player : Stmt := topS 11
abbrev nm_check_player : List Str := ["players", "seed"]
theorem sc_check_player : FnScope nm_check_player ["players", "seed"] (defScope s_check_player) := ⟨rfl, rfl, rfl, by decide +kernel, rfl, by decide +kernel, by decide +kernel⟩
abbrev s_check_players : Stmt := topS 12
abbrev nm_check_players : List Str := ["rounds", "players"]
theorem sc_check_players : FnScope nm_check_players ["rounds", "players"] (defScope s_check_players) := ⟨rfl, rfl, rfl, by decide +kernel, rfl, by decide +kernel, by decide +kernel⟩
abbrev s_check_stage : Stmt := topS 13
abbrev nm_check_stage : List Str := ["rounds", "stage"]
theorem sc_check_stage : FnScope nm_check_stage ["rounds", "stage"] (defScope s_check_stage) := ⟨rfl, rfl, rfl, by decide +kernel, rfl, by decide +kernel, by decide +kernel⟩
abbrev s_group_of : Stmt := topS 15
abbrev nm_group_of : List Str := ["groups", "seed"]
theorem sc_group_of : FnScope nm_group_of ["groups", "seed"] (defScope s_group_of) := ⟨rfl, rfl, rfl, by decide +kernel, rfl, by decide +kernel, by decide +kernel⟩
abbrev s_count_dealt : Stmt := topS 16
abbrev nm_count_dealt : List Str := ["groups", "group", "last", "rows"]
theorem sc_count_dealt : FnScope nm_count_dealt ["groups", "group", "last"] (defScope s_count_dealt) := ⟨rfl, rfl, rfl, by decide +kernel, rfl, by decide +kernel, by decide +kernel⟩
abbrev s_turned : Stmt := topS 17
abbrev nm_turned : List Str := ["groups", "row", "column"]
theorem sc_turned : FnScope nm_turned ["groups", "row", "column"] (defScope s_turned) := ⟨rfl, rfl, rfl, by decide +kernel, rfl, by decide +kernel, by decide +kernel⟩
abbrev s_count_halves : Stmt := topS 19
abbrev nm_count_halves : List Str := ["rounds", "stage"]
theorem sc_count_halves : FnScope nm_count_halves ["rounds", "stage"] (defScope s_count_halves) := ⟨rfl, rfl, rfl, by decide +kernel, rfl, by decide +kernel, by decide +kernel⟩
abbrev s_own_half : Stmt := topS 20
abbrev nm_own_half : List Str := ["rounds", "stage", "seed"]
theorem sc_own_half : FnScope nm_own_half ["rounds", "stage", "seed"] (defScope s_own_half) := ⟨rfl, rfl, rfl, by decide +kernel, rfl, by decide +kernel, by decide +kernel⟩
abbrev s_other_half : Stmt := topS 21
abbrev nm_other_half : List Str := ["rounds", "stage", "seed"]
theorem sc_other_half : FnScope nm_other_half ["rounds", "stage", "seed"] (defScope s_other_half) := ⟨rfl, rfl, rfl, by decide +kernel, rfl, by decide +kernel, by decide +kernel⟩
abbrev s_beside : Stmt := topS 22
abbrev nm_beside : List Str := ["rounds", "stage", "half"]
theorem sc_beside : FnScope nm_beside ["rounds", "stage", "half"] (defScope s_beside) := ⟨rfl, rfl, rfl, by decide +kernel, rfl, by decide +kernel, by decide +kernel⟩
abbrev s_count_matches : Stmt := topS 24
abbrev nm_count_matches : List Str := ["rounds", "players", "stage", "halves"]
theorem sc_count_matches : FnScope nm_count_matches ["rounds", "players", "stage"] (defScope s_count_matches) := ⟨rfl, rfl, rfl, by decide +kernel, rfl, by decide +kernel, by decide +kernel⟩
abbrev s_first_match : Stmt := topS 25
abbrev nm_first_match : List Str := ["rounds", "players", "seed", "stage"]
theorem sc_first_match : FnScope nm_first_match ["rounds", "players", "seed"] (defScope s_first_match) := ⟨rfl, rfl, rfl, by decide +kernel, rfl, by decide +kernel, by decide +kernel⟩
abbrev s_count_opponents : Stmt := topS 26
abbrev nm_count_opponents : List Str := ["rounds", "players", "seed", "stage"]
theorem sc_count_opponents : FnScope nm_count_opponents ["rounds", "players", "seed", "stage"] (defScope s_count_opponents) := ⟨rfl, rfl, rfl, by decide +kernel, rfl, by decide +kernel, by decide +kernel⟩
abbrev s_law_cell_at : Stmt := topS 28
abbrev nm_law_cell_at : List Str := ["script", "k"]
theorem sc_law_cell_at : FnScope nm_law_cell_at ["script", "k"] (defScope s_law_cell_at) := ⟨rfl, rfl, rfl, by decide +kernel, rfl, by decide +kernel, by decide +kernel⟩
abbrev s_law_source : Stmt := topS 29
abbrev nm_law_source : List Str := ["cell", "k"]
theorem sc_law_source : FnScope nm_law_source ["cell", "k"] (defScope s_law_source) := ⟨rfl, rfl, rfl, by decide +kernel, rfl, by decide +kernel, by decide +kernel⟩
abbrev s_law_draw : Stmt := topS 30
abbrev nm_law_draw : List Str := ["source", "count", "found", "mixed"]
theorem sc_law_draw : FnScope nm_law_draw ["source", "count"] (defScope s_law_draw) := ⟨rfl, rfl, rfl, by decide +kernel, rfl, by decide +kernel, by decide +kernel⟩
abbrev s_law_same : Stmt := topS 31
abbrev nm_law_same : List Str := ["found", "expected", "k"]
theorem sc_law_same : FnScope nm_law_same ["found", "expected"] (defScope s_law_same) := ⟨rfl, rfl, rfl, by decide +kernel, rfl, by decide +kernel, by decide +kernel⟩
abbrev s_law_bracket : Stmt := topS 32
abbrev nm_law_bracket : List Str := ["size", "found", "k", "many", "longer", "one"]
theorem sc_law_bracket : FnScope nm_law_bracket ["size"] (defScope s_law_bracket) := ⟨rfl, rfl, rfl, by decide +kernel, rfl, by decide +kernel, by decide +kernel⟩
abbrev s_law_half : Stmt := topS 35
abbrev nm_law_half : List Str := ["line", "place", "turn", "many", "wide", "k", "begin", "other", "seed_here"]
theorem sc_law_half : FnScope nm_law_half ["line", "place", "turn", "many"] (defScope s_law_half) := ⟨rfl, rfl, rfl, by decide +kernel, rfl, by decide +kernel, by decide +kernel⟩
abbrev s_law_matches : Stmt := topS 36
abbrev nm_law_matches : List Str := ["line", "turn", "many", "wide", "k", "found", "begin", "halves"]
theorem sc_law_matches : FnScope nm_law_matches ["line", "turn", "many"] (defScope s_law_matches) := ⟨rfl, rfl, rfl, by decide +kernel, rfl, by decide +kernel, by decide +kernel⟩
abbrev s_law : Stmt := topS 37
abbrev nm_law : List Str := ["script", "k", "source", "size", "line", "j", "many", "matches", "turn", "i", "seed_here", "place", "counts", "told", "first", "due", "again"]
theorem sc_law : FnScope nm_law ["script"] (defScope s_law) := ⟨rfl, rfl, rfl, by decide +kernel, rfl, by decide +kernel, by decide +kernel⟩
structure TX (K : PySem.W.Frag) (mg : Str → Option Value) (fa : Nat → Addr) (fd : Nat → FuncData) (fc : Nat → Addr) : Prop where
  F_is_integer : Fun K "is_integer" "is_integer" s_is_integer (fa 0) (fd 0)
  g_is_integer : mg "is_integer" = some (.ref (fa 0))
  F_is_integer_between : Fun K "is_integer_between" "is_integer_between" s_is_integer_between (fa 1) (fd 1)
  g_is_integer_between : mg "is_integer_between" = some (.ref (fa 1))
  F_check_rounds : Fun K "check_rounds" "check_rounds" s_check_rounds (fa 2) (fd 2)
  g_check_rounds : mg "check_rounds" = some (.ref (fa 2))
  F_check_player : Fun K "check_player" "check_player" s_check_player (fa 3) (fd 3)
  g_check_player : mg "check_player" = some (.ref (fa 3))
  F_check_players : Fun K "check_players" "check_players" s_check_players (fa 4) (fd 4)
  g_check_players : mg "check_players" = some (.ref (fa 4))
  F_check_stage : Fun K "check_stage" "check_stage" s_check_stage (fa 5) (fd 5)
  g_check_stage : mg "check_stage" = some (.ref (fa 5))
  F_group_of : Fun K "group_of" "group_of" s_group_of (fa 6) (fd 6)
  g_group_of : mg "group_of" = some (.ref (fa 6))
  F_count_dealt : Fun K "count_dealt" "count_dealt" s_count_dealt (fa 7) (fd 7)
  g_count_dealt : mg "count_dealt" = some (.ref (fa 7))
  F_turned : Fun K "_turned" "_turned" s_turned (fa 8) (fd 8)
  g_turned : mg "_turned" = some (.ref (fa 8))
  F_count_halves : Fun K "count_halves" "count_halves" s_count_halves (fa 9) (fd 9)
  g_count_halves : mg "count_halves" = some (.ref (fa 9))
  F_own_half : Fun K "own_half" "own_half" s_own_half (fa 10) (fd 10)
  g_own_half : mg "own_half" = some (.ref (fa 10))
  F_other_half : Fun K "other_half" "other_half" s_other_half (fa 11) (fd 11)
  g_other_half : mg "other_half" = some (.ref (fa 11))
  F_beside : Fun K "_beside" "_beside" s_beside (fa 12) (fd 12)
  g_beside : mg "_beside" = some (.ref (fa 12))
  F_count_matches : Fun K "count_matches" "count_matches" s_count_matches (fa 13) (fd 13)
  g_count_matches : mg "count_matches" = some (.ref (fa 13))
  F_first_match : Fun K "first_match" "first_match" s_first_match (fa 14) (fd 14)
  g_first_match : mg "first_match" = some (.ref (fa 14))
  F_count_opponents : Fun K "count_opponents" "count_opponents" s_count_opponents (fa 15) (fd 15)
  g_count_opponents : mg "count_opponents" = some (.ref (fa 15))
  F_law_cell_at : Fun K "_law_cell_at" "_law_cell_at" s_law_cell_at (fa 16) (fd 16)
  g_law_cell_at : mg "_law_cell_at" = some (.ref (fa 16))
  F_law_source : Fun K "_law_source" "_law_source" s_law_source (fa 17) (fd 17)
  g_law_source : mg "_law_source" = some (.ref (fa 17))
  F_law_draw : Fun K "_law_draw" "_law_draw" s_law_draw (fa 18) (fd 18)
  g_law_draw : mg "_law_draw" = some (.ref (fa 18))
  F_law_same : Fun K "_law_same" "_law_same" s_law_same (fa 19) (fd 19)
  g_law_same : mg "_law_same" = some (.ref (fa 19))
  F_law_bracket : Fun K "_law_bracket" "_law_bracket" s_law_bracket (fa 20) (fd 20)
  g_law_bracket : mg "_law_bracket" = some (.ref (fa 20))
  F_law_half : Fun K "_law_half" "_law_half" s_law_half (fa 21) (fd 21)
  g_law_half : mg "_law_half" = some (.ref (fa 21))
  F_law_matches : Fun K "_law_matches" "_law_matches" s_law_matches (fa 22) (fd 22)
  g_law_matches : mg "_law_matches" = some (.ref (fa 22))
  F_law : Fun K "law" "law" s_law (fa 23) (fd 23)
  g_law : mg "law" = some (.ref (fa 23))
  t_MOST_ROUNDS : ∃ t, mg "MOST_ROUNDS" = some (.int 100 t)
  n_all : mg "all" = none
  n_bool : mg "bool" = none
  n_int : mg "int" = none
  n_isinstance : mg "isinstance" = none
  n_len : mg "len" = none
  n_list : mg "list" = none
  n_max : mg "max" = none
  n_min : mg "min" = none
  n_range : mg "range" = none
  n_sum : mg "sum" = none
  n_tuple : mg "tuple" = none
/-- the first round with an opponent, or none -/
def FirstAt (r p s : Int) (v : V) : Prop := (v = .non ∧ ∀ u : Int, 1 ≤ u → u ≤ r → p < oth r u s) ∨ ∃ t : Int, v = .int t ∧ 1 ≤ t ∧ t ≤ r ∧ oth r t s ≤ p ∧ ∀ u : Int, 1 ≤ u → u < t → p < oth r u s
def SpFirst : Sp := fun vs H Q _ => ∃ r p s : Int, vs = [.int r, .int p, .int s] ∧ ((1 ≤ r ∧ r ≤ 100) ∧ (1 ≤ p ∧ p ≤ p2 r) ∧ 1 ≤ s ∧ s ≤ p) ∧ ∀ v H', FirstAt r p s v → Same H H' → Q v H'
theorem w_first {H : Hp} {Q : VK} {E : XK} {r p s : Int} (hp : (1 ≤ r ∧ r ≤ 100) ∧ (1 ≤ p ∧ p ≤ p2 r) ∧ 1 ≤ s ∧ s ≤ p) (q : ∀ v H', FirstAt r p s v → Same H H' → Q v H') : SpFirst ([.int r, .int p, .int s] ++ []) H Q E := ⟨r, p, s, rfl, hp, q⟩
/-- two ints, two bools, None twice: whether they are the same -/
def SpSame0 : Sp := fun vs H Q _ => ∃ (u v : V) (b : Bool), vs = [u, v] ∧ ((∃ i j : Int, u = .int i ∧ v = .int j ∧ b = decide (i = j)) ∨ (∃ i j : Bool, u = .bl i ∧ v = .bl j ∧ b = decide (i = j)) ∨ u = .non ∧ v = .non ∧ b = true) ∧ ∀ H', Same H H' → Q (.bl b) H'
theorem w_same0i {H : Hp} {Q : VK} {E : XK} {i j : Int} (q : ∀ H', Same H H' → Q (.bl (decide (i = j))) H') : SpSame0 ([.int i, .int j] ++ []) H Q E := ⟨_, _, _, rfl, .inl ⟨i, j, rfl, rfl, rfl⟩, q⟩
theorem w_same0b {H : Hp} {Q : VK} {E : XK} {i j : Bool} (q : ∀ H', Same H H' → Q (.bl (decide (i = j))) H') : SpSame0 ([.bl i, .bl j] ++ []) H Q E := ⟨_, _, _, rfl, .inr (.inl ⟨i, j, rfl, rfl, rfl⟩), q⟩
theorem w_same0n {H : Hp} {Q : VK} {E : XK} (q : ∀ H', Same H H' → Q (.bl true) H') : SpSame0 ([.non, .non] ++ []) H Q E := ⟨_, _, _, rfl, .inr (.inr ⟨rfl, rfl, rfl⟩), q⟩
/-- two lists of the same ints, bools and Nones -/
def SpSame1 : Sp := fun vs H Q _ => ∃ (p q : Addr) (xs : List V), vs = [.ref p, .ref q] ∧ H p = some (.lst xs) ∧ H q = some (.lst xs) ∧ xs.length ≤ 1000 ∧ (∀ x ∈ xs, (∃ i, x = .int i) ∨ (∃ b, x = .bl b) ∨ x = .non) ∧ ∀ H', Same H H' → Q (.bl true) H'
theorem w_same1 {H : Hp} {Q : VK} {E : XK} {p q : Addr} {xs : List V} (h1 : H p = some (.lst xs)) (h2 : H q = some (.lst xs)) (hz : xs.length ≤ 1000) (hx : ∀ x ∈ xs, (∃ i, x = .int i) ∨ (∃ b, x = .bl b) ∨ x = .non) (k : ∀ H', Same H H' → Q (.bl true) H') : SpSame1 ([.ref p, .ref q] ++ []) H Q E := ⟨p, q, xs, rfl, h1, h2, hz, hx, k⟩
def SpBr : Sp := fun vs H Q _ => ∃ n : Int, vs = [.int n] ∧ (0 ≤ n ∧ n ≤ 13) ∧ ∀ p H', H p = none → Same H H' → H' p = some (.lst ((brk n.toNat).map V.int)) → Q (.ref p) H'
theorem w_br {H : Hp} {Q : VK} {E : XK} {n : Int} (h : 0 ≤ n ∧ n ≤ 13) (q : ∀ p H', H p = none → Same H H' → H' p = some (.lst ((brk n.toNat).map V.int)) → Q (.ref p) H') : SpBr ([.int n] ++ []) H Q E := ⟨n, rfl, h, q⟩
def CM (n l t : Int) : Int := max 0 (min l (p2 (n - t + 1)) - p2 (n - t + 1) / 2)
def CO (n l s t : Int) : Int := SC.cnt (p2 (n - t + 1)) (oth n t s) l
def SpHalf (K : PySem.W.Frag) : Sp := fun vs H Q _ => ∃ (p : Addr) (n i : Nat) (t l s : Int), vs = [.ref p, .int i, .int t, .int l] ∧ SqL K H p ((brk n).map V.int) ∧ n ≤ 13 ∧ (1 ≤ t ∧ t ≤ n) ∧ (brk n)[i]? = some s ∧ (0 ≤ l ∧ l ≤ p2 n) ∧ ∀ (q : Addr) (ys : List V) H', Same H H' → H q = none → H' q = some (.lst ys) → (ys.length : Int) = CO n l s t → Q (.ref q) H'
theorem w_half {K : PySem.W.Frag} {H : Hp} {Q : VK} {E : XK} {p : Addr} {n i : Nat} {t l s : Int} (h : SqL K H p ((brk n).map V.int)) (hn : n ≤ 13) (ht : 1 ≤ t ∧ t ≤ n) (hs : (brk n)[i]? = some s) (hl : 0 ≤ l ∧ l ≤ p2 n) (q : ∀ (q : Addr) (ys : List V) H', Same H H' → H q = none → H' q = some (.lst ys) → (ys.length : Int) = CO n l s t → Q (.ref q) H') : SpHalf K ([.ref p, .int i, .int t, .int l] ++ []) H Q E := ⟨p, n, i, t, l, s, rfl, h, hn, ht, hs, hl, q⟩
def SpMatches (K : PySem.W.Frag) : Sp := fun vs H Q _ => ∃ (p : Addr) (n : Nat) (t l : Int), vs = [.ref p, .int t, .int l] ∧ SqL K H p ((brk n).map V.int) ∧ n ≤ 13 ∧ (1 ≤ t ∧ t ≤ n) ∧ (0 ≤ l ∧ l ≤ p2 n) ∧ ∀ H', Same H H' → Q (.int (CM n l t)) H'
theorem w_matches {K : PySem.W.Frag} {H : Hp} {Q : VK} {E : XK} {p : Addr} {n : Nat} {t l : Int} (h : SqL K H p ((brk n).map V.int)) (hn : n ≤ 13) (ht : 1 ≤ t ∧ t ≤ n) (hl : 0 ≤ l ∧ l ≤ p2 n) (q : ∀ H', Same H H' → Q (.int (CM n l t)) H') : SpMatches K ([.ref p, .int t, .int l] ++ []) H Q E := ⟨p, n, t, l, rfl, h, hn, ht, hl, q⟩
/-- the opponents of the rounds 1 to d -/
theorem cnt_sum {k s l : Int} (hs : 1 ≤ s) (hl : s ≤ l) (lk : l ≤ p2 k) : ∀ d : Nat, (d : Int) ≤ k → ((List.range d).map fun i : Nat => cnt (p2 (k - (1 + (i : Int)) + 1)) (oth k (1 + (i : Int)) s) l).sum = cnt (p2 (k - d)) (blk (p2 (k - d)) s) l - 1
  | 0, _ => by
    have e : k - ((0 : Nat) : Int) = k := by omega
    rw [e, blk_top hs (by omega), cnt_top (p2_pos _) hs hl lk]
    simp
  | d + 1, hd => by
    have ih := cnt_sum hs hl lk d (by omega)
    have lv := cnt_level (k := k) (t := 1 + (d : Int)) (s := s) (l := l) (by omega) (by omega) hs
    rw [List.range_succ, List.map_append, List.sum_append, ih]
    simp only [List.map_cons, List.map_nil, List.sum_cons, List.sum_nil]
    rw [show k - (1 + (d : Int)) + 1 = k - d by omega] at lv ⊢
    rw [show k - (1 + (d : Int)) = k - ((d + 1 : Nat) : Int) by omega] at lv
    omega
/-- the rounds with an opponent -/
def firsts (k s m : Int) : List Int := ((List.range k.toNat).filter fun i : Nat => decide (0 < SC.cnt (p2 (k - (1 + (i : Int)) + 1)) (oth k (1 + (i : Int)) s) m)).map fun i : Nat => 1 + (i : Int)
def firstV : List Int → V
  | [] => .non
  | x :: _ => .int x
theorem firsts_mem {k s m : Int} (hm : 0 ≤ m) (t : Int) : t ∈ firsts k s m ↔ (1 ≤ t ∧ t ≤ k) ∧ oth k t s ≤ m := by
  have cp := cnt_pos (m := p2 (k - t + 1)) (b := oth k t s) (l := m) (p2_pos _) oth_range.1 oth_range.2 hm
  unfold firsts
  rw [List.mem_map]
  constructor
  · rintro ⟨n, hn, rfl⟩
    rw [List.mem_filter, List.mem_range, decide_eq_true_eq] at hn
    exact ⟨by omega, cp.mp hn.2⟩
  · rintro ⟨ht, ho⟩
    refine ⟨(t - 1).toNat, ?_, by omega⟩
    rw [List.mem_filter, List.mem_range, decide_eq_true_eq, show 1 + ((t - 1).toNat : Int) = t by omega]
    exact ⟨by omega, cp.mpr ho⟩
theorem firsts_key {k s m : Int} (hm : 0 ≤ m) : ∀ v, FirstAt k m s v → v = firstV (firsts k s m) := fun v hv => by
  have ris : (firsts k s m).Pairwise (· < ·) := rising_filter k.toNat (fun i : Nat => decide (0 < SC.cnt (p2 (k - (1 + (i : Int)) + 1)) (oth k (1 + (i : Int)) s) m))
  have mF := firsts_mem (k := k) (s := s) hm
  generalize firsts k s m = L at ris mF
  cases L with
  | nil =>
    rcases hv with ⟨rfl, hu⟩ | ⟨t, rfl, t0, t1, t2, hu⟩
    · rfl
    · have := (mF t).mpr ⟨⟨t0, t1⟩, t2⟩
      simp at this
  | cons x r =>
    have hx := (mF x).mp (List.mem_cons_self ..)
    rcases hv with ⟨rfl, hu⟩ | ⟨t, rfl, t0, t1, t2, hu⟩
    · have := hu x hx.1.1 hx.1.2
      omega
    · have le := head_least ris t ((mF t).mpr ⟨⟨t0, t1⟩, t2⟩)
      by_cases z : x < t
      · have := hu x hx.1.1 z
        omega
      · show V.int t = V.int x
        congr 1
        omega
section
variable {P : Program} {w : World} {K : PySem.W.Frag} {mg : Str → Option Value} {base : Heap} {fa : Nat → Addr} {fd : Nat → FuncData} {fc : Nat → Addr}
theorem bi_is_integer (T : TX K mg fa fd fc) : Binds K (fd 0) ["value"] [] := T.F_is_integer.binds fun _ _ _ _ _ _ us hl => match us, hl with | [_], _ => rfl
theorem bi_is_integer_between (T : TX K mg fa fd fc) : Binds K (fd 1) ["value", "low", "high"] [] := T.F_is_integer_between.binds fun _ _ _ _ _ _ us hl => match us, hl with | [_, _, _], _ => rfl
theorem bi_check_rounds (T : TX K mg fa fd fc) : Binds K (fd 2) ["rounds"] [] := T.F_check_rounds.binds fun _ _ _ _ _ _ us hl => match us, hl with | [_], _ => rfl
theorem bi_check_player (T : TX K mg fa fd fc) : Binds K (fd 3) ["players", "seed"] [] := T.F_check_player.binds fun _ _ _ _ _ _ us hl => match us, hl with | [_, _], _ => rfl
theorem bi_check_players (T : TX K mg fa fd fc) : Binds K (fd 4) ["rounds", "players"] [] := T.F_check_players.binds fun _ _ _ _ _ _ us hl => match us, hl with | [_, _], _ => rfl
theorem bi_check_stage (T : TX K mg fa fd fc) : Binds K (fd 5) ["rounds", "stage"] [] := T.F_check_stage.binds fun _ _ _ _ _ _ us hl => match us, hl with | [_, _], _ => rfl
theorem bi_group_of (T : TX K mg fa fd fc) : Binds K (fd 6) ["groups", "seed"] [] := T.F_group_of.binds fun _ _ _ _ _ _ us hl => match us, hl with | [_, _], _ => rfl
theorem bi_count_dealt (T : TX K mg fa fd fc) : Binds K (fd 7) ["groups", "group", "last"] [] := T.F_count_dealt.binds fun _ _ _ _ _ _ us hl => match us, hl with | [_, _, _], _ => rfl
theorem bi_turned (T : TX K mg fa fd fc) : Binds K (fd 8) ["groups", "row", "column"] [] := T.F_turned.binds fun _ _ _ _ _ _ us hl => match us, hl with | [_, _, _], _ => rfl
theorem bi_count_halves (T : TX K mg fa fd fc) : Binds K (fd 9) ["rounds", "stage"] [] := T.F_count_halves.binds fun _ _ _ _ _ _ us hl => match us, hl with | [_, _], _ => rfl
theorem bi_own_half (T : TX K mg fa fd fc) : Binds K (fd 10) ["rounds", "stage", "seed"] [] := T.F_own_half.binds fun _ _ _ _ _ _ us hl => match us, hl with | [_, _, _], _ => rfl
theorem bi_other_half (T : TX K mg fa fd fc) : Binds K (fd 11) ["rounds", "stage", "seed"] [] := T.F_other_half.binds fun _ _ _ _ _ _ us hl => match us, hl with | [_, _, _], _ => rfl
theorem bi_beside (T : TX K mg fa fd fc) : Binds K (fd 12) ["rounds", "stage", "half"] [] := T.F_beside.binds fun _ _ _ _ _ _ us hl => match us, hl with | [_, _, _], _ => rfl
theorem bi_count_matches (T : TX K mg fa fd fc) : Binds K (fd 13) ["rounds", "players", "stage"] [] := T.F_count_matches.binds fun _ _ _ _ _ _ us hl => match us, hl with | [_, _, _], _ => rfl
theorem bi_first_match (T : TX K mg fa fd fc) : Binds K (fd 14) ["rounds", "players", "seed"] [] := T.F_first_match.binds fun _ _ _ _ _ _ us hl => match us, hl with | [_, _, _], _ => rfl
theorem bi_count_opponents (T : TX K mg fa fd fc) : Binds K (fd 15) ["rounds", "players", "seed", "stage"] [] := T.F_count_opponents.binds fun _ _ _ _ _ _ us hl => match us, hl with | [_, _, _, _], _ => rfl
theorem bi_law_cell_at (T : TX K mg fa fd fc) : Binds K (fd 16) ["script", "k"] [] := T.F_law_cell_at.binds fun _ _ _ _ _ _ us hl => match us, hl with | [_, _], _ => rfl
theorem bi_law_source (T : TX K mg fa fd fc) : Binds K (fd 17) ["cell", "k"] [] := T.F_law_source.binds fun _ _ _ _ _ _ us hl => match us, hl with | [_, _], _ => rfl
theorem bi_law_draw (T : TX K mg fa fd fc) : Binds K (fd 18) ["source", "count"] [] := T.F_law_draw.binds fun _ _ _ _ _ _ us hl => match us, hl with | [_, _], _ => rfl
theorem bi_law_same (T : TX K mg fa fd fc) : Binds K (fd 19) ["found", "expected"] [] := T.F_law_same.binds fun _ _ _ _ _ _ us hl => match us, hl with | [_, _], _ => rfl
theorem bi_law_bracket (T : TX K mg fa fd fc) : Binds K (fd 20) ["size"] [] := T.F_law_bracket.binds fun _ _ _ _ _ _ us hl => match us, hl with | [_], _ => rfl
theorem bi_law_half (T : TX K mg fa fd fc) : Binds K (fd 21) ["line", "place", "turn", "many"] [] := T.F_law_half.binds fun _ _ _ _ _ _ us hl => match us, hl with | [_, _, _, _], _ => rfl
theorem bi_law_matches (T : TX K mg fa fd fc) : Binds K (fd 22) ["line", "turn", "many"] [] := T.F_law_matches.binds fun _ _ _ _ _ _ us hl => match us, hl with | [_, _, _], _ => rfl
theorem bi_law (T : TX K mg fa fd fc) : Binds K (fd 23) ["script"] [] := T.F_law.binds fun _ _ _ _ _ _ us hl => match us, hl with | [_], _ => rfl
theorem kb_count_matches_0_stage_players_rounds (T : TX K mg fa fd fc) : KBn K (fd 13) ["rounds", "players", "stage"] 0 ["stage", "players", "rounds"] (pickBy .none [2, 1, 0]) (pickBy .non [2, 1, 0]) := by
  obtain ⟨oc, od, kV, doc, pm, an, cdv, ct, osl, e, lk, hcd⟩ := T.F_count_matches.ex
  refine ⟨fun s us ws _ l1 l2 => ?_, fun r rz => vals_pick r rz _⟩
  rw [e]
  match us, ws, l1, l2 with
  | [], [w0, w1, w2], _, _ => exact .of_eq rfl
theorem kb_count_opponents_0_stage_seed_players_rounds (T : TX K mg fa fd fc) : KBn K (fd 15) ["rounds", "players", "seed", "stage"] 0 ["stage", "seed", "players", "rounds"] (pickBy .none [3, 2, 1, 0]) (pickBy .non [3, 2, 1, 0]) := by
  obtain ⟨oc, od, kV, doc, pm, an, cdv, ct, osl, e, lk, hcd⟩ := T.F_count_opponents.ex
  refine ⟨fun s us ws _ l1 l2 => ?_, fun r rz => vals_pick r rz _⟩
  rw [e]
  match us, ws, l1, l2 with
  | [], [w0, w1, w2, w3], _, _ => exact .of_eq rfl
theorem kb_first_match_0_seed_players_rounds (T : TX K mg fa fd fc) : KBn K (fd 14) ["rounds", "players", "seed"] 0 ["seed", "players", "rounds"] (pickBy .none [2, 1, 0]) (pickBy .non [2, 1, 0]) := by
  obtain ⟨oc, od, kV, doc, pm, an, cdv, ct, osl, e, lk, hcd⟩ := T.F_first_match.ex
  refine ⟨fun s us ws _ l1 l2 => ?_, fun r rz => vals_pick r rz _⟩
  rw [e]
  match us, ws, l1, l2 with
  | [], [w0, w1, w2], _, _ => exact .of_eq rfl
theorem ok_is_integer (T : TX K mg fa fd fc) : FnOk P w K mg base CX0 1 (fa 0) (fd 0) ["value"] (Sp1 (fun _ => True) (fun _ => .bl true)) := by
  refine T.F_is_integer.ok sc_is_integer (fun vs H Q E h => ?_) (fun cdv A outer s H vs Q E hr h => ?_)
  · obtain ⟨v, rfl, _, k⟩ := h
    rfl
  obtain ⟨v, rfl, _, k⟩ := h
  refine ⟨_, (pss_one (ps_ret (pe_and (pe_callB (r := rIsi K) call_isi (by rfl) T.n_isinstance (by decide +kernel) (pa_cons (pv 0) (pa_cons (pe_bltn (v := .ty "int") (by rfl) T.n_int (by decide +kernel) rfl) pa_nil))) (pe_one (pe_not (pe_callB (r := rIsi K) call_isi (by rfl) T.n_isinstance (by decide +kernel) (pa_cons (pv 0) (pa_cons (pe_bltn (v := .ty "bool") (by rfl) T.n_bool (by decide +kernel) rfl) pa_nil)))))))), ?_⟩
  walk_at "s"
  refine iteT ?_
  walk_at "s"
  exact k _ (.refl _)
theorem ok_is_integer_between (T : TX K mg fa fd fc) : FnOk P w K mg base CX0 2 (fa 1) (fd 1) ["value", "low", "high"] (Sp3 (fun _ _ _ => True) (fun v l h => .bl (decide (l ≤ v ∧ v ≤ h)))) := by
  refine T.F_is_integer_between.ok sc_is_integer_between (fun vs H Q E h => ?_) (fun cdv A outer s H vs Q E hr h => ?_)
  · obtain ⟨v, l, h, rfl, _, k⟩ := h
    rfl
  obtain ⟨v, l, h, rfl, _, k⟩ := h
  refine ⟨_, (pss_one (ps_ret (pe_and (pe_call (ok_is_integer T) (hr.mono (by decide)) rfl T.g_is_integer T.F_is_integer.kp (bi_is_integer T) .nil pass0 (pa_cons (pv 0) pa_nil)) (pe_one (pe_chain op_le op_le (pv 1) (pv 0) (pv 2)))))), ?_⟩
  walk_at "s"
  refine w_sp1 trivial fun H1 s1 => ?_
  walk_at "s"
  refine iteT ?_
  walk_at "s"
  refine w_ifd (fun c => ?_) fun c => ?_
  · walk_at "s"
    have e : decide (l ≤ v ∧ v ≤ h) = decide (v ≤ h) := by simp [c]
    rw [← e]
    exact k _ s1
  · exact vq (k _ s1) (by simp [c])
theorem ok_check_rounds (T : TX K mg fa fd fc) : FnOk P w K mg base CX0 3 (fa 2) (fd 2) ["rounds"] (Sp1 (fun r => 1 ≤ r ∧ r ≤ 100) (fun _ => .non)) := by
  refine T.F_check_rounds.ok sc_check_rounds (fun vs H Q E h => ?_) (fun cdv A outer s H vs Q E hr h => ?_)
  · obtain ⟨r, rfl, p, k⟩ := h
    rfl
  obtain ⟨r, rfl, p, k⟩ := h
  refine ⟨_, (pss_one (ps_if (pt_not (pt_val (pe_call (ok_is_integer_between T) (hr.mono (by decide)) rfl T.g_is_integer_between T.F_is_integer_between.kp (bi_is_integer_between T) .nil pass0 (pa_cons (pv 0) (pa_cons pe_int (pa_cons (pe_glob (v := .int 100) rfl T.t_MOST_ROUNDS.choose_spec ⟨_, rfl⟩) pa_nil))))))
    (pss_one ps_never) pss_nil)), ?_⟩
  walk_at "s"
  refine w_sp3 trivial fun H1 s1 => ?_
  walk_at "s"
  refine w_nno p ?_
  exact k _ s1
theorem ok_check_player (T : TX K mg fa fd fc) : FnOk P w K mg base CX0 3 (fa 3) (fd 3) ["players", "seed"] (Sp2 (fun r s => 1 ≤ s ∧ s ≤ r) (fun _ _ => .non)) := by
  refine T.F_check_player.ok sc_check_player (fun vs H Q E h => ?_) (fun cdv A outer s H vs Q E hr h => ?_)
  · obtain ⟨r, i, rfl, p, k⟩ := h
    rfl
  obtain ⟨r, i, rfl, p, k⟩ := h
  refine ⟨_, (pss_one (ps_if (pt_not (pt_val (pe_call (ok_is_integer_between T) (hr.mono (by decide)) rfl T.g_is_integer_between T.F_is_integer_between.kp (bi_is_integer_between T) .nil pass0 (pa_cons (pv 1) (pa_cons pe_int (pa_cons (pv 0) pa_nil))))))
    (pss_one ps_never) pss_nil)), ?_⟩
  walk_at "s"
  refine w_sp3 trivial fun H1 s1 => ?_
  walk_at "s"
  refine w_nno p ?_
  exact k _ s1
theorem ok_check_players (T : TX K mg fa fd fc) : FnOk P w K mg base CX0 3 (fa 4) (fd 4) ["rounds", "players"] (Sp2 (fun r s => 0 ≤ r ∧ r ≤ 100 ∧ 1 ≤ s ∧ s ≤ p2 r) (fun _ _ => .non)) := by
  refine T.F_check_players.ok sc_check_players (fun vs H Q E h => ?_) (fun cdv A outer s H vs Q E hr h => ?_)
  · obtain ⟨r, i, rfl, p, k⟩ := h
    rfl
  obtain ⟨r, i, rfl, p, k⟩ := h
  refine ⟨_, (pss_one (ps_if (pt_not (pt_val (pe_call (ok_is_integer_between T) (hr.mono (by decide)) rfl T.g_is_integer_between T.F_is_integer_between.kp (bi_is_integer_between T) .nil pass0 (pa_cons (pv 1) (pa_cons pe_int (pa_cons (pe_op SC.op_shl1 pe_int (pv 0)) pa_nil))))))
    (pss_one ps_never) pss_nil)), ?_⟩
  walk_at "s"
  refine w_sp3 trivial fun H1 s1 => ?_
  walk_at "s"
  refine w_nno p.2.2 ?_
  exact k _ s1
theorem ok_check_stage (T : TX K mg fa fd fc) : FnOk P w K mg base CX0 3 (fa 5) (fd 5) ["rounds", "stage"] (Sp2 (fun r s => 1 ≤ s ∧ s ≤ r) (fun _ _ => .non)) := by
  refine T.F_check_stage.ok sc_check_stage (fun vs H Q E h => ?_) (fun cdv A outer s H vs Q E hr h => ?_)
  · obtain ⟨r, i, rfl, p, k⟩ := h
    rfl
  obtain ⟨r, i, rfl, p, k⟩ := h
  refine ⟨_, (pss_one (ps_if (pt_not (pt_val (pe_call (ok_is_integer_between T) (hr.mono (by decide)) rfl T.g_is_integer_between T.F_is_integer_between.kp (bi_is_integer_between T) .nil pass0 (pa_cons (pv 1) (pa_cons pe_int (pa_cons (pv 0) pa_nil))))))
    (pss_one ps_never) pss_nil)), ?_⟩
  walk_at "s"
  refine w_sp3 trivial fun H1 s1 => ?_
  walk_at "s"
  refine w_nno p ?_
  exact k _ s1
theorem ok_turned (T : TX K mg fa fd fc) : FnOk P w K mg base CX0 1 (fa 8) (fd 8) ["groups", "row", "column"] (Sp3 (fun _ _ _ => True) (fun b r c => .int (turned b r c))) := by
  refine T.F_turned.ok sc_turned (fun vs H Q E h => ?_) (fun cdv A outer s H vs Q E hr h => ?_)
  · obtain ⟨b, r, c, rfl, hp, k⟩ := h
    rfl
  obtain ⟨b, r, c, rfl, hp, k⟩ := h
  refine ⟨_, (pss_cons (ps_if (pt_cmpR op_eq (pe_op SC.op_modR (pv 1) pe_int) pe_int (nomark _))
    (pss_one (ps_ret (pv 2))) pss_nil)
    (pss_one (ps_ret (pe_op op_sub (pe_op op_add (pv 0) pe_int) (pv 2))))), ?_⟩
  walk_at "s"
  refine w_modE (by decide) ?_
  walk_at "s"
  refine w_ifd (fun h => ?_) fun h => ?_
  · walk_at "s"
    exact vq (k _ (.refl _)) (congrArg V.int (if_pos h))
  · walk_at "s"
    exact vq (k _ (.refl _)) (congrArg V.int (if_neg h))
theorem ok_group_of (T : TX K mg fa fd fc) : FnOk P w K mg base CX0 2 (fa 6) (fd 6) ["groups", "seed"] (Sp2 (fun m _ => 0 < m ∧ m < BIG) (fun m s => .int (blk m s))) := by
  refine T.F_group_of.ok sc_group_of (fun vs H Q E h => ?_) (fun cdv A outer s H vs Q E hr h => ?_)
  · obtain ⟨m, s, rfl, hp, k⟩ := h
    rfl
  obtain ⟨m, s, rfl, hp, k⟩ := h
  refine ⟨_, (pss_one (ps_ret (pe_call (ok_turned T) (hr.mono (by decide)) rfl T.g_turned T.F_turned.kp (bi_turned T) .nil pass0 (pa_cons (pv 0) (pa_cons (pe_op op_fdivW (pe_op op_sub (pv 1) pe_int) (pv 0)) (pa_cons (pe_op op_add (pe_op SC.op_modR (pe_op op_sub (pv 1) pe_int) (pv 0)) pe_int) pa_nil)))))), ?_⟩
  walk_at "s"
  refine w_i (cdivB hp.1 hp.2) ?_
  walk_at "s"
  refine w_modE hp.1 ?_
  walk_at "s"
  refine w_sp3 trivial fun H1 s1 => ?_
  exact k _ s1
theorem ok_count_dealt (T : TX K mg fa fd fc) : FnOk P w K mg base CX0 2 (fa 7) (fd 7) ["groups", "group", "last"] (Sp3 (fun m b l => (0 < m ∧ m < BIG)) (fun m b l => .int (cnt m b l))) := by
  refine T.F_count_dealt.ok sc_count_dealt (fun vs H Q E h => ?_) (fun cdv A outer s H vs Q E hr h => ?_)
  · obtain ⟨m, b, l, rfl, hp, k⟩ := h
    rfl
  obtain ⟨m, b, l, rfl, hp, k⟩ := h
  refine ⟨_, (pss_cons (ps_set (i := 3) sc_count_dealt.nd rfl (by first | exact Or.inl rfl | exact Or.inr rfl) (pe_op op_fdivW (pv 2) (pv 0)))
    (pss_cons (ps_if (pt_cmpR op_le (pe_call (ok_turned T) (hr.mono (by decide)) rfl T.g_turned T.F_turned.kp (bi_turned T) .nil pass0 (pa_cons (pv 0) (pa_cons (pv 3) (pa_cons (pv 1) pa_nil)))) (pe_op SC.op_modR (pv 2) (pv 0)) (nomark _))
    (pss_one (ps_ret (pe_op op_add (pv 3) pe_int))) pss_nil)
    (pss_one (ps_ret (pv 3))))), ?_⟩
  walk_at "s"
  refine w_i (cdivB hp.1 hp.2) ?_
  walk_at "s"
  refine w_sp3 trivial fun H1 s1 => ?_
  walk_at "s"
  refine w_modE hp.1 ?_
  walk_at "s"
  refine w_ifd (fun h => ?_) fun h => ?_
  · walk_at "s"
    refine vq (k _ s1) ?_
    show V.int (SC.cnt m b l) = _
    unfold SC.cnt
    rw [if_pos h]
  · walk_at "s"
    refine vq (k _ s1) ?_
    show V.int (SC.cnt m b l) = _
    unfold SC.cnt
    rw [if_neg h]
theorem ok_count_halves (T : TX K mg fa fd fc) : FnOk P w K mg base CX0 1 (fa 9) (fd 9) ["rounds", "stage"] (Sp2 (fun r t => 0 ≤ r - t + 1 ∧ r - t + 1 ≤ 1000) (fun r t => .int (p2 (r - t + 1)))) := by
  refine T.F_count_halves.ok sc_count_halves (fun vs H Q E h => ?_) (fun cdv A outer s H vs Q E hr h => ?_)
  · obtain ⟨r, t, rfl, hp, k⟩ := h
    rfl
  obtain ⟨r, t, rfl, hp, k⟩ := h
  refine ⟨_, (pss_one (ps_ret (pe_op SC.op_shl1 pe_int (pe_op op_add (pe_op op_sub (pv 0) (pv 1)) pe_int)))), ?_⟩
  walk_at "s"
  exact k _ (.refl _)
theorem ok_own_half (T : TX K mg fa fd fc) : FnOk P w K mg base CX0 3 (fa 10) (fd 10) ["rounds", "stage", "seed"] (Sp3 (fun r t _ => 0 ≤ r - t + 1 ∧ r - t + 1 ≤ 1000) (fun r t s => .int (blk (p2 (r - t + 1)) s))) := by
  refine T.F_own_half.ok sc_own_half (fun vs H Q E h => ?_) (fun cdv A outer s H vs Q E hr h => ?_)
  · obtain ⟨r, t, s, rfl, hp, k⟩ := h
    rfl
  obtain ⟨r, t, s, rfl, hp, k⟩ := h
  refine ⟨_, (pss_one (ps_ret (pe_call (ok_group_of T) (hr.mono (by decide)) rfl T.g_group_of T.F_group_of.kp (bi_group_of T) .nil pass0 (pa_cons (pe_call (ok_count_halves T) (hr.mono (by decide)) rfl T.g_count_halves T.F_count_halves.kp (bi_count_halves T) .nil pass0 (pa_cons (pv 0) (pa_cons (pv 1) pa_nil))) (pa_cons (pv 2) pa_nil))))), ?_⟩
  walk_at "s"
  refine w_sp2 hp fun H1 s1 => ?_
  walk_at "s"
  refine w_sp2 ⟨p2_pos _, p2_lim (by omega)⟩ fun H2 s2 => ?_
  exact k _ (s1.trans s2)
theorem ok_beside (T : TX K mg fa fd fc) : FnOk P w K mg base CX0 2 (fa 12) (fd 12) ["rounds", "stage", "half"] (Sp3 (fun r t _ => 0 ≤ r - t + 1 ∧ r - t + 1 ≤ 1000) (fun r t h => .int (p2 (r - t + 1) + 1 - h))) := by
  refine T.F_beside.ok sc_beside (fun vs H Q E h => ?_) (fun cdv A outer s H vs Q E hr h => ?_)
  · obtain ⟨r, t, h, rfl, hp, k⟩ := h
    rfl
  obtain ⟨r, t, h, rfl, hp, k⟩ := h
  refine ⟨_, (pss_one (ps_ret (pe_op op_sub (pe_op op_add (pe_call (ok_count_halves T) (hr.mono (by decide)) rfl T.g_count_halves T.F_count_halves.kp (bi_count_halves T) .nil pass0 (pa_cons (pv 0) (pa_cons (pv 1) pa_nil))) pe_int) (pv 2)))), ?_⟩
  walk_at "s"
  refine w_sp2 hp fun H1 s1 => ?_
  walk_at "s"
  exact k _ s1
theorem ok_other_half (T : TX K mg fa fd fc) : FnOk P w K mg base CX0 4 (fa 11) (fd 11) ["rounds", "stage", "seed"] (Sp3 (fun r t _ => 0 ≤ r - t + 1 ∧ r - t + 1 ≤ 1000) (fun r t s => .int (oth r t s))) := by
  refine T.F_other_half.ok sc_other_half (fun vs H Q E h => ?_) (fun cdv A outer s H vs Q E hr h => ?_)
  · obtain ⟨r, t, s, rfl, hp, k⟩ := h
    rfl
  obtain ⟨r, t, s, rfl, hp, k⟩ := h
  refine ⟨_, (pss_one (ps_ret (pe_call (ok_beside T) (hr.mono (by decide)) rfl T.g_beside T.F_beside.kp (bi_beside T) .nil pass0 (pa_cons (pv 0) (pa_cons (pv 1) (pa_cons (pe_call (ok_own_half T) (hr.mono (by decide)) rfl T.g_own_half T.F_own_half.kp (bi_own_half T) .nil pass0 (pa_cons (pv 0) (pa_cons (pv 1) (pa_cons (pv 2) pa_nil)))) pa_nil)))))), ?_⟩
  walk_at "s"
  refine w_sp3 hp fun H1 s1 => ?_
  walk_at "s"
  refine w_sp3 hp fun H2 s2 => ?_
  exact k _ (s1.trans s2)
theorem ok_count_matches (T : TX K mg fa fd fc) : FnOk P w K mg base CX0 4 (fa 13) (fd 13) ["rounds", "players", "stage"] (Sp3 (fun r p t => (1 ≤ r ∧ r ≤ 100) ∧ (1 ≤ p ∧ p ≤ p2 r) ∧ 1 ≤ t ∧ t ≤ r) (fun r p t => .int (max 0 (min p (p2 (r - t + 1)) - p2 (r - t + 1) / 2)))) := by
  refine T.F_count_matches.ok sc_count_matches (fun vs H Q E h => ?_) (fun cdv A outer s H vs Q E hr h => ?_)
  · obtain ⟨r, p, t, rfl, hp, k⟩ := h
    rfl
  obtain ⟨r, p, t, rfl, hp, k⟩ := h
  refine ⟨_, (pss_cons (ps_expr (pe_call (ok_check_rounds T) (hr.mono (by decide)) rfl T.g_check_rounds T.F_check_rounds.kp (bi_check_rounds T) .nil pass0 (pa_cons (pv 0) pa_nil)))
    (pss_cons (ps_expr (pe_call (ok_check_players T) (hr.mono (by decide)) rfl T.g_check_players T.F_check_players.kp (bi_check_players T) .nil pass0 (pa_cons (pv 0) (pa_cons (pv 1) pa_nil))))
    (pss_cons (ps_expr (pe_call (ok_check_stage T) (hr.mono (by decide)) rfl T.g_check_stage T.F_check_stage.kp (bi_check_stage T) .nil pass0 (pa_cons (pv 0) (pa_cons (pv 2) pa_nil))))
    (pss_cons (ps_set (i := 3) sc_count_matches.nd rfl (by first | exact Or.inl rfl | exact Or.inr rfl) (pe_call (ok_count_halves T) (hr.mono (by decide)) rfl T.g_count_halves T.F_count_halves.kp (bi_count_halves T) .nil pass0 (pa_cons (pv 0) (pa_cons (pv 2) pa_nil))))
    (pss_one (ps_ret (pe_callB (SC.c_max2 rfl) (by rfl) T.n_max (by decide +kernel) (pa_cons pe_int (pa_cons (pe_op op_sub (pe_callB (SC.c_min2 rfl) (by rfl) T.n_min (by decide +kernel) (pa_cons (pv 1) (pa_cons (pv 3) pa_nil))) (pe_op op_fdivW (pv 3) pe_int)) pa_nil))))))))), ?_⟩
  walk_at "r"
  exact k _ (by walk_at "same")
theorem ok_first_match (T : TX K mg fa fd fc) : FnOk P w K mg base CX0 5 (fa 14) (fd 14) ["rounds", "players", "seed"] (SpFirst) := by
  refine T.F_first_match.ok sc_first_match (fun vs H Q E h => ?_) (fun cdv A outer s H vs Q E hr h => ?_)
  · obtain ⟨r, p, s, rfl, hp, k⟩ := h
    rfl
  obtain ⟨r, p, s, rfl, hp, k⟩ := h
  refine ⟨_, (pss_cons (ps_expr (pe_call (ok_check_rounds T) (hr.mono (by decide)) rfl T.g_check_rounds T.F_check_rounds.kp (bi_check_rounds T) .nil pass0 (pa_cons (pv 0) pa_nil)))
    (pss_cons (ps_expr (pe_call (ok_check_players T) (hr.mono (by decide)) rfl T.g_check_players T.F_check_players.kp (bi_check_players T) .nil pass0 (pa_cons (pv 0) (pa_cons (pv 1) pa_nil))))
    (pss_cons (ps_expr (pe_call (ok_check_player T) (hr.mono (by decide)) rfl T.g_check_player T.F_check_player.kp (bi_check_player T) .nil pass0 (pa_cons (pv 1) (pa_cons (pv 2) pa_nil))))
    (pss_cons (ps_for PassesOwn.never rfl (pi_range2 rfl T.n_range (pa_cons pe_int (pa_cons (pe_op op_add (pv 0) pe_int) pa_nil))) (pg_name (i := 3) sc_first_match.nd rfl (by first | exact Or.inl rfl | exact Or.inr rfl))
    (pss_one (ps_if (pt_cmpR op_le (pe_call (ok_other_half T) (hr.mono (by decide)) rfl T.g_other_half T.F_other_half.kp (bi_other_half T) .nil pass0 (pa_cons (pv 0) (pa_cons (pv 3) (pa_cons (pv 2) pa_nil)))) (pv 1) (nomark _))
    (pss_one (ps_ret (pv 3))) pss_nil)))
    (pss_one (ps_ret pe_non)))))), ?_⟩
  walk_at "r"
  refine w_rng2 (by decide) (by decide) (by omega) (by omega) (fun d σ H' => ∃ y, σ = [some (.int r), some (.int p), some (.int s), y] ∧ (∀ u : Int, 1 ≤ u → u ≤ d → p < oth r u s) ∧ Same H H') ⟨_, rfl, fun u h1 h2 => by omega, by walk_at "same"⟩ ?_ ?_
  · rintro d σ H' hd ⟨y, rfl, hu, s3⟩
    walk_at "r"
    refine w_ifd (fun c => ?_) fun c => ?_
    · walk_at "r"
      exact k _ _ (.inr ⟨1 + d, rfl, by omega, by omega, c, fun u h1 h2 => hu u h1 (by omega)⟩) (by walk_at "same")
    · refine w_next ?_
      refine ⟨_, rfl, fun u h1 h2 => ?_, by walk_at "same"⟩
      by_cases z : u ≤ d
      · exact hu u h1 z
      · rw [show u = 1 + (d : Int) by omega]
        omega
  · rintro σ H' ⟨y, rfl, hu, s3⟩
    walk_at "r"
    exact k _ _ (.inl ⟨rfl, fun u h1 h2 => hu u h1 (by omega)⟩) (by walk_at "same")
theorem ok_count_opponents (T : TX K mg fa fd fc) : FnOk P w K mg base CX0 5 (fa 15) (fd 15) ["rounds", "players", "seed", "stage"] (Sp4 (fun r p s t => (1 ≤ r ∧ r ≤ 100) ∧ (1 ≤ p ∧ p ≤ p2 r) ∧ (1 ≤ s ∧ s ≤ p) ∧ 1 ≤ t ∧ t ≤ r) (fun r p s t => .int (cnt (p2 (r - t + 1)) (oth r t s) p))) := by
  refine T.F_count_opponents.ok sc_count_opponents (fun vs H Q E h => ?_) (fun cdv A outer s H vs Q E hr h => ?_)
  · obtain ⟨r, p, s, t, rfl, hp, k⟩ := h
    rfl
  obtain ⟨r, p, s, t, rfl, hp, k⟩ := h
  refine ⟨_, (pss_cons (ps_expr (pe_call (ok_check_rounds T) (hr.mono (by decide)) rfl T.g_check_rounds T.F_check_rounds.kp (bi_check_rounds T) .nil pass0 (pa_cons (pv 0) pa_nil)))
    (pss_cons (ps_expr (pe_call (ok_check_players T) (hr.mono (by decide)) rfl T.g_check_players T.F_check_players.kp (bi_check_players T) .nil pass0 (pa_cons (pv 0) (pa_cons (pv 1) pa_nil))))
    (pss_cons (ps_expr (pe_call (ok_check_player T) (hr.mono (by decide)) rfl T.g_check_player T.F_check_player.kp (bi_check_player T) .nil pass0 (pa_cons (pv 1) (pa_cons (pv 2) pa_nil))))
    (pss_cons (ps_expr (pe_call (ok_check_stage T) (hr.mono (by decide)) rfl T.g_check_stage T.F_check_stage.kp (bi_check_stage T) .nil pass0 (pa_cons (pv 0) (pa_cons (pv 3) pa_nil))))
    (pss_one (ps_ret (pe_call (ok_count_dealt T) (hr.mono (by decide)) rfl T.g_count_dealt T.F_count_dealt.kp (bi_count_dealt T) .nil pass0 (pa_cons (pe_call (ok_count_halves T) (hr.mono (by decide)) rfl T.g_count_halves T.F_count_halves.kp (bi_count_halves T) .nil pass0 (pa_cons (pv 0) (pa_cons (pv 3) pa_nil))) (pa_cons (pe_call (ok_other_half T) (hr.mono (by decide)) rfl T.g_other_half T.F_other_half.kp (bi_other_half T) .nil pass0 (pa_cons (pv 0) (pa_cons (pv 3) (pa_cons (pv 2) pa_nil)))) (pa_cons (pv 1) pa_nil)))))))))), ?_⟩
  walk_at "r"
  exact k _ (by walk_at "same")
theorem ok_law_cell_at (T : TX K mg fa fd fc) : FnOk P w K mg base CX0 1 (fa 16) (fd 16) ["script", "k"] (SpCell K) := by
  refine T.F_law_cell_at.ok sc_law_cell_at (fun vs H Q E h => ?_) (fun cdv A outer s H vs Q E hr h => ?_)
  · obtain ⟨p, ns, k, rfl, hS, k0, q⟩ := h
    rfl
  obtain ⟨p, ns, k, rfl, hS, k0, q⟩ := h
  refine ⟨_, (pss_cons (ps_if (pt_cmpR op_lt (pv 1) (pe_callB (r := SC.rLen K) SC.c_len (by rfl) T.n_len (by decide +kernel) (pa_cons (pv 0) pa_nil)) (nomark _))
    (pss_one (ps_ret (pe_ix (r := rIxL K) ix_list (pv 0) (pv 1) (fun _ _ => rfl)))) pss_nil)
    (pss_one (ps_ret pe_int))), ?_⟩
  walk_at "s"
  refine w_lenL hS ?_
  walk_at "s"
  refine w_ifd (fun c => ?_) fun c => ?_
  · walk_at "s"
    obtain ⟨m, em, _⟩ := pickI (fun _ => True) k0 (by simpa using c) (fun _ _ => trivial)
    refine w_ixL hS em ?_
    exact q _ _ (.refl _)
  · walk_at "s"
    exact q _ _ (.refl _)
theorem ok_law_source (T : TX K mg fa fd fc) : FnOk P w K mg base CX0 1 (fa 17) (fd 17) ["cell", "k"] (SpSourceB) := by
  refine T.F_law_source.ok sc_law_source (fun vs H Q E h => ?_) (fun cdv A outer s H vs Q E hr h => ?_)
  · obtain ⟨c, k, rfl, k0, k1, q⟩ := h
    rfl
  obtain ⟨c, k, rfl, k0, k1, q⟩ := h
  refine ⟨_, (pss_one (ps_ret (pe_lst (pa_cons (pe_callB (SC.c_max2 rfl) (by rfl) T.n_max (by decide +kernel) (pa_cons pe_int (pa_cons (pe_op op_sub (pv 0) (pe_op SC.op_powX pe_int pe_int)) pa_nil))) (pa_cons (pe_op op_add (pe_op SC.op_modR (pv 0) pe_int) (pe_op op_mul pe_int (pe_op op_add (pv 1) pe_int))) (pa_cons pe_int pa_nil)))))), ?_⟩
  walk_at "s"
  refine w_modG (by decide) fun r r0 r1 => ?_
  walk_at "s"
  refine w_new fun a H' s1 ha e => ?_
  refine q a H' ha s1 ⟨_, _, _, e, by omega, by omega, ?_, by omega, by omega⟩
  have b1 : (162259276829213363391578010288127 : Int) + 7919 * 1001 < 2 ^ 200 := by decide
  omega
theorem ok_law_draw (T : TX K mg fa fd fc) : FnOk P w K mg base CX0 1 (fa 18) (fd 18) ["source", "count"] (SpDraw) := by
  refine T.F_law_draw.ok sc_law_draw (fun vs H Q E h => ?_) (fun cdv A outer s H vs Q E hr h => ?_)
  · obtain ⟨a, N, b, rfl, ⟨c0, c1, c2, h, g0, g1, g2, g3, g4⟩, hb, hb2, hN, k⟩ := h
    rfl
  obtain ⟨a, N, b, rfl, ⟨c0, c1, c2, h, g0, g1, g2, g3, g4⟩, hb, hb2, hN, k⟩ := h
  refine ⟨_, (pss_cons (ps_if (pt_cmpR op_gt (pe_ix (r := rIxL K) ix_list (pv 0) pe_int (fun _ _ => rfl)) pe_int (nomark _))
    (pss_cons (ps_set (i := 2) sc_law_draw.nd rfl (by first | exact Or.inl rfl | exact Or.inr rfl) (pe_op SC.op_modR (pe_ix (r := rIxL K) ix_list (pv 0) pe_int (fun _ _ => rfl)) (pv 1)))
    (pss_cons (ps_asg (pe_op op_fdivW (pe_ix (r := rIxL K) ix_list (pv 0) pe_int (fun _ _ => rfl)) (pv 1)) (pg_sub (pv 0) pe_int set_list))
    (pss_one (ps_ret (pv 2))))) pss_nil)
    (pss_cons (ps_asg (pe_op op_add (pe_ix (r := rIxL K) ix_list (pv 0) pe_int (fun _ _ => rfl)) pe_int) (pg_sub (pv 0) pe_int set_list))
    (pss_cons (ps_set (i := 3) sc_law_draw.nd rfl (by first | exact Or.inl rfl | exact Or.inr rfl) (pe_op SC.op_modR (pe_op SC.op_powX (pe_op op_add (pe_ix (r := rIxL K) ix_list (pv 0) pe_int (fun _ _ => rfl)) (pe_op op_mul pe_int (pe_ix (r := rIxL K) ix_list (pv 0) pe_int (fun _ _ => rfl)))) pe_int) pe_int))
    (pss_cons (ps_set (i := 3) sc_law_draw.nd rfl (by first | exact Or.inl rfl | exact Or.inr rfl) (pe_op SC.op_modR (pe_op SC.op_powX (pe_op op_add (pv 3) (pe_op op_mul pe_int (pe_ix (r := rIxL K) ix_list (pv 0) pe_int (fun _ _ => rfl)))) pe_int) pe_int))
    (pss_one (ps_ret (pe_op SC.op_modR (pe_op op_fdivW (pv 3) pe_int) (pv 1)))))))), ?_⟩
  walk_at "s"
  refine w_ixL (.inl (.inl h)) rfl ?_
  walk_at "s"
  refine w_ifd (fun c => ?_) fun c => ?_
  · walk_at "s"
    refine w_ixL (.inl (.inl h)) rfl ?_
    walk_at "s"
    refine w_modE hb ?_
    walk_at "s"
    refine w_ixL (.inl (.inl h)) rfl ?_
    walk_at "s"
    refine w_i (wide_div hb (big_abs hb hb2) (by decide) (by decide)) ?_
    walk_at "s"
    refine w_setL h rfl ?_
    walk_at "s"
    exact k _ _ (Int.emod_nonneg _ (by omega)) (Int.emod_lt_of_pos _ hb) kp_upd ⟨_, _, _, upd_same, Int.ediv_nonneg (by omega) (by omega), g1, g2, g3, by omega⟩
  · walk_at "s"
    refine w_ixL (.inl (.inl h)) rfl ?_
    walk_at "s"
    refine w_setL h rfl ?_
    have h' := upd_same (H := H) (a := a) (o := .lst [.int c0, .int c1, .int (c2 + 1)])
    have b0 : LIM = 1000000000000 := rfl
    walk_at "s"
    refine w_ixL (.inl (.inl h')) rfl ?_
    walk_at "s"
    refine w_ixL (.inl (.inl h')) rfl ?_
    walk_at "s"
    refine w_i (cpow_ok (by omega) (by have b1 : (2 : Int) ^ 200 + 1299709 * 10000000000000 < 2 ^ 400 := by decide
                                       omega) (by decide) (by decide)) ?_
    walk_at "s"
    refine w_modG (by decide) fun r r0 r1 => ?_
    walk_at "s"
    refine w_ixL (.inl (.inl h')) rfl ?_
    walk_at "s"
    refine w_i (cpow_ok (by omega) (by have b1 : (162259276829213363391578010288127 : Int) + 15485863 * 10000000000000 < 2 ^ 400 := by decide
                                       omega) (by decide) (by decide)) ?_
    walk_at "s"
    refine w_modG (by decide) fun r' r0' r1' => ?_
    walk_at "s"
    refine w_modE hb ?_
    walk_at "s"
    exact k _ _ (Int.emod_nonneg _ (by omega)) (Int.emod_lt_of_pos _ hb) kp_upd ⟨_, _, _, h', by omega, g1, g2, by omega, by omega⟩
theorem ok_law_same0 (T : TX K mg fa fd fc) : FnOk P w K mg base CX0 1 (fa 19) (fd 19) ["found", "expected"] (SpSame0) := by
  refine T.F_law_same.ok sc_law_same (fun vs H Q E h => ?_) (fun cdv A outer s H vs Q E hr h => ?_)
  · obtain ⟨u, v, b, rfl, hsc, q⟩ := h
    rfl
  obtain ⟨u, v, b, rfl, hsc, q⟩ := h
  refine ⟨_, (pss_cons (ps_if (pt_val (pe_callB (r := rIsiT K) call_isiT (by rfl) T.n_isinstance (by decide +kernel) (pa_cons (pv 1) (pa_cons (pe_tup (pa_cons (pe_bltn (v := .ty "list") (by rfl) T.n_list (by decide +kernel) rfl) (pa_cons (pe_bltn (v := .ty "tuple") (by rfl) T.n_tuple (by decide +kernel) rfl) pa_nil))) pa_nil))))
    pss_never pss_nil)
    (pss_cons (ps_if (PW.pt (pw_or (pt_val (pe_callB (r := rIsi K) call_isi (by rfl) T.n_isinstance (by decide +kernel) (pa_cons (pv 1) (pa_cons (pe_bltn (v := .ty "bool") (by rfl) T.n_bool (by decide +kernel) rfl) pa_nil)))) (pw_or1 (pt_val (pe_callB (r := rIsi K) call_isi (by rfl) T.n_isinstance (by decide +kernel) (pa_cons (pv 0) (pa_cons (pe_bltn (v := .ty "bool") (by rfl) T.n_bool (by decide +kernel) rfl) pa_nil)))))))
    (pss_one (ps_ret (pe_and (pe_callB (r := rIsi K) call_isi (by rfl) T.n_isinstance (by decide +kernel) (pa_cons (pv 1) (pa_cons (pe_bltn (v := .ty "bool") (by rfl) T.n_bool (by decide +kernel) rfl) pa_nil))) (pe_and (pe_callB (r := rIsi K) call_isi (by rfl) T.n_isinstance (by decide +kernel) (pa_cons (pv 0) (pa_cons (pe_bltn (v := .ty "bool") (by rfl) T.n_bool (by decide +kernel) rfl) pa_nil))) (pe_one (pe_cmpR op_eq (pv 0) (pv 1) (nomark _))))))) pss_nil)
    (pss_one (ps_ret (pe_cmpR op_eq (pv 0) (pv 1) (nomark _)))))), ?_⟩
  rcases hsc with ⟨i, j, rfl, rfl, hb⟩ | ⟨i, j, rfl, rfl, hb⟩ | ⟨rfl, rfl, hb⟩
  · walk_at "s"
    refine w_newT fun p H1 s1 hp e1 => ?_
    walk_at "s"
    refine w_isiT_i e1 ?_
    walk_at "s"
    refine iteF ?_
    walk_at "s"
    refine iteF ?_
    walk_at "s"
    refine iteF ?_
    walk_at "s"
    exact vq (q _ s1) (by rw [hb])
  · walk_at "s"
    refine w_newT fun p H1 s1 hp e1 => ?_
    walk_at "s"
    refine w_isiT_b e1 ?_
    walk_at "s"
    refine iteF ?_
    walk_at "s"
    refine iteT ?_
    walk_at "s"
    refine iteT ?_
    walk_at "s"
    refine iteT ?_
    walk_at "s"
    refine iteT ?_
    walk_at "s"
    exact vq (q _ s1) (by rw [hb])
  · walk_at "s"
    refine w_newT fun p H1 s1 hp e1 => ?_
    walk_at "s"
    refine w_isiT_n e1 ?_
    walk_at "s"
    refine iteF ?_
    walk_at "s"
    refine w_isi_n ?_
    walk_at "s"
    refine iteF ?_
    walk_at "s"
    refine w_isi_n ?_
    walk_at "s"
    refine iteF ?_
    walk_at "s"
    refine w_eqN ?_
    exact vq (q _ s1) (by rw [hb])
theorem ok_law_same1 (T : TX K mg fa fd fc) : FnOk P w K mg base CX0 2 (fa 19) (fd 19) ["found", "expected"] (SpSame1) := by
  refine T.F_law_same.ok sc_law_same (fun vs H Q E h => ?_) (fun cdv A outer s H vs Q E hr h => ?_)
  · obtain ⟨p, q', xs, rfl, h1, h2, hz, hx, q⟩ := h
    rfl
  obtain ⟨p, q', xs, rfl, h1, h2, hz, hx, q⟩ := h
  refine ⟨_, (pss_cons (ps_if (pt_val (pe_callB (r := rIsiT K) call_isiT (by rfl) T.n_isinstance (by decide +kernel) (pa_cons (pv 1) (pa_cons (pe_tup (pa_cons (pe_bltn (v := .ty "list") (by rfl) T.n_list (by decide +kernel) rfl) (pa_cons (pe_bltn (v := .ty "tuple") (by rfl) T.n_tuple (by decide +kernel) rfl) pa_nil))) pa_nil))))
    (pss_cons (ps_if (PW.pt (pw_or (pt_cmpR op_ne (pe_callB (r := rIsi K) call_isi (by rfl) T.n_isinstance (by decide +kernel) (pa_cons (pv 0) (pa_cons (pe_bltn (v := .ty "list") (by rfl) T.n_list (by decide +kernel) rfl) pa_nil))) (pe_callB (r := rIsi K) call_isi (by rfl) T.n_isinstance (by decide +kernel) (pa_cons (pv 1) (pa_cons (pe_bltn (v := .ty "list") (by rfl) T.n_list (by decide +kernel) rfl) pa_nil))) (nomark _)) (pw_or1 (pt_not (pt_val (pe_callB (r := rIsiT K) call_isiT (by rfl) T.n_isinstance (by decide +kernel) (pa_cons (pv 0) (pa_cons (pe_tup (pa_cons (pe_bltn (v := .ty "list") (by rfl) T.n_list (by decide +kernel) rfl) (pa_cons (pe_bltn (v := .ty "tuple") (by rfl) T.n_tuple (by decide +kernel) rfl) pa_nil))) pa_nil))))))))
    pss_never pss_nil)
    (pss_cons (ps_if (pt_cmpR op_ne (pe_callB (r := SC.rLen K) SC.c_len (by rfl) T.n_len (by decide +kernel) (pa_cons (pv 0) pa_nil)) (pe_callB (r := SC.rLen K) SC.c_len (by rfl) T.n_len (by decide +kernel) (pa_cons (pv 1) pa_nil)) (nomark _))
    pss_never pss_nil)
    (pss_one (ps_ret (pe_callB (cr_all rfl) (by rfl) T.n_all (by decide +kernel) (pa_cons (pe_lc (own := [("k", 2)]) (by rfl) sc_law_same.nd (pi_range1 rfl T.n_range (pa_cons (pe_callB (r := SC.rLen K) SC.c_len (by rfl) T.n_len (by decide +kernel) (pa_cons (pv 1) pa_nil)) pa_nil)) (blkOk_by (own := [("k", 2)]) (N := nm_law_same) (sc := defScope s_law_same) (by decide +kernel)) (fun _ _ _ _ _ => (pg_name (i := 2) sc_law_same.nd rfl (by first | exact Or.inl rfl | exact Or.inr rfl))) (fun _ _ _ _ _ => pts_nil) (fun _ _ _ _ _ => (pe_call (ok_law_same0 T) (hr.mono (by decide)) rfl T.g_law_same T.F_law_same.kp (bi_law_same T) .nil pass0 (pa_cons (pe_ix (r := rIxL K) ix_list (pv 0) (pv 2) (fun _ _ => rfl)) (pa_cons (pe_ix (r := rIxL K) ix_list (pv 1) (pv 2) (fun _ _ => rfl)) pa_nil))))) pa_nil)))))) pss_nil)
    (pss_cons (ps_if (PW.pt (pw_or (pt_val (pe_callB (r := rIsi K) call_isi (by rfl) T.n_isinstance (by decide +kernel) (pa_cons (pv 1) (pa_cons (pe_bltn (v := .ty "bool") (by rfl) T.n_bool (by decide +kernel) rfl) pa_nil)))) (pw_or1 (pt_val (pe_callB (r := rIsi K) call_isi (by rfl) T.n_isinstance (by decide +kernel) (pa_cons (pv 0) (pa_cons (pe_bltn (v := .ty "bool") (by rfl) T.n_bool (by decide +kernel) rfl) pa_nil)))))))
    (pss_one (ps_ret (pe_and (pe_callB (r := rIsi K) call_isi (by rfl) T.n_isinstance (by decide +kernel) (pa_cons (pv 1) (pa_cons (pe_bltn (v := .ty "bool") (by rfl) T.n_bool (by decide +kernel) rfl) pa_nil))) (pe_and (pe_callB (r := rIsi K) call_isi (by rfl) T.n_isinstance (by decide +kernel) (pa_cons (pv 0) (pa_cons (pe_bltn (v := .ty "bool") (by rfl) T.n_bool (by decide +kernel) rfl) pa_nil))) (pe_one (pe_cmpR op_eq (pv 0) (pv 1) (nomark _))))))) pss_nil)
    (pss_one (ps_ret (pe_cmpR op_eq (pv 0) (pv 1) (nomark _)))))), ?_⟩
  walk_at "s"
  refine w_newT fun pt H1 s1 hp e1 => ?_
  walk_at "s"
  refine w_isiT_l (s1 _ _ h2) e1 ?_
  walk_at "s"
  refine iteT ?_
  walk_at "s"
  refine w_isi_ll (s1 _ _ h1) ?_
  walk_at "s"
  refine w_isi_ll (s1 _ _ h2) ?_
  walk_at "s"
  refine w_no (by simp) ?_
  walk_at "s"
  refine w_newT fun pu H2 s2 hpu e2 => ?_
  walk_at "s"
  have s12 := s1.trans s2
  refine w_isiT_l (s12 _ _ h1) e2 ?_
  walk_at "s"
  refine iteF ?_
  walk_at "s"
  refine w_lenL (.inl (.inl (s12 _ _ h1))) ?_
  walk_at "s"
  refine w_lenL (.inl (.inl (s12 _ _ h2))) ?_
  walk_at "s"
  refine w_no (by simp) ?_
  walk_at "s"
  refine w_lenL (.inl (.inl (s12 _ _ h2))) ?_
  walk_at "s"
  refine w_lcr1 (fun _ => V.bl true) (by omega) (by omega) (fun _ => rfl) (fun i H' hi s3 R hR => ?_) fun p3 H3 s3 hp3 e3 => ?_
  · have hi2 : i < xs.length := by omega
    have gi : atI xs (i : Int) = some xs[i] := atI_nat (List.getElem?_eq_getElem hi2)
    walk_at "s"
    refine w_ixL (.inl (.inl (s3 _ _ (s12 _ _ h1)))) gi ?_
    walk_at "s"
    refine w_ixL (.inl (.inl (s3 _ _ (s12 _ _ h2)))) gi ?_
    walk_at "s"
    rcases hx xs[i] (List.getElem_mem hi2) with ⟨n, e⟩ | ⟨n, e⟩ | e
    · rw [e]
      refine w_same0i fun H4 s4 => ?_
      exact vq (hR _ s4) (by simp)
    · rw [e]
      refine w_same0b fun H4 s4 => ?_
      exact vq (hR _ s4) (by simp)
    · rw [e]
      refine w_same0n fun H4 s4 => ?_
      exact hR _ s4
  walk_at "s"
  refine w_all (bs := List.replicate xs.length true) (.inl (.inl (by rw [e3, Int.toNat_natCast]; simp [List.map_const']))) ?_
  exact vq (q _ (s12.trans s3)) (by simp)
theorem ok_law_bracket (T : TX K mg fa fd fc) : FnOk P w K mg base CX0 1 (fa 20) (fd 20) ["size"] (SpBr) := by
  refine T.F_law_bracket.ok sc_law_bracket (fun vs H Q E h => ?_) (fun cdv A outer s H vs Q E hr h => ?_)
  · obtain ⟨n, rfl, hn, q⟩ := h
    rfl
  obtain ⟨n, rfl, hn, q⟩ := h
  refine ⟨_, (pss_cons (ps_set (i := 1) sc_law_bracket.nd rfl (by first | exact Or.inl rfl | exact Or.inr rfl) (pe_lst (pa_cons pe_int pa_nil)))
    (pss_cons (ps_for PassesOwn.never rfl (pi_range1 rfl T.n_range (pa_cons (pv 0) pa_nil)) (pg_name (i := 2) sc_law_bracket.nd rfl (by first | exact Or.inl rfl | exact Or.inr rfl))
    (pss_cons (ps_set (i := 3) sc_law_bracket.nd rfl (by first | exact Or.inl rfl | exact Or.inr rfl) (pe_callB (r := SC.rLen K) SC.c_len (by rfl) T.n_len (by decide +kernel) (pa_cons (pv 1) pa_nil)))
    (pss_cons (ps_set (i := 4) sc_law_bracket.nd rfl (by first | exact Or.inl rfl | exact Or.inr rfl) (pe_lst pa_nil))
    (pss_cons (ps_for PassesOwn.never rfl (pi_list (pv 1)) (pg_name (i := 5) sc_law_bracket.nd rfl (by first | exact Or.inl rfl | exact Or.inr rfl))
    (pss_one (ps_set (i := 4) sc_law_bracket.nd rfl (by first | exact Or.inl rfl | exact Or.inr rfl) (pe_op op_cat (pv 4) (pe_lst (pa_cons (pv 5) (pa_cons (pe_op op_sub (pe_op op_add (pe_op op_mul pe_int (pv 3)) pe_int) (pv 5)) pa_nil)))))))
    (pss_one (ps_set (i := 1) sc_law_bracket.nd rfl (by first | exact Or.inl rfl | exact Or.inr rfl) (pv 4)))))))
    (pss_one (ps_ret (pv 1))))), ?_⟩
  walk_at "s"
  refine w_new fun p0 H1 s1 hp0 e1 => ?_
  walk_at "s"
  refine w_rng1 (by omega) (by omega) (fun d σ H' => ∃ p y1 y2 y3 y4, σ = [some (.int n), some (.ref p), y1, y2, y3, y4] ∧ Same H H' ∧ H p = none ∧ H' p = some (.lst ((brk d).map V.int))) ⟨_, _, _, _, _, rfl, s1, hp0, e1⟩ ?_ ?_
  · rintro d σ H' hd ⟨p, y1, y2, y3, y4, rfl, s3, hp, e3⟩
    walk_at "s"
    refine w_lenL (.inl (.inl e3)) ?_
    walk_at "s"
    refine w_new fun q0 H2 s2 hq0 e2 => ?_
    walk_at "s"
    have e3' := s2 _ _ e3
    have lim : 2 ^ d ≤ 2 ^ 13 := Nat.pow_le_pow_right (by decide) (by omega)
    have bl := brk_len d
    have pd : p2 (0 + (d : Int)) = ((2 ^ d : Nat) : Int) := by
      rw [Int.zero_add]
      unfold p2
      simp
    refine w_lst (.inl (.inl e3')) (fun i σ H' => ∃ q y, σ = [some (.int n), some (.ref p), some (.int d), some (.int (((brk d).map V.int).length : Int)), some (.ref q), y] ∧ Same H H' ∧ H q = none ∧ H' p = some (.lst ((brk d).map V.int)) ∧ H' q = some (.lst ((((brk d).take i).flatMap fun x => [x, 2 * p2 (0 + (d : Int)) + 1 - x]).map V.int))) ⟨_, _, rfl, s3.trans s2, s3.free hq0, e3', by simpa using e2⟩ (fun i σ H' _ ⟨q, y, _, _, _, h, _⟩ => .inl (.inl h)) ?_ ?_
    · rintro i x σ H' hx ⟨q, y, rfl, s4, hq, e4, e5⟩
      obtain ⟨x, hy, rfl⟩ := at_int hx
      have hi : i < 2 ^ d := by
        have := (List.getElem?_eq_some_iff.mp hy).1
        omega
      walk_at "s"
      refine w_new fun r H5 s5 hr e6 => ?_
      walk_at "s"
      have fl : ∀ l : List Int, (l.flatMap fun x => [x, 2 * p2 (0 + (d : Int)) + 1 - x]).length = 2 * l.length := fun l => by
        induction l with
        | nil => rfl
        | cons a r ih => simp only [List.flatMap_cons, List.length_append, List.length_cons, List.length_nil, ih]; omega
      refine w_cat (s5 _ _ e5) e6 ?_ fun u H6 s6 hu e7 => ?_
      · rw [List.length_map, fl, List.length_take]
        simp only [List.length_cons, List.length_nil]
        omega
      · walk_at "s"
        refine ⟨u, _, rfl, (s4.trans s5).trans s6, (s4.trans s5).free hu, s6 _ _ (s5 _ _ e4), ?_⟩
        rw [e7]
        congr 2
        rw [List.take_add_one, hy, List.flatMap_append, List.map_append]
        congr 1
        simp only [Option.toList_some, List.flatMap_cons, List.flatMap_nil, List.append_nil, List.map_cons, List.map_nil, List.length_map, bl, pd]
    · rintro σ H' ⟨q, y, rfl, s4, hq, e4, e5⟩
      walk_at "s"
      refine ⟨q, _, _, _, _, rfl, s4, hq, ?_⟩
      rw [e5, List.length_map, List.take_length]
      rfl
  · rintro σ H' ⟨p, y1, y2, y3, y4, rfl, s3, hp, e3⟩
    walk_at "s"
    exact q _ _ hp s3 e3
theorem ok_law_half (T : TX K mg fa fd fc) : FnOk P w K mg base CX0 1 (fa 21) (fd 21) ["line", "place", "turn", "many"] (SpHalf K) := by
  refine T.F_law_half.ok sc_law_half (fun vs H Q E h => ?_) (fun cdv A outer s H vs Q E hr h => ?_)
  · obtain ⟨p, n, i, t, l, s, rfl, hp, hn, ht, hs, hl, q⟩ := h
    rfl
  obtain ⟨p, n, i, t, l, s, rfl, hp, hn, ht, hs, hl, q⟩ := h
  refine ⟨_, (pss_cons (ps_set (i := 4) sc_law_half.nd rfl (by first | exact Or.inl rfl | exact Or.inr rfl) pe_int)
    (pss_cons (ps_for PassesOwn.never rfl (pi_range1 rfl T.n_range (pa_cons (pe_op op_sub (pv 2) pe_int) pa_nil)) (pg_name (i := 5) sc_law_half.nd rfl (by first | exact Or.inl rfl | exact Or.inr rfl))
    (pss_one (ps_set (i := 4) sc_law_half.nd rfl (by first | exact Or.inl rfl | exact Or.inr rfl) (pe_op op_mul (pv 4) pe_int))))
    (pss_cons (ps_set (i := 6) sc_law_half.nd rfl (by first | exact Or.inl rfl | exact Or.inr rfl) (pe_op op_mulX (pe_op op_fdivW (pv 1) (pv 4)) (pv 4)))
    (pss_cons (ps_set (i := 7) sc_law_half.nd rfl (by first | exact Or.inl rfl | exact Or.inr rfl) (pe_ifExp (pt_cmpR op_eq (pe_op SC.op_modR (pe_op op_fdivW (pv 6) (pv 4)) pe_int) pe_int (nomark _)) (pe_op op_add (pv 6) (pv 4)) (pe_op op_sub (pv 6) (pv 4))))
    (pss_one (ps_ret (pe_lc (own := [("seed_here", 8)]) (by rfl) sc_law_half.nd (pi_list (pe_slice (r := rSlL K) sl_list (pv 0) (po_some (pv 7)) (po_some (pe_op op_add (pv 7) (pv 4))))) (blkOk_by (own := [("seed_here", 8)]) (N := nm_law_half) (sc := defScope s_law_half) (by decide +kernel)) (fun _ _ _ _ _ => (pg_name (i := 8) sc_law_half.nd rfl (by first | exact Or.inl rfl | exact Or.inr rfl))) (fun _ _ _ _ _ => pts_one (pt_cmpR op_le (pv 8) (pv 3) (nomark _))) (fun _ _ _ _ _ => (pv 8))))))))), ?_⟩
  have hi : i < 2 ^ n := by
    have := (List.getElem?_eq_some_iff.mp hs).1
    rwa [brk_len] at this
  have lim : 2 ^ n ≤ 2 ^ 13 := Nat.pow_le_pow_right (by decide) hn
  walk_at "r"
  refine w_rng1 (by omega) (by omega) (fun d σ H' => ∃ y z, σ = [some (.ref p), some (.int i), some (.int t), some (.int l), some (.int z), y, none, none, none] ∧ z = p2 d ∧ Same H H') ⟨_, _, rfl, p2_zero.symm, .refl _⟩ ?_ ?_
  · rintro d σ H' hd ⟨y, _, rfl, rfl, s3⟩
    walk_at "r"
    exact ⟨_, _, rfl, by rw [Int.mul_comm]; exact (p2_succ (k := (d : Int)) (by omega)).symm, s3⟩
  · rintro σ H' ⟨y, _, rfl, rfl, s3⟩
    obtain ⟨h, hh⟩ : ∃ h : Nat, (t - 1).toNat = h := ⟨_, rfl⟩
    have ht' : t = (h : Int) + 1 := by omega
    subst ht'
    rw [hh]
    have hn1 : h + 1 ≤ n := by omega
    have W0 := p2_pos (h : Int)
    have WN := p2_nat h
    have PW : 2 ^ n = 2 ^ (n - h) * 2 ^ h := by rw [← Nat.pow_add]; congr 1; omega
    have J0 : (i : Int) / p2 h = ((i / 2 ^ h : Nat) : Int) := by rw [WN]; rfl
    have hb := brk_blk (h := h) (by omega) hs
    obtain ⟨k, hk⟩ : ∃ k, n - h = k + 1 := ⟨n - h - 1, by omega⟩
    have hJ : i / 2 ^ h < 2 ^ (n - h) := by
      rw [PW] at hi
      exact Nat.div_lt_of_lt_mul (by rw [Nat.mul_comm]; exact hi)
    have hl2 : 2 ^ h ≤ 2 ^ 13 := Nat.pow_le_pow_right (by decide) (by omega)
    rw [hk] at hb
    have sb := brk_sib hb
    have hkn : ((k + 1 : Nat) : Int) = (n : Int) - h := by omega
    have et : (n : Int) - ((h : Int) + 1) + 1 = (n : Int) - h := by omega
    have eo : p2 ((k + 1 : Nat) : Int) + 1 - blk (p2 ((n : Int) - h)) s = oth n ((h : Int) + 1) s := by
      unfold oth
      rw [et, hkn]
    rw [eo, ← hk] at sb
    generalize hJ' : (if i / 2 ^ h % 2 = 0 then i / 2 ^ h + 1 else i / 2 ^ h - 1) = J' at sb
    have hJ2 : J' < 2 ^ (n - h) := by
      have := (List.getElem?_eq_some_iff.mp sb).1
      rwa [brk_len] at this
    have ec := brk_cut (n := n) (h := h) (by omega) sb
    have or' := oth_range (k := (n : Int)) (t := (h : Int) + 1) (s := s)
    rw [et] at or'
    have mid : ((i / 2 ^ h : Nat) : Int) * p2 h / p2 h = ((i / 2 ^ h : Nat) : Int) := Int.mul_ediv_cancel _ (by omega)
    have bnd1 : ((i / 2 ^ h : Nat) : Int) ≤ 10000 := by have := Nat.div_le_self i (2 ^ h); omega
    have bnd2 : p2 (h : Int) ≤ 10000 := by omega
    have J'1 : J' ≤ 10000 := by
      have : 2 ^ (n - h) ≤ 2 ^ 13 := Nat.pow_le_pow_right (by decide) (by omega)
      omega
    have done : ∀ (H4 : Hp) (p4 : Addr), Same H H4 → H p4 = none → H4 p4 = some (.lst ((ext ((n - h : Nat) : Int) (oth n ((h : Int) + 1) s) h).map V.int)) →
        ∃ ys : List V, ((((ext ((n - h : Nat) : Int) (oth n ((h : Int) + 1) s) h).map V.int).filter fun x => match x with | .int z => decide (z ≤ l) | _ => false).map id) = ys ∧ (ys.length : Int) = CO n l s ((h : Int) + 1) := fun H4 p4 _ _ _ => by
      refine ⟨_, rfl, ?_⟩
      rw [List.map_id, List.filter_map, List.length_map]
      have cc := ext_count (m := ((n - h : Nat) : Int)) (s := oth n ((h : Int) + 1) s) (l := l) (by omega) or'.1 (by rw [show ((n - h : Nat) : Int) = (n : Int) - h by omega]; exact or'.2) h hl.1 (by
        rw [show ((n - h : Nat) : Int) = (n : Int) - h by omega, ← p2_add (by omega) (by omega), show (h : Int) + ((n : Int) - h) = n by omega]
        exact hl.2)
      unfold CO
      rw [et, show (n : Int) - h = ((n - h : Nat) : Int) by omega, ← cc]
      rfl
    have nnJ := Int.natCast_nonneg (i / 2 ^ h)
    generalize i / 2 ^ h = J at *
    walk_at "r"
    rw [J0]
    walk_at "r"
    rw [mid]
    walk_at "r"
    have JW : ∀ x : Nat, ((x * 2 ^ h : Nat) : Int) = (x : Int) * p2 h := fun x => by rw [WN]; push_cast; rfl
    refine w_ifd (fun c => ?b1) fun c => ?b2
    case' b1 =>
      have c2 : J % 2 = 0 := by omega
      rw [if_pos c2] at hJ'
      have hO : (J : Int) * p2 h + p2 h = ((J' * 2 ^ h : Nat) : Int) := by
        rw [JW, ← hJ']
        push_cast
        rw [Int.add_mul]
        omega
      walk_at "r"
      rw [hO]
    case' b2 =>
      have c2 : ¬ J % 2 = 0 := by omega
      rw [if_neg c2] at hJ'
      have hO : (J : Int) * p2 h - p2 h = ((J' * 2 ^ h : Nat) : Int) := by
        rw [JW, ← hJ']
        have : ((J - 1 : Nat) : Int) = (J : Int) - 1 := by omega
        rw [this, Int.sub_mul]
        omega
      walk_at "r"
      rw [hO]
    all_goals
      walk_at "r"
      refine w_sl (by walk_at "seq") fun p4 H4 e4 f4 h4 => ?_
      have hj3 : (J' + 1) * 2 ^ h ≤ 2 ^ n := by
        rw [PW]
        exact Nat.mul_le_mul_right _ (by omega)
      rw [cut_part (a := J' * 2 ^ h) (b := (J' + 1) * 2 ^ h) rfl (by rw [JW, JW]; push_cast; rw [Int.add_mul]; omega) (Nat.mul_le_mul_right _ (by omega)) (by rw [List.length_map, brk_len]; exact hj3), show (J' + 1) * 2 ^ h - J' * 2 ^ h = 2 ^ h by rw [Nat.add_mul]; omega, ← List.map_drop, ← List.map_take, ec] at h4
      have el := ext_len ((n - h : Nat) : Int) (oth n ((h : Int) + 1) s) h
      walk_at "r"
      refine w_lclF (xs := (ext ((n - h : Nat) : Int) (oth n ((h : Int) + 1) s) h).map V.int) (fun x => match x with | .int z => decide (z ≤ l) | _ => false) id (by walk_at "seq") (by rw [List.length_map, el]; omega) (fun _ => rfl) (fun i x H5 hx e5 R hR => ?_) (fun i x H5 hx hp5 e5 R hR => ?_) fun p6 H6 e6 f6 h6 => ?_
      · obtain ⟨z, hz, rfl⟩ := at_int hx
        walk_at "r"
        exact hR _ (.refl _)
      · walk_at "r"
        exact hR _ (.refl _)
      obtain ⟨ys, ey, ly⟩ := done H4 p4 (by walk_at "same") (by
        have : Same H H' := s3
        exact this.free f4) h4
      rw [ey] at h6
      exact q p6 ys H6 (by walk_at "same") ((s3.trans e4).free f6) h6 ly
theorem ok_law_matches (T : TX K mg fa fd fc) : FnOk P w K mg base CX0 1 (fa 22) (fd 22) ["line", "turn", "many"] (SpMatches K) := by
  refine T.F_law_matches.ok sc_law_matches (fun vs H Q E h => ?_) (fun cdv A outer s H vs Q E hr h => ?_)
  · obtain ⟨p, n, t, l, rfl, hp, hn, ht, hl, q⟩ := h
    rfl
  obtain ⟨p, n, t, l, rfl, hp, hn, ht, hl, q⟩ := h
  refine ⟨_, (pss_cons (ps_set (i := 3) sc_law_matches.nd rfl (by first | exact Or.inl rfl | exact Or.inr rfl) pe_int)
    (pss_cons (ps_for PassesOwn.never rfl (pi_range1 rfl T.n_range (pa_cons (pe_op op_sub (pv 1) pe_int) pa_nil)) (pg_name (i := 4) sc_law_matches.nd rfl (by first | exact Or.inl rfl | exact Or.inr rfl))
    (pss_one (ps_set (i := 3) sc_law_matches.nd rfl (by first | exact Or.inl rfl | exact Or.inr rfl) (pe_op op_mul (pv 3) pe_int))))
    (pss_cons (ps_set (i := 5) sc_law_matches.nd rfl (by first | exact Or.inl rfl | exact Or.inr rfl) pe_int)
    (pss_cons (ps_for PassesOwn.never rfl (pi_range3 rfl T.n_range (pa_cons pe_int (pa_cons (pe_callB (r := SC.rLen K) SC.c_len (by rfl) T.n_len (by decide +kernel) (pa_cons (pv 0) pa_nil)) (pa_cons (pe_op op_mul pe_int (pv 3)) pa_nil)))) (pg_name (i := 6) sc_law_matches.nd rfl (by first | exact Or.inl rfl | exact Or.inr rfl))
    (pss_cons (ps_set (i := 7) sc_law_matches.nd rfl (by first | exact Or.inl rfl | exact Or.inr rfl) (pe_lst (pa_cons (pe_callB (r := rMin K) (cr_min rfl) (by rfl) T.n_min (by decide +kernel) (pa_cons (pe_slice (r := rSlL K) sl_list (pv 0) (po_some (pv 6)) (po_some (pe_op op_add (pv 6) (pv 3)))) pa_nil)) (pa_cons (pe_callB (r := rMin K) (cr_min rfl) (by rfl) T.n_min (by decide +kernel) (pa_cons (pe_slice (r := rSlL K) sl_list (pv 0) (po_some (pe_op op_add (pv 6) (pv 3))) (po_some (pe_op op_add (pv 6) (pe_op op_mul pe_int (pv 3))))) pa_nil)) pa_nil))))
    (pss_one (ps_set (i := 5) sc_law_matches.nd rfl (by first | exact Or.inl rfl | exact Or.inr rfl) (pe_op op_add (pv 5) (pe_callTy (r := SC.rInt1) SC.c_int1 (by rfl) T.n_int (by decide +kernel) (pa_cons (pe_cmpR op_le (pe_callB (r := rMax K) (cr_max rfl) (by rfl) T.n_max (by decide +kernel) (pa_cons (pv 7) pa_nil)) (pv 2) (nomark _)) pa_nil)))))))
    (pss_one (ps_ret (pv 5))))))), ?_⟩
  have lim : 2 ^ n ≤ 2 ^ 13 := Nat.pow_le_pow_right (by decide) hn
  walk_at "r"
  refine w_rng1 (by omega) (by omega) (fun d σ H' => ∃ y z, σ = [some (.ref p), some (.int t), some (.int l), some (.int z), y, none, none, none] ∧ z = p2 d ∧ Same H H') ⟨_, _, rfl, p2_zero.symm, .refl _⟩ ?_ ?_
  · rintro d σ H' hd ⟨y, _, rfl, rfl, s3⟩
    walk_at "r"
    exact ⟨_, _, rfl, by rw [Int.mul_comm]; exact (p2_succ (k := (d : Int)) (by omega)).symm, s3⟩
  · rintro σ H' ⟨y, _, rfl, rfl, s3⟩
    obtain ⟨h, hh⟩ : ∃ h : Nat, (t - 1).toNat = h := ⟨_, rfl⟩
    have ht' : t = (h : Int) + 1 := by omega
    subst ht'
    rw [hh]
    have hn1 : h + 1 ≤ n := by omega
    have W0 := p2_pos (h : Int)
    have WN := p2_nat h
    obtain ⟨k, hk⟩ : ∃ k, n - (h + 1) = k := ⟨_, rfl⟩
    have hk1 : n - h = k + 1 := by omega
    have PW : 2 ^ n = 2 ^ k * 2 ^ (h + 1) := by rw [← Nat.pow_add]; congr 1; omega
    have P2 : 2 ^ (h + 1) = 2 * 2 ^ h := by rw [Nat.pow_succ]; omega
    have hl2 : 2 ^ (h + 1) ≤ 2 ^ 13 := Nat.pow_le_pow_right (by decide) (by omega)
    have hl3 : 2 ^ k ≤ 2 ^ 13 := Nat.pow_le_pow_right (by decide) (by omega)
    have hkn : (n : Int) - ((h : Int) + 1) + 1 = ((k + 1 : Nat) : Int) := by omega
    have ep : p2 ((k + 1 : Nat) : Int) = 2 * p2 k := by
      have := p2_succ (k := (k : Int)) (by omega)
      rw [← this]; congr 1
    have P0 := p2_pos (k : Int)
    have JW : ∀ x : Nat, ((x * 2 ^ h : Nat) : Int) = (x : Int) * p2 h := fun x => by rw [WN]; push_cast; rfl
    have cut : ∀ (J : Nat) (x lo hi : Int), (brk (n - h))[J]? = some x → lo = ((J * 2 ^ h : Nat) : Int) → hi = (((J + 1) * 2 ^ h : Nat) : Int) → cutV ((brk n).map V.int) (some lo) (some hi) = (ext ((n - h : Nat) : Int) x h).map V.int := fun J x lo hi hx e1 e2 => by
      have hJ2 : J < 2 ^ (n - h) := by
        have := (List.getElem?_eq_some_iff.mp hx).1
        rwa [brk_len] at this
      have hj3 : (J + 1) * 2 ^ h ≤ 2 ^ n := by
        rw [show 2 ^ n = 2 ^ (n - h) * 2 ^ h by rw [← Nat.pow_add]; congr 1; omega]
        exact Nat.mul_le_mul_right _ (by omega)
      rw [cut_part (a := J * 2 ^ h) (b := (J + 1) * 2 ^ h) e1 e2 (Nat.mul_le_mul_right _ (by omega)) (by rw [List.length_map, brk_len]; exact hj3), show (J + 1) * 2 ^ h - J * 2 ^ h = 2 ^ h by rw [Nat.add_mul]; omega, ← List.map_drop, ← List.map_take, brk_cut (by omega) hx]
    have least : ∀ (x y : Int), 1 ≤ x → x ≤ p2 ((n - h : Nat) : Int) → y ∈ ext ((n - h : Nat) : Int) x h → (∀ z ∈ ext ((n - h : Nat) : Int) x h, y ≤ z) → y = x := fun x y h1 h2 hy hz => by
      have a1 := ext_least (m := ((n - h : Nat) : Int)) (by omega) h1 h2 y hy
      have a2 := hz x (ext_has _ _ _)
      omega
    walk_at "r"
    rw [List.length_map, brk_len]
    refine w_rng3 (2 ^ k) (by rw [show 2 * p2 (h : Int) = ((2 ^ (h + 1) : Nat) : Int) by rw [P2, WN]; push_cast; rfl, PW]; exact rgc_pow13 (Nat.pow_pos (by decide)) (Nat.pow_pos (by decide)) hl3 hl2) (fun d σ H4 => ∃ y1 y2 y3, σ = [some (.ref p), some (.int ((h : Int) + 1)), some (.int l), some (.int (p2 h)), y1, some (.int ((((brk k).take d).filter fun x => decide (2 * p2 k + 1 - x ≤ l)).length : Int)), y2, y3] ∧ Same H H4) ⟨_, _, _, rfl, s3⟩ ?_ ?_
    · rintro d σ H4 hd ⟨y1, y2, y3, rfl, s4⟩
      obtain ⟨x, hx⟩ : ∃ x, (brk k)[d]? = some x := ⟨_, List.getElem?_eq_getElem (by rw [brk_len]; exact hd)⟩
      have two := brk_two hx
      rw [← hk1] at two
      have xr := brk_in k x (List.mem_of_getElem? hx)
      have c1 := cut (2 * d) x (0 + (d : Int) * (2 * p2 h)) (0 + (d : Int) * (2 * p2 h) + p2 h) two.1 (by rw [JW]; push_cast; rw [Int.zero_add, ← Int.mul_assoc, Int.mul_comm (d : Int) 2]) (by rw [JW]; push_cast; rw [Int.zero_add, ← Int.mul_assoc, Int.mul_comm (d : Int) 2, Int.add_mul]; omega)
      have c2 := cut (2 * d + 1) (2 * p2 k + 1 - x) (0 + (d : Int) * (2 * p2 h) + p2 h) (0 + (d : Int) * (2 * p2 h) + 2 * p2 h) two.2 (by rw [JW]; push_cast; rw [Int.zero_add, ← Int.mul_assoc, Int.mul_comm (d : Int) 2, Int.add_mul]; omega) (by rw [JW]; push_cast; rw [Int.zero_add, ← Int.mul_assoc, Int.mul_comm (d : Int) 2, Int.add_mul, Int.add_mul]; omega)
      walk_at "r"
      refine w_sl (by walk_at "seq") fun p4 H5 e5 f5 h5 => ?_
      rw [c1] at h5
      walk_at "r"
      refine w_min (ext ((n - h : Nat) : Int) x h) (by walk_at "seq") (by rw [ext_len]; exact Nat.pow_pos (by decide)) fun m1 m1i m1l => ?_
      rw [least x m1 xr.1 (by rw [hk1, ep]; omega) m1i m1l]
      walk_at "r"
      refine w_sl (by walk_at "seq") fun p6 H6 e6 f6 h6 => ?_
      rw [c2] at h6
      walk_at "r"
      refine w_min (ext ((n - h : Nat) : Int) (2 * p2 k + 1 - x) h) (by walk_at "seq") (by rw [ext_len]; exact Nat.pow_pos (by decide)) fun m2 m2i m2l => ?_
      rw [least (2 * p2 k + 1 - x) m2 (by omega) (by rw [hk1, ep]; omega) m2i m2l]
      walk_at "r"
      refine w_max (ns := [x, 2 * p2 k + 1 - x]) (by walk_at "seq") (by simp) fun m3 m3i m3l => ?_
      have e3 : m3 = 2 * p2 k + 1 - x := by
        have q1 := m3l (2 * p2 k + 1 - x) (by simp)
        simp only [List.mem_cons, List.not_mem_nil, or_false] at m3i
        omega
      rw [e3]
      walk_at "r"
      refine w_intB ?_
      have eF : ((((brk k).take (d + 1)).filter fun x => decide (2 * p2 k + 1 - x ≤ l)).length : Int) = (((brk k).take d).filter fun x => decide (2 * p2 k + 1 - x ≤ l)).length + (if decide (2 * p2 k + 1 - x ≤ l) = true then 1 else 0) := by
        rw [List.take_add_one, hx, List.filter_append, List.length_append]
        by_cases c : 2 * p2 k + 1 - x ≤ l
        · rw [decide_eq_true c, show (Option.some x).toList = [x] from rfl, List.filter_cons_of_pos (by simpa using c)]
          rfl
        · rw [decide_eq_false c, show (Option.some x).toList = [x] from rfl, List.filter_cons_of_neg (by simpa using c)]
          rfl
      walk_at "r"
      rw [← eF]
      exact ⟨_, _, _, rfl, by walk_at "same"⟩
    · rintro σ H4 ⟨y1, y2, y3, rfl, s4⟩
      have bb := brk_both k hl.1
      rw [show (brk k).take (2 ^ k) = brk k by rw [← brk_len k, List.take_length], bb]
      walk_at "r"
      refine vq (q _ (by walk_at "same")) ?_
      unfold CM
      rw [hkn, ep]
      congr 1
      omega
theorem ok_law (T : TX K mg fa fd fc) : FnOk P w K mg base CX0 6 (fa 23) (fd 23) ["script"] (spLaw K) := by
  refine T.F_law.ok sc_law (fun vs H Q E h => ?_) (fun cdv A outer s H vs Q E hr h => ?_)
  · obtain ⟨a, ns, rfl, hS, hl, q⟩ := h
    rfl
  obtain ⟨a, ns, rfl, hS, hl, q⟩ := h
  refine ⟨_, (pss_cons (ps_for PassesOwn.never rfl (pi_range1 rfl T.n_range (pa_cons (pe_callB (SC.c_max2 rfl) (by rfl) T.n_max (by decide +kernel) (pa_cons pe_int (pa_cons (pe_callB (SC.c_min2 rfl) (by rfl) T.n_min (by decide +kernel) (pa_cons pe_int (pa_cons (pe_callB (r := SC.rLen K) SC.c_len (by rfl) T.n_len (by decide +kernel) (pa_cons (pv 0) pa_nil)) pa_nil))) pa_nil))) pa_nil)) (pg_name (i := 1) sc_law.nd rfl (by first | exact Or.inl rfl | exact Or.inr rfl))
    (pss_cons (ps_set (i := 2) sc_law.nd rfl (by first | exact Or.inl rfl | exact Or.inr rfl) (pe_call (ok_law_source T) (hr.mono (by decide)) rfl T.g_law_source T.F_law_source.kp (bi_law_source T) .nil pass0 (pa_cons (pe_call (ok_law_cell_at T) (hr.mono (by decide)) rfl T.g_law_cell_at T.F_law_cell_at.kp (bi_law_cell_at T) .nil pass0 (pa_cons (pv 0) (pa_cons (pv 1) pa_nil))) (pa_cons (pv 1) pa_nil))))
    (pss_cons (ps_set (i := 3) sc_law.nd rfl (by first | exact Or.inl rfl | exact Or.inr rfl) (pe_op op_add pe_int (pe_call (ok_law_draw T) (hr.mono (by decide)) rfl T.g_law_draw T.F_law_draw.kp (bi_law_draw T) .nil pass0 (pa_cons (pv 2) (pa_cons pe_int pa_nil)))))
    (pss_cons (ps_set (i := 4) sc_law.nd rfl (by first | exact Or.inl rfl | exact Or.inr rfl) (pe_call (ok_law_bracket T) (hr.mono (by decide)) rfl T.g_law_bracket T.F_law_bracket.kp (bi_law_bracket T) .nil pass0 (pa_cons (pv 3) pa_nil)))
    (pss_one (ps_for PassesOwn.never rfl (pi_range1 rfl T.n_range (pa_cons pe_int pa_nil)) (pg_name (i := 5) sc_law.nd rfl (by first | exact Or.inl rfl | exact Or.inr rfl))
    (pss_cons (ps_set (i := 6) sc_law.nd rfl (by first | exact Or.inl rfl | exact Or.inr rfl) (pe_ix (r := rIxL K) ix_list (pe_lst (pa_cons (pe_op op_add pe_int (pe_call (ok_law_draw T) (hr.mono (by decide)) rfl T.g_law_draw T.F_law_draw.kp (bi_law_draw T) .nil pass0 (pa_cons (pv 2) (pa_cons (pe_callB (r := SC.rLen K) SC.c_len (by rfl) T.n_len (by decide +kernel) (pa_cons (pv 4) pa_nil)) pa_nil)))) (pa_cons pe_int (pa_cons (pe_callB (r := SC.rLen K) SC.c_len (by rfl) T.n_len (by decide +kernel) (pa_cons (pv 4) pa_nil)) pa_nil)))) (pe_callB (SC.c_max2 rfl) (by rfl) T.n_max (by decide +kernel) (pa_cons pe_int (pa_cons (pe_op op_sub (pe_call (ok_law_draw T) (hr.mono (by decide)) rfl T.g_law_draw T.F_law_draw.kp (bi_law_draw T) .nil pass0 (pa_cons (pv 2) (pa_cons pe_int pa_nil))) pe_int) pa_nil))) (fun _ _ => rfl)))
    (pss_cons (ps_setLc (i := 7) (own := [("turn", 8)]) (by rfl) sc_law.nd rfl (by first | rfl | decide +kernel) (sw_true rfl rfl rfl (by decide +kernel)) (pi_range2 rfl T.n_range (pa_cons pe_int (pa_cons (pe_op op_add (pv 3) pe_int) pa_nil))) (blkOk_by (own := [("turn", 8)]) (N := nm_law) (sc := defScope s_law) (by decide +kernel)) (fun _ _ _ _ _ => (pg_name (i := 8) sc_law.nd rfl (by first | exact Or.inl rfl | exact Or.inr rfl))) (fun _ _ _ _ _ => pts_nil) (fun _ _ _ _ _ => (pe_call (ok_count_matches T) (hr.mono (by decide)) rfl T.g_count_matches T.F_count_matches.kp (bi_count_matches T) .nil pass0 (pa_cons (pv 3) (pa_cons (pv 6) (pa_cons (pv 8) pa_nil))))))
    (pss_cons (ps_if (pt_not (pt_val (pe_call (ok_law_same1 T) (hr.mono (by decide)) rfl T.g_law_same T.F_law_same.kp (bi_law_same T) .nil pass0 (pa_cons (pv 7) (pa_cons (pe_lc (own := [("turn", 8)]) (by rfl) sc_law.nd (pi_range2 rfl T.n_range (pa_cons pe_int (pa_cons (pe_op op_add (pv 3) pe_int) pa_nil))) (blkOk_by (own := [("turn", 8)]) (N := nm_law) (sc := defScope s_law) (by decide +kernel)) (fun _ _ _ _ _ => (pg_name (i := 8) sc_law.nd rfl (by first | exact Or.inl rfl | exact Or.inr rfl))) (fun _ _ _ _ _ => pts_nil) (fun _ _ _ _ _ => (pe_call (ok_law_matches T) (hr.mono (by decide)) rfl T.g_law_matches T.F_law_matches.kp (bi_law_matches T) .nil pass0 (pa_cons (pv 4) (pa_cons (pv 8) (pa_cons (pv 6) pa_nil)))))) pa_nil)))))
    (pss_one (ps_ret pe_bl)) pss_nil)
    (pss_cons (ps_if (pt_cmpR op_ne (pe_callB (r := rSum K) (cr_sum rfl) (by rfl) T.n_sum (by decide +kernel) (pa_cons (pv 7) pa_nil)) (pe_op op_sub (pv 6) pe_int) (nomark _))
    (pss_one (ps_ret pe_bl)) pss_nil)
    (pss_cons (ps_if (pt_cmpR op_ne (SC.pe_callN0 (ok_count_matches T) (hr.mono (by decide)) rfl T.g_count_matches T.F_count_matches.kp (kb_count_matches_0_stage_players_rounds T) pass0 (pk_cons pe_int (pk_cons (pv 6) (pk_cons (pv 3) pk_nil)))) (pe_ix (r := rIxL K) ix_list (pv 7) pe_int (fun _ _ => rfl)) (nomark _))
    (pss_one (ps_ret pe_bl)) pss_nil)
    (pss_one (ps_for PassesOwn.never rfl (pi_range1 rfl T.n_range (pa_cons (pe_callB (SC.c_min2 rfl) (by rfl) T.n_min (by decide +kernel) (pa_cons (pv 6) (pa_cons pe_int pa_nil))) pa_nil)) (pg_name (i := 9) sc_law.nd rfl (by first | exact Or.inl rfl | exact Or.inr rfl))
    (pss_cons (ps_set (i := 10) sc_law.nd rfl (by first | exact Or.inl rfl | exact Or.inr rfl) (pe_op op_add pe_int (pe_call (ok_law_draw T) (hr.mono (by decide)) rfl T.g_law_draw T.F_law_draw.kp (bi_law_draw T) .nil pass0 (pa_cons (pv 2) (pa_cons (pv 6) pa_nil)))))
    (pss_cons (ps_set (i := 11) sc_law.nd rfl (by first | exact Or.inl rfl | exact Or.inr rfl) (pe_bm (r := rIndex K) PySem.F.plainAttrs_list PySem.F.slot_list_index PySem.F.type_list_index mt_index (pv 4) (pa_cons (pv 10) pa_nil)))
    (pss_cons (ps_set (i := 12) sc_law.nd rfl (by first | exact Or.inl rfl | exact Or.inr rfl) (pe_lc (own := [("turn", 8)]) (by rfl) sc_law.nd (pi_range2 rfl T.n_range (pa_cons pe_int (pa_cons (pe_op op_add (pv 3) pe_int) pa_nil))) (blkOk_by (own := [("turn", 8)]) (N := nm_law) (sc := defScope s_law) (by decide +kernel)) (fun _ _ _ _ _ => (pg_name (i := 8) sc_law.nd rfl (by first | exact Or.inl rfl | exact Or.inr rfl))) (fun _ _ _ _ _ => pts_nil) (fun _ _ _ _ _ => (pe_callB (r := SC.rLen K) SC.c_len (by rfl) T.n_len (by decide +kernel) (pa_cons (pe_call (ok_law_half T) (hr.mono (by decide)) rfl T.g_law_half T.F_law_half.kp (bi_law_half T) .nil pass0 (pa_cons (pv 4) (pa_cons (pv 11) (pa_cons (pv 8) (pa_cons (pv 6) pa_nil))))) pa_nil)))))
    (pss_cons (ps_setLc (i := 13) (own := [("turn", 8)]) (by rfl) sc_law.nd rfl (by first | rfl | decide +kernel) (sw_true rfl rfl rfl (by decide +kernel)) (pi_range2 rfl T.n_range (pa_cons pe_int (pa_cons (pe_op op_add (pv 3) pe_int) pa_nil))) (blkOk_by (own := [("turn", 8)]) (N := nm_law) (sc := defScope s_law) (by decide +kernel)) (fun _ _ _ _ _ => (pg_name (i := 8) sc_law.nd rfl (by first | exact Or.inl rfl | exact Or.inr rfl))) (fun _ _ _ _ _ => pts_nil) (fun _ _ _ _ _ => (pe_call (ok_count_opponents T) (hr.mono (by decide)) rfl T.g_count_opponents T.F_count_opponents.kp (bi_count_opponents T) .nil pass0 (pa_cons (pv 3) (pa_cons (pv 6) (pa_cons (pv 10) (pa_cons (pv 8) pa_nil)))))))
    (pss_cons (ps_setLc (i := 14) (own := [("turn", 8)]) (by rfl) sc_law.nd rfl (by first | rfl | decide +kernel) (sw_true rfl rfl rfl (by decide +kernel)) (pi_range2 rfl T.n_range (pa_cons pe_int (pa_cons (pe_op op_add (pv 3) pe_int) pa_nil))) (blkOk_by (own := [("turn", 8)]) (N := nm_law) (sc := defScope s_law) (by decide +kernel)) (fun _ _ _ _ _ => (pg_name (i := 8) sc_law.nd rfl (by first | exact Or.inl rfl | exact Or.inr rfl))) (fun _ _ _ _ _ => pts_one (pt_cmpR op_gt (pe_ix (r := rIxL K) ix_list (pv 12) (pe_op op_sub (pv 8) pe_int) (fun _ _ => rfl)) pe_int (nomark _))) (fun _ _ _ _ _ => (pv 8)))
    (pss_cons (ps_if (pt_not (pt_val (pe_call (ok_law_same1 T) (hr.mono (by decide)) rfl T.g_law_same T.F_law_same.kp (bi_law_same T) .nil pass0 (pa_cons (pv 13) (pa_cons (pv 12) pa_nil)))))
    (pss_one (ps_ret pe_bl)) pss_nil)
    (pss_cons (ps_set (i := 15) sc_law.nd rfl (by first | exact Or.inl rfl | exact Or.inr rfl) (pe_ifExp (pt_cmpR (r := rNeD K) (op_neD hr.units) (pv 14) (pe_lst pa_nil) (nomark _)) (pe_ix (r := rIxL K) ix_list (pv 14) pe_int (fun _ _ => rfl)) pe_non))
    (pss_cons (ps_set (i := 16) sc_law.nd rfl (by first | exact Or.inl rfl | exact Or.inr rfl) (SC.pe_callN0 (ok_first_match T) (hr.mono (by decide)) rfl T.g_first_match T.F_first_match.kp (kb_first_match_0_seed_players_rounds T) pass0 (pk_cons (pv 10) (pk_cons (pv 6) (pk_cons (pv 3) pk_nil)))))
    (pss_cons (ps_if (pt_not (pt_val (pe_call (ok_law_same1 T) (hr.mono (by decide)) rfl T.g_law_same T.F_law_same.kp (bi_law_same T) .nil pass0 (pa_cons (pe_lst (pa_cons (pe_call (ok_first_match T) (hr.mono (by decide)) rfl T.g_first_match T.F_first_match.kp (bi_first_match T) .nil pass0 (pa_cons (pv 3) (pa_cons (pv 6) (pa_cons (pv 10) pa_nil)))) (pa_cons (pv 16) pa_nil))) (pa_cons (pe_lst (pa_cons (pv 15) (pa_cons (pv 15) pa_nil))) pa_nil)))))
    (pss_one (ps_ret pe_bl)) pss_nil)
    (pss_cons (ps_set (i := 16) sc_law.nd rfl (by first | exact Or.inl rfl | exact Or.inr rfl) (SC.pe_callN0 (ok_count_opponents T) (hr.mono (by decide)) rfl T.g_count_opponents T.F_count_opponents.kp (kb_count_opponents_0_stage_seed_players_rounds T) pass0 (pk_cons (pv 3) (pk_cons (pv 10) (pk_cons (pv 6) (pk_cons (pv 3) pk_nil))))))
    (pss_one (ps_if (pt_cmpR op_ne (pv 16) (pe_ix (r := rIxL K) ix_list (pv 12) (pe_op op_sub (pv 3) pe_int) (fun _ _ => rfl)) (nomark _))
    (pss_one (ps_ret pe_bl)) pss_nil)))))))))))))))))))))))))
    (pss_one (ps_ret pe_bl))), ?_⟩
  have b0 : LIM = 1000000000000 := rfl
  walk_at "r"
  rw [List.length_map]
  refine w_rng1 (by omega) (by omega) (fun i σ H' => ∃ y1 y2 y3 y4 y5 y6 y7 y8 y9 y10 y11 y12 y13 y14 y15 y16, σ = [some (.ref a), y1, y2, y3, y4, y5, y6, y7, y8, y9, y10, y11, y12, y13, y14, y15, y16] ∧ Same H H') ⟨_, _, _, _, _, _, _, _, _, _, _, _, _, _, _, _, rfl, .refl _⟩ ?_ ?_
  · rintro i σ H1 hi ⟨y1, y2, y3, y4, y5, y6, y7, y8, y9, y10, y11, y12, y13, y14, y15, y16, rfl, e1⟩
    walk_at "r"
    refine w_cell (e1.seq hS) (by omega) fun c H2 e2 => ?_
    walk_at "r"
    refine w_sourceB (by omega) (by omega) fun p H3 hp e3 s3 => ?_
    have hp0 := (e1.trans e2).free hp
    walk_at "s"
    refine w_draw s3 (by decide) (small_lim (by decide)) (by omega) fun d1 H4 d10 d11 g4 s4 => ?_
    walk_at "s"
    refine w_br (by omega) fun pl H5 f5 e5 h5 => ?_
    obtain ⟨n, hn⟩ : ∃ n : Nat, 1 + d1 = (n : Int) := ⟨(1 + d1).toNat, by omega⟩
    rw [hn] at h5 ⊢
    rw [Int.toNat_natCast] at h5
    have n1 : 1 ≤ n ∧ n ≤ 6 := by omega
    have nl : pl ≠ p := Src.ne s4 f5
    have P0 := p2_pos (n : Int)
    have PN := p2_nat n
    have PL : 2 ^ n ≤ 2 ^ 6 := Nat.pow_le_pow_right (by decide) (by omega)
    have bl := brk_len n
    have k5 : Same H H5 := same_kp ((e1.trans e2).trans e3) hp0 (g4.trans (.of_same e5))
    have s5 := s4.same e5
    walk_at "r"
    refine w_rng1 (by decide) (by decide) (fun j σ H' => ∃ y5 y6 y7 y8 y9 y10 y11 y12 y13 y14 y15 y16, σ = [some (.ref a), some (.int i), some (.ref p), some (.int n), some (.ref pl), y5, y6, y7, y8, y9, y10, y11, y12, y13, y14, y15, y16] ∧ Same H H' ∧ Src p (10 + 20 * (j : Int)) H' ∧ H' pl = some (.lst ((brk n).map V.int))) ⟨_, _, _, _, _, _, _, _, _, _, _, _, rfl, k5, s5.mono (by omega), h5⟩ ?_ ?_
    · rintro j σ H6 hj ⟨y5, y6, y7, y8, y9, y10, y11, y12, y13, y14, y15, y16, rfl, e6, s6, h6⟩
      walk_at "r"
      rw [List.length_map, bl]
      walk_at "s"
      refine w_draw s6 (by omega) (small_lim (by omega)) (by omega) fun d2 H7 d20 d21 g7 s7 => ?_
      walk_at "r"
      rename_i p8 H8 e8 f8 h8 d3 H9 d30 d31 g9 s9
      obtain ⟨m, em, m0, m1⟩ := pickI (xs := [1 + d2, 1, (((brk n).map V.int).length : Int)]) (r := max 0 (d3 - 3)) (fun r => 1 ≤ r ∧ r ≤ SC.p2 n) (by omega) (by simp; omega) (by
        intro r hr
        rw [List.length_map, bl] at hr
        simp only [List.mem_cons, List.not_mem_nil, or_false] at hr
        omega)
      refine w_ixL (by walk_at "seq") em ?_
      have en : ((n : Int) + 1 - 1).toNat = n := by omega
      have ml : m ≤ 10000 := by omega
      have n100 : (1 : Int) ≤ n ∧ (n : Int) ≤ 100 := by omega
      walk_at "r"
      refine w_lcr2 (fun i => V.int (CM n m (1 + (i : Int)))) (by omega) (by omega) (by omega) (by omega) (fun _ => rfl) (fun i H' hi s1 R hR => ?_) fun pM H10 e10 f10 h10 => ?_
      · walk_at "r"
        exact hR _ (by walk_at "same")
      rw [en] at h10
      walk_at "r"
      refine w_lcr2 (fun i => V.int (CM n m (1 + (i : Int)))) (by omega) (by omega) (by omega) (by omega) (fun _ => rfl) (fun i H' hi s1 R hR => ?_) fun pM2 H11 e11 f11 h11 => ?_
      · walk_at "r"
        refine w_matches (by walk_at "seq") (by omega) (by omega) (by omega) fun H12 e12 => ?_
        exact hR _ (by walk_at "same")
      rw [en] at h11
      walk_at "r"
      refine w_same1 (by walk_at "at") h11 (by simp; omega) (fun x hx => by
        obtain ⟨z, _, rfl⟩ := List.mem_map.mp hx
        exact .inl ⟨_, rfl⟩) fun H12 e12 => ?_
      walk_at "r"
      have hM : SqL K H10 pM (((List.range n).map fun i : Nat => CM n m (1 + (i : Int))).map V.int) := by
        rw [List.map_map]
        exact .inl (.inl h10)
      have CS : ((List.range n).map fun i : Nat => CM n m (1 + (i : Int))).sum = m - min m (p2 ((n : Int) - n)) := both_sum m0 m1 n (by omega)
      rw [show (n : Int) - n = 0 by omega, p2_zero] at CS
      have gM : ∀ t : Int, 1 ≤ t → t ≤ n → atI (((List.range n).map fun i : Nat => CM n m (1 + (i : Int))).map V.int) (t - 1) = some (.int (CM n m t)) := fun t t0 t1 => by
        obtain ⟨u, hu⟩ := Int.eq_ofNat_of_zero_le (show 0 ≤ t - 1 by omega)
        rw [hu]
        refine atI_nat ?_
        rw [List.map_map, List.getElem?_map, List.getElem?_range (by omega)]
        show some (V.int (CM n m (1 + (u : Int)))) = _
        rw [show 1 + (u : Int) = t by omega]
      refine w_sum ((List.range n).map fun i : Nat => CM n m (1 + (i : Int))) (by walk_at "seq") ?_
      rw [CS]
      walk_at "r"
      refine w_kw (ws := [.int n, .int m, .int 1]) rfl (w_sp3 ⟨n100, ⟨m0, m1⟩, by omega, by omega⟩ fun H13 e13 => ?_)
      walk_at "r"
      refine w_ixL (xs := ((List.range n).map fun i : Nat => CM n m (1 + (i : Int))).map V.int) (by walk_at "seq") (gM 1 (by omega) (by omega)) ?_
      walk_at "s"
      refine w_no (by unfold CM; simp) ?_
      walk_at "r"
      refine w_rng1 (by omega) (by omega) (fun i' σ H' => ∃ y8 y9 y10 y11 y12 y13 y14 y15 y16, σ = [some (.ref a), some (.int i), some (.ref p), some (.int n), some (.ref pl), some (.int j), some (.int m), some (.ref pM), y8, y9, y10, y11, y12, y13, y14, y15, y16] ∧ Same H H' ∧ Src p (20 + 20 * (j : Int) + i') H' ∧ H' pl = some (.lst ((brk n).map V.int))) ⟨_, _, _, _, _, _, _, _, _, rfl, same_kp e6 hp0 (by walk_at "kp"), Src.mono (by walk_at "src") (by omega), by walk_at "at"⟩ ?_ ?_
      · rintro i' σ H14 hi' ⟨y8, y9, y10, y11, y12, y13, y14, y15, y16, rfl, e14, s14, h14⟩
        walk_at "s"
        refine w_draw s14 (by omega) (wide_lim (by omega)) (by omega) fun d5 H15 d50 d51 g15 s15 => ?_
        obtain ⟨s, hs⟩ : ∃ s, 1 + d5 = s := ⟨_, rfl⟩
        walk_at "s"
        rw [hs]
        have sr : 1 ≤ s ∧ s ≤ m := by omega
        obtain ⟨ix, hix⟩ : ∃ ix : Nat, (brk n)[ix]? = some s := List.getElem?_of_mem (brk_all n s (by omega) (by omega))
        have h15 : H15 pl = some (.lst ((brk n).map V.int)) := by walk_at "at"
        walk_at "r"
        refine w_index (brk n) (by walk_at "seq") hix (brk_nd n) ?_
        walk_at "r"
        refine w_lcr2 (fun i => V.int (CO n m s (1 + (i : Int)))) (by omega) (by omega) (by omega) (by omega) (fun _ => rfl) (fun i H' hi s1 R hR => ?_) fun pC H16 e16 f16 h16 => ?_
        · walk_at "r"
          refine w_half (by walk_at "seq") (by omega) (by omega) hix (by omega) fun q5 ys H17 e17 f17 h17 ly => ?_
          walk_at "r"
          rw [ly]
          exact hR _ (by walk_at "same")
        rw [en] at h16
        walk_at "r"
        refine w_lcr2 (fun i => V.int (CO n m s (1 + (i : Int)))) (by omega) (by omega) (by omega) (by omega) (fun _ => rfl) (fun i H' hi s1 R hR => ?_) fun pT H17 e17 f17 h17 => ?_
        · walk_at "r"
          exact hR _ (by walk_at "same")
        rw [en] at h17
        have gC : ∀ t : Int, 1 ≤ t → t ≤ n → atI ((List.range n).map fun i : Nat => V.int (CO n m s (1 + (i : Int)))) (t - 1) = some (.int (CO n m s t)) := fun t t0 t1 => by
          obtain ⟨u, hu⟩ := Int.eq_ofNat_of_zero_le (show 0 ≤ t - 1 by omega)
          rw [hu]
          refine atI_nat ?_
          rw [List.getElem?_map, List.getElem?_range (by omega)]
          show some (V.int (CO n m s (1 + (u : Int)))) = _
          rw [show 1 + (u : Int) = t by omega]
        walk_at "r"
        refine w_lcr2F (fun i => decide (0 < CO n m s (1 + (i : Int)))) (fun i => V.int (1 + (i : Int))) (by omega) (by omega) (by omega) (by omega) (fun _ => rfl) (fun i H' hi s1 R hR => ?_) (fun i H' hi hp s1 R hR => ?_) fun pF H18 e18 f18 h18 => ?_
        · walk_at "r"
          refine w_ixL (by walk_at "seq") (gC _ (by omega) (by omega)) ?_
          walk_at "r"
          exact hR _ (by walk_at "same")
        · walk_at "r"
          exact hR _ (by walk_at "same")
        rw [en] at h18
        have hF : SqL K H18 pF ((firsts n s m).map V.int) := by
          unfold firsts
          rw [List.map_map, Int.toNat_natCast]
          exact .inl (.inl h18)
        have key := firsts_key (k := (n : Int)) (s := s) (m := m) (by omega)
        generalize firsts n s m = L at hF key
        walk_at "r"
        refine w_same1 (by walk_at "at") (by walk_at "at") (by simp; omega) (fun x hx => by
          obtain ⟨z, _, rfl⟩ := List.mem_map.mp hx
          exact .inl ⟨_, rfl⟩) fun H19 e19 => ?_
        walk_at "r"
        refine w_ne0 L (by walk_at "seq") (by walk_at "at") ?_
        walk_at "r"
        obtain ⟨due, hdue⟩ : ∃ due : V, due = firstV L := ⟨_, rfl⟩
        have kind : (∃ i, due = .int i) ∨ (∃ b, due = .bl b) ∨ due = .non := by
          rw [hdue]
          cases L with
          | nil => exact .inr (.inr rfl)
          | cons x r => exact .inl ⟨x, rfl⟩
        refine w_ifd (fun c => ?c1) fun c => ?c2
        case' c1 =>
          obtain ⟨x, r, rfl⟩ : ∃ x r, L = x :: r := by
            cases L with
            | nil => exact absurd rfl c
            | cons x r => exact ⟨x, r, rfl⟩
          walk_at "r"
          refine w_ixL (xs := (x :: r).map V.int) (by walk_at "seq") (atI_nat (j := 0) rfl) ?_
          rw [show V.int x = due from hdue.symm]
        case' c2 =>
          obtain rfl : L = [] := by
            cases L with
            | nil => rfl
            | cons x r => exact absurd (List.cons_ne_nil x r) c
          walk_at "s"
          rw [show V.non = due from hdue.symm]
        all_goals
          walk_at "r"
          refine w_kw (ws := [.int n, .int m, .int s]) rfl (w_first ⟨n100, ⟨m0, m1⟩, sr⟩ fun v1 H20 hv1 e20 => ?_)
          rw [key v1 hv1, ← hdue]
          walk_at "r"
          refine w_first ⟨n100, ⟨m0, m1⟩, sr⟩ fun v2 H21 hv2 e21 => ?_
          rw [key v2 hv2, ← hdue]
          walk_at "r"
          refine w_same1 (xs := [due, due]) (by walk_at "at") (by walk_at "at") (by simp) (fun x hx => by
            simp only [List.mem_cons, List.not_mem_nil, or_false, or_self] at hx
            rw [hx]
            exact kind) fun H22 e22 => ?_
          walk_at "r"
          refine w_kw (ws := [.int n, .int m, .int s, .int n]) rfl (w_sp4 ⟨n100, ⟨m0, m1⟩, sr, by omega, by omega⟩ fun H23 e23 => ?_)
          walk_at "r"
          refine w_ixL (by walk_at "seq") (gC n (by omega) (by omega)) ?_
          walk_at "s"
          refine w_no (by unfold CO; simp) ?_
          walk_at "r"
          exact ⟨_, _, _, _, _, _, _, _, _, rfl, same_kp e14 hp0 (by walk_at "kp"), Src.mono (by walk_at "src") (by omega), by walk_at "at"⟩
      · rintro σ H14 ⟨y8, y9, y10, y11, y12, y13, y14, y15, y16, rfl, e14, s14, h14⟩
        exact ⟨_, _, _, _, _, _, _, _, _, _, _, _, rfl, e14, s14.mono (by omega), h14⟩
    · rintro σ H6 ⟨y5, y6, y7, y8, y9, y10, y11, y12, y13, y14, y15, y16, rfl, e6, s6, h6⟩
      exact ⟨_, _, _, _, _, _, _, _, _, _, _, _, _, _, _, _, rfl, e6⟩
  · rintro σ H1 ⟨y1, y2, y3, y4, y5, y6, y7, y8, y9, y10, y11, y12, y13, y14, y15, y16, rfl, e1⟩
    walk_at "r"
    exact q _
end
theorem all_mk {l : PySem.W.OpenLaw} {w : World} {K : PySem.W.Frag} {h : Heap} {mg : Str → Option Value} {fl : Addr} (X : K.In h) (G : h.Ns mainGlobals mg) (hfl : mg "law" = some (.ref fl))
    {oc0 kV0 dc0 pm0 cd0 ct0 : Value} {od0 an0 : Option Addr} {sl0 : Array (Option Value)} {f0 : Addr}
    {oc1 kV1 dc1 pm1 cd1 ct1 : Value} {od1 an1 : Option Addr} {sl1 : Array (Option Value)} {f1 : Addr}
    {oc2 kV2 dc2 pm2 cd2 ct2 : Value} {od2 an2 : Option Addr} {sl2 : Array (Option Value)} {f2 : Addr}
    {oc3 kV3 dc3 pm3 cd3 ct3 : Value} {od3 an3 : Option Addr} {sl3 : Array (Option Value)} {f3 : Addr}
    {oc4 kV4 dc4 pm4 cd4 ct4 : Value} {od4 an4 : Option Addr} {sl4 : Array (Option Value)} {f4 : Addr}
    {oc5 kV5 dc5 pm5 cd5 ct5 : Value} {od5 an5 : Option Addr} {sl5 : Array (Option Value)} {f5 : Addr}
    {oc6 kV6 dc6 pm6 cd6 ct6 : Value} {od6 an6 : Option Addr} {sl6 : Array (Option Value)} {f6 : Addr}
    {oc7 kV7 dc7 pm7 cd7 ct7 : Value} {od7 an7 : Option Addr} {sl7 : Array (Option Value)} {f7 : Addr}
    {oc8 kV8 dc8 pm8 cd8 ct8 : Value} {od8 an8 : Option Addr} {sl8 : Array (Option Value)} {f8 : Addr}
    {oc9 kV9 dc9 pm9 cd9 ct9 : Value} {od9 an9 : Option Addr} {sl9 : Array (Option Value)} {f9 : Addr}
    {oc10 kV10 dc10 pm10 cd10 ct10 : Value} {od10 an10 : Option Addr} {sl10 : Array (Option Value)} {f10 : Addr}
    {oc11 kV11 dc11 pm11 cd11 ct11 : Value} {od11 an11 : Option Addr} {sl11 : Array (Option Value)} {f11 : Addr}
    {oc12 kV12 dc12 pm12 cd12 ct12 : Value} {od12 an12 : Option Addr} {sl12 : Array (Option Value)} {f12 : Addr}
    {oc13 kV13 dc13 pm13 cd13 ct13 : Value} {od13 an13 : Option Addr} {sl13 : Array (Option Value)} {f13 : Addr}
    {oc14 kV14 dc14 pm14 cd14 ct14 : Value} {od14 an14 : Option Addr} {sl14 : Array (Option Value)} {f14 : Addr}
    {oc15 kV15 dc15 pm15 cd15 ct15 : Value} {od15 an15 : Option Addr} {sl15 : Array (Option Value)} {f15 : Addr}
    {oc16 kV16 dc16 pm16 cd16 ct16 : Value} {od16 an16 : Option Addr} {sl16 : Array (Option Value)} {f16 : Addr}
    {oc17 kV17 dc17 pm17 cd17 ct17 : Value} {od17 an17 : Option Addr} {sl17 : Array (Option Value)} {f17 : Addr}
    {oc18 kV18 dc18 pm18 cd18 ct18 : Value} {od18 an18 : Option Addr} {sl18 : Array (Option Value)} {f18 : Addr}
    {oc19 kV19 dc19 pm19 cd19 ct19 : Value} {od19 an19 : Option Addr} {sl19 : Array (Option Value)} {f19 : Addr}
    {oc20 kV20 dc20 pm20 cd20 ct20 : Value} {od20 an20 : Option Addr} {sl20 : Array (Option Value)} {f20 : Addr}
    {oc21 kV21 dc21 pm21 cd21 ct21 : Value} {od21 an21 : Option Addr} {sl21 : Array (Option Value)} {f21 : Addr}
    {oc22 kV22 dc22 pm22 cd22 ct22 : Value} {od22 an22 : Option Addr} {sl22 : Array (Option Value)} {f22 : Addr}
    {oc23 kV23 dc23 pm23 cd23 ct23 : Value} {od23 an23 : Option Addr} {sl23 : Array (Option Value)} {f23 : Addr}
    {tc0 : Tok}
    (a0 : PySem.W.nsIn K mainGlobals "is_integer" = some (some (.ref f0))) (l0 : K.lookup f0 = some ⟨oc0, od0, .func (PySem.W.fnOf "is_integer" "is_integer" (defArgs s_is_integer) (defBody s_is_integer) (defScope s_is_integer) .none kV0 dc0 pm0 an0 cd0 ct0), sl0⟩) (c0 : PySem.W.codeIn K cd0 "is_integer" = true) (k0 : PySem.W.keepIn K (.ref f0) = true)
    (a1 : PySem.W.nsIn K mainGlobals "is_integer_between" = some (some (.ref f1))) (l1 : K.lookup f1 = some ⟨oc1, od1, .func (PySem.W.fnOf "is_integer_between" "is_integer_between" (defArgs s_is_integer_between) (defBody s_is_integer_between) (defScope s_is_integer_between) .none kV1 dc1 pm1 an1 cd1 ct1), sl1⟩) (c1 : PySem.W.codeIn K cd1 "is_integer_between" = true) (k1 : PySem.W.keepIn K (.ref f1) = true)
    (a2 : PySem.W.nsIn K mainGlobals "check_rounds" = some (some (.ref f2))) (l2 : K.lookup f2 = some ⟨oc2, od2, .func (PySem.W.fnOf "check_rounds" "check_rounds" (defArgs s_check_rounds) (defBody s_check_rounds) (defScope s_check_rounds) .none kV2 dc2 pm2 an2 cd2 ct2), sl2⟩) (c2 : PySem.W.codeIn K cd2 "check_rounds" = true) (k2 : PySem.W.keepIn K (.ref f2) = true)
    (a3 : PySem.W.nsIn K mainGlobals "check_player" = some (some (.ref f3))) (l3 : K.lookup f3 = some ⟨oc3, od3, .func (PySem.W.fnOf "check_player" "check_player" (defArgs s_check_player) (defBody s_check_player) (defScope s_check_player) .none kV3 dc3 pm3 an3 cd3 ct3), sl3⟩) (c3 : PySem.W.codeIn K cd3 "check_player" = true) (k3 : PySem.W.keepIn K (.ref f3) = true)
    (a4 : PySem.W.nsIn K mainGlobals "check_players" = some (some (.ref f4))) (l4 : K.lookup f4 = some ⟨oc4, od4, .func (PySem.W.fnOf "check_players" "check_players" (defArgs s_check_players) (defBody s_check_players) (defScope s_check_players) .none kV4 dc4 pm4 an4 cd4 ct4), sl4⟩) (c4 : PySem.W.codeIn K cd4 "check_players" = true) (k4 : PySem.W.keepIn K (.ref f4) = true)
    (a5 : PySem.W.nsIn K mainGlobals "check_stage" = some (some (.ref f5))) (l5 : K.lookup f5 = some ⟨oc5, od5, .func (PySem.W.fnOf "check_stage" "check_stage" (defArgs s_check_stage) (defBody s_check_stage) (defScope s_check_stage) .none kV5 dc5 pm5 an5 cd5 ct5), sl5⟩) (c5 : PySem.W.codeIn K cd5 "check_stage" = true) (k5 : PySem.W.keepIn K (.ref f5) = true)
    (a6 : PySem.W.nsIn K mainGlobals "group_of" = some (some (.ref f6))) (l6 : K.lookup f6 = some ⟨oc6, od6, .func (PySem.W.fnOf "group_of" "group_of" (defArgs s_group_of) (defBody s_group_of) (defScope s_group_of) .none kV6 dc6 pm6 an6 cd6 ct6), sl6⟩) (c6 : PySem.W.codeIn K cd6 "group_of" = true) (k6 : PySem.W.keepIn K (.ref f6) = true)
    (a7 : PySem.W.nsIn K mainGlobals "count_dealt" = some (some (.ref f7))) (l7 : K.lookup f7 = some ⟨oc7, od7, .func (PySem.W.fnOf "count_dealt" "count_dealt" (defArgs s_count_dealt) (defBody s_count_dealt) (defScope s_count_dealt) .none kV7 dc7 pm7 an7 cd7 ct7), sl7⟩) (c7 : PySem.W.codeIn K cd7 "count_dealt" = true) (k7 : PySem.W.keepIn K (.ref f7) = true)
    (a8 : PySem.W.nsIn K mainGlobals "_turned" = some (some (.ref f8))) (l8 : K.lookup f8 = some ⟨oc8, od8, .func (PySem.W.fnOf "_turned" "_turned" (defArgs s_turned) (defBody s_turned) (defScope s_turned) .none kV8 dc8 pm8 an8 cd8 ct8), sl8⟩) (c8 : PySem.W.codeIn K cd8 "_turned" = true) (k8 : PySem.W.keepIn K (.ref f8) = true)
    (a9 : PySem.W.nsIn K mainGlobals "count_halves" = some (some (.ref f9))) (l9 : K.lookup f9 = some ⟨oc9, od9, .func (PySem.W.fnOf "count_halves" "count_halves" (defArgs s_count_halves) (defBody s_count_halves) (defScope s_count_halves) .none kV9 dc9 pm9 an9 cd9 ct9), sl9⟩) (c9 : PySem.W.codeIn K cd9 "count_halves" = true) (k9 : PySem.W.keepIn K (.ref f9) = true)
    (a10 : PySem.W.nsIn K mainGlobals "own_half" = some (some (.ref f10))) (l10 : K.lookup f10 = some ⟨oc10, od10, .func (PySem.W.fnOf "own_half" "own_half" (defArgs s_own_half) (defBody s_own_half) (defScope s_own_half) .none kV10 dc10 pm10 an10 cd10 ct10), sl10⟩) (c10 : PySem.W.codeIn K cd10 "own_half" = true) (k10 : PySem.W.keepIn K (.ref f10) = true)
    (a11 : PySem.W.nsIn K mainGlobals "other_half" = some (some (.ref f11))) (l11 : K.lookup f11 = some ⟨oc11, od11, .func (PySem.W.fnOf "other_half" "other_half" (defArgs s_other_half) (defBody s_other_half) (defScope s_other_half) .none kV11 dc11 pm11 an11 cd11 ct11), sl11⟩) (c11 : PySem.W.codeIn K cd11 "other_half" = true) (k11 : PySem.W.keepIn K (.ref f11) = true)
    (a12 : PySem.W.nsIn K mainGlobals "_beside" = some (some (.ref f12))) (l12 : K.lookup f12 = some ⟨oc12, od12, .func (PySem.W.fnOf "_beside" "_beside" (defArgs s_beside) (defBody s_beside) (defScope s_beside) .none kV12 dc12 pm12 an12 cd12 ct12), sl12⟩) (c12 : PySem.W.codeIn K cd12 "_beside" = true) (k12 : PySem.W.keepIn K (.ref f12) = true)
    (a13 : PySem.W.nsIn K mainGlobals "count_matches" = some (some (.ref f13))) (l13 : K.lookup f13 = some ⟨oc13, od13, .func (PySem.W.fnOf "count_matches" "count_matches" (defArgs s_count_matches) (defBody s_count_matches) (defScope s_count_matches) .none kV13 dc13 pm13 an13 cd13 ct13), sl13⟩) (c13 : PySem.W.codeIn K cd13 "count_matches" = true) (k13 : PySem.W.keepIn K (.ref f13) = true)
    (a14 : PySem.W.nsIn K mainGlobals "first_match" = some (some (.ref f14))) (l14 : K.lookup f14 = some ⟨oc14, od14, .func (PySem.W.fnOf "first_match" "first_match" (defArgs s_first_match) (defBody s_first_match) (defScope s_first_match) .none kV14 dc14 pm14 an14 cd14 ct14), sl14⟩) (c14 : PySem.W.codeIn K cd14 "first_match" = true) (k14 : PySem.W.keepIn K (.ref f14) = true)
    (a15 : PySem.W.nsIn K mainGlobals "count_opponents" = some (some (.ref f15))) (l15 : K.lookup f15 = some ⟨oc15, od15, .func (PySem.W.fnOf "count_opponents" "count_opponents" (defArgs s_count_opponents) (defBody s_count_opponents) (defScope s_count_opponents) .none kV15 dc15 pm15 an15 cd15 ct15), sl15⟩) (c15 : PySem.W.codeIn K cd15 "count_opponents" = true) (k15 : PySem.W.keepIn K (.ref f15) = true)
    (a16 : PySem.W.nsIn K mainGlobals "_law_cell_at" = some (some (.ref f16))) (l16 : K.lookup f16 = some ⟨oc16, od16, .func (PySem.W.fnOf "_law_cell_at" "_law_cell_at" (defArgs s_law_cell_at) (defBody s_law_cell_at) (defScope s_law_cell_at) .none kV16 dc16 pm16 an16 cd16 ct16), sl16⟩) (c16 : PySem.W.codeIn K cd16 "_law_cell_at" = true) (k16 : PySem.W.keepIn K (.ref f16) = true)
    (a17 : PySem.W.nsIn K mainGlobals "_law_source" = some (some (.ref f17))) (l17 : K.lookup f17 = some ⟨oc17, od17, .func (PySem.W.fnOf "_law_source" "_law_source" (defArgs s_law_source) (defBody s_law_source) (defScope s_law_source) .none kV17 dc17 pm17 an17 cd17 ct17), sl17⟩) (c17 : PySem.W.codeIn K cd17 "_law_source" = true) (k17 : PySem.W.keepIn K (.ref f17) = true)
    (a18 : PySem.W.nsIn K mainGlobals "_law_draw" = some (some (.ref f18))) (l18 : K.lookup f18 = some ⟨oc18, od18, .func (PySem.W.fnOf "_law_draw" "_law_draw" (defArgs s_law_draw) (defBody s_law_draw) (defScope s_law_draw) .none kV18 dc18 pm18 an18 cd18 ct18), sl18⟩) (c18 : PySem.W.codeIn K cd18 "_law_draw" = true) (k18 : PySem.W.keepIn K (.ref f18) = true)
    (a19 : PySem.W.nsIn K mainGlobals "_law_same" = some (some (.ref f19))) (l19 : K.lookup f19 = some ⟨oc19, od19, .func (PySem.W.fnOf "_law_same" "_law_same" (defArgs s_law_same) (defBody s_law_same) (defScope s_law_same) .none kV19 dc19 pm19 an19 cd19 ct19), sl19⟩) (c19 : PySem.W.codeIn K cd19 "_law_same" = true) (k19 : PySem.W.keepIn K (.ref f19) = true)
    (a20 : PySem.W.nsIn K mainGlobals "_law_bracket" = some (some (.ref f20))) (l20 : K.lookup f20 = some ⟨oc20, od20, .func (PySem.W.fnOf "_law_bracket" "_law_bracket" (defArgs s_law_bracket) (defBody s_law_bracket) (defScope s_law_bracket) .none kV20 dc20 pm20 an20 cd20 ct20), sl20⟩) (c20 : PySem.W.codeIn K cd20 "_law_bracket" = true) (k20 : PySem.W.keepIn K (.ref f20) = true)
    (a21 : PySem.W.nsIn K mainGlobals "_law_half" = some (some (.ref f21))) (l21 : K.lookup f21 = some ⟨oc21, od21, .func (PySem.W.fnOf "_law_half" "_law_half" (defArgs s_law_half) (defBody s_law_half) (defScope s_law_half) .none kV21 dc21 pm21 an21 cd21 ct21), sl21⟩) (c21 : PySem.W.codeIn K cd21 "_law_half" = true) (k21 : PySem.W.keepIn K (.ref f21) = true)
    (a22 : PySem.W.nsIn K mainGlobals "_law_matches" = some (some (.ref f22))) (l22 : K.lookup f22 = some ⟨oc22, od22, .func (PySem.W.fnOf "_law_matches" "_law_matches" (defArgs s_law_matches) (defBody s_law_matches) (defScope s_law_matches) .none kV22 dc22 pm22 an22 cd22 ct22), sl22⟩) (c22 : PySem.W.codeIn K cd22 "_law_matches" = true) (k22 : PySem.W.keepIn K (.ref f22) = true)
    (a23 : PySem.W.nsIn K mainGlobals "law" = some (some (.ref f23))) (l23 : K.lookup f23 = some ⟨oc23, od23, .func (PySem.W.fnOf "law" "law" (defArgs s_law) (defBody s_law) (defScope s_law) .none kV23 dc23 pm23 an23 cd23 ct23), sl23⟩) (c23 : PySem.W.codeIn K cd23 "law" = true) (k23 : PySem.W.keepIn K (.ref f23) = true)
    (ac0 : PySem.W.nsIn K mainGlobals "MOST_ROUNDS" = some (some (.int 100 tc0)))
    (z0 : PySem.W.nsIn K mainGlobals "all" = some none)
    (z1 : PySem.W.nsIn K mainGlobals "bool" = some none)
    (z2 : PySem.W.nsIn K mainGlobals "int" = some none)
    (z3 : PySem.W.nsIn K mainGlobals "isinstance" = some none)
    (z4 : PySem.W.nsIn K mainGlobals "len" = some none)
    (z5 : PySem.W.nsIn K mainGlobals "list" = some none)
    (z6 : PySem.W.nsIn K mainGlobals "max" = some none)
    (z7 : PySem.W.nsIn K mainGlobals "min" = some none)
    (z8 : PySem.W.nsIn K mainGlobals "range" = some none)
    (z9 : PySem.W.nsIn K mainGlobals "sum" = some none)
    (z10 : PySem.W.nsIn K mainGlobals "tuple" = some none) :
    ∃ fd : FuncData, (∀ (s : Shared) (v : Value), BindsTo s fd ⟨[v], []⟩ [("script", v)]) ∧ ∀ base : Heap, K.In base → base.Ns mainGlobals mg → FnOk l.prog w K mg base CX0 6 fl fd ["script"] (spLaw K) := by
  have e := hfl.symm.trans (PySem.W.mg_of X G a23)
  cases e
  have T : TX K mg (fun n => match n with | 0 => f0 | 1 => f1 | 2 => f2 | 3 => f3 | 4 => f4 | 5 => f5 | 6 => f6 | 7 => f7 | 8 => f8 | 9 => f9 | 10 => f10 | 11 => f11 | 12 => f12 | 13 => f13 | 14 => f14 | 15 => f15 | 16 => f16 | 17 => f17 | 18 => f18 | 19 => f19 | 20 => f20 | 21 => f21 | 22 => f22 | 23 => fl | _ => 0) (fun n => match n with | 0 => PySem.W.fnOf "is_integer" "is_integer" (defArgs s_is_integer) (defBody s_is_integer) (defScope s_is_integer) .none kV0 dc0 pm0 an0 cd0 ct0 | 1 => PySem.W.fnOf "is_integer_between" "is_integer_between" (defArgs s_is_integer_between) (defBody s_is_integer_between) (defScope s_is_integer_between) .none kV1 dc1 pm1 an1 cd1 ct1 | 2 => PySem.W.fnOf "check_rounds" "check_rounds" (defArgs s_check_rounds) (defBody s_check_rounds) (defScope s_check_rounds) .none kV2 dc2 pm2 an2 cd2 ct2 | 3 => PySem.W.fnOf "check_player" "check_player" (defArgs s_check_player) (defBody s_check_player) (defScope s_check_player) .none kV3 dc3 pm3 an3 cd3 ct3 | 4 => PySem.W.fnOf "check_players" "check_players" (defArgs s_check_players) (defBody s_check_players) (defScope s_check_players) .none kV4 dc4 pm4 an4 cd4 ct4 | 5 => PySem.W.fnOf "check_stage" "check_stage" (defArgs s_check_stage) (defBody s_check_stage) (defScope s_check_stage) .none kV5 dc5 pm5 an5 cd5 ct5 | 6 => PySem.W.fnOf "group_of" "group_of" (defArgs s_group_of) (defBody s_group_of) (defScope s_group_of) .none kV6 dc6 pm6 an6 cd6 ct6 | 7 => PySem.W.fnOf "count_dealt" "count_dealt" (defArgs s_count_dealt) (defBody s_count_dealt) (defScope s_count_dealt) .none kV7 dc7 pm7 an7 cd7 ct7 | 8 => PySem.W.fnOf "_turned" "_turned" (defArgs s_turned) (defBody s_turned) (defScope s_turned) .none kV8 dc8 pm8 an8 cd8 ct8 | 9 => PySem.W.fnOf "count_halves" "count_halves" (defArgs s_count_halves) (defBody s_count_halves) (defScope s_count_halves) .none kV9 dc9 pm9 an9 cd9 ct9 | 10 => PySem.W.fnOf "own_half" "own_half" (defArgs s_own_half) (defBody s_own_half) (defScope s_own_half) .none kV10 dc10 pm10 an10 cd10 ct10 | 11 => PySem.W.fnOf "other_half" "other_half" (defArgs s_other_half) (defBody s_other_half) (defScope s_other_half) .none kV11 dc11 pm11 an11 cd11 ct11 | 12 => PySem.W.fnOf "_beside" "_beside" (defArgs s_beside) (defBody s_beside) (defScope s_beside) .none kV12 dc12 pm12 an12 cd12 ct12 | 13 => PySem.W.fnOf "count_matches" "count_matches" (defArgs s_count_matches) (defBody s_count_matches) (defScope s_count_matches) .none kV13 dc13 pm13 an13 cd13 ct13 | 14 => PySem.W.fnOf "first_match" "first_match" (defArgs s_first_match) (defBody s_first_match) (defScope s_first_match) .none kV14 dc14 pm14 an14 cd14 ct14 | 15 => PySem.W.fnOf "count_opponents" "count_opponents" (defArgs s_count_opponents) (defBody s_count_opponents) (defScope s_count_opponents) .none kV15 dc15 pm15 an15 cd15 ct15 | 16 => PySem.W.fnOf "_law_cell_at" "_law_cell_at" (defArgs s_law_cell_at) (defBody s_law_cell_at) (defScope s_law_cell_at) .none kV16 dc16 pm16 an16 cd16 ct16 | 17 => PySem.W.fnOf "_law_source" "_law_source" (defArgs s_law_source) (defBody s_law_source) (defScope s_law_source) .none kV17 dc17 pm17 an17 cd17 ct17 | 18 => PySem.W.fnOf "_law_draw" "_law_draw" (defArgs s_law_draw) (defBody s_law_draw) (defScope s_law_draw) .none kV18 dc18 pm18 an18 cd18 ct18 | 19 => PySem.W.fnOf "_law_same" "_law_same" (defArgs s_law_same) (defBody s_law_same) (defScope s_law_same) .none kV19 dc19 pm19 an19 cd19 ct19 | 20 => PySem.W.fnOf "_law_bracket" "_law_bracket" (defArgs s_law_bracket) (defBody s_law_bracket) (defScope s_law_bracket) .none kV20 dc20 pm20 an20 cd20 ct20 | 21 => PySem.W.fnOf "_law_half" "_law_half" (defArgs s_law_half) (defBody s_law_half) (defScope s_law_half) .none kV21 dc21 pm21 an21 cd21 ct21 | 22 => PySem.W.fnOf "_law_matches" "_law_matches" (defArgs s_law_matches) (defBody s_law_matches) (defScope s_law_matches) .none kV22 dc22 pm22 an22 cd22 ct22 | 23 => PySem.W.fnOf "law" "law" (defArgs s_law) (defBody s_law) (defScope s_law) .none kV23 dc23 pm23 an23 cd23 ct23 | _ => PySem.W.fnOf "law" "law" (defArgs s_law) (defBody s_law) (defScope s_law) .none kV23 dc23 pm23 an23 cd23 ct23) (fun _ => 0) :=
    { F_is_integer := fun_mk (st := s_is_integer) l0 c0 k0,
      g_is_integer := PySem.W.mg_of X G a0,
      F_is_integer_between := fun_mk (st := s_is_integer_between) l1 c1 k1,
      g_is_integer_between := PySem.W.mg_of X G a1,
      F_check_rounds := fun_mk (st := s_check_rounds) l2 c2 k2,
      g_check_rounds := PySem.W.mg_of X G a2,
      F_check_player := fun_mk (st := s_check_player) l3 c3 k3,
      g_check_player := PySem.W.mg_of X G a3,
      F_check_players := fun_mk (st := s_check_players) l4 c4 k4,
      g_check_players := PySem.W.mg_of X G a4,
      F_check_stage := fun_mk (st := s_check_stage) l5 c5 k5,
      g_check_stage := PySem.W.mg_of X G a5,
      F_group_of := fun_mk (st := s_group_of) l6 c6 k6,
      g_group_of := PySem.W.mg_of X G a6,
      F_count_dealt := fun_mk (st := s_count_dealt) l7 c7 k7,
      g_count_dealt := PySem.W.mg_of X G a7,
      F_turned := fun_mk (st := s_turned) l8 c8 k8,
      g_turned := PySem.W.mg_of X G a8,
      F_count_halves := fun_mk (st := s_count_halves) l9 c9 k9,
      g_count_halves := PySem.W.mg_of X G a9,
      F_own_half := fun_mk (st := s_own_half) l10 c10 k10,
      g_own_half := PySem.W.mg_of X G a10,
      F_other_half := fun_mk (st := s_other_half) l11 c11 k11,
      g_other_half := PySem.W.mg_of X G a11,
      F_beside := fun_mk (st := s_beside) l12 c12 k12,
      g_beside := PySem.W.mg_of X G a12,
      F_count_matches := fun_mk (st := s_count_matches) l13 c13 k13,
      g_count_matches := PySem.W.mg_of X G a13,
      F_first_match := fun_mk (st := s_first_match) l14 c14 k14,
      g_first_match := PySem.W.mg_of X G a14,
      F_count_opponents := fun_mk (st := s_count_opponents) l15 c15 k15,
      g_count_opponents := PySem.W.mg_of X G a15,
      F_law_cell_at := fun_mk (st := s_law_cell_at) l16 c16 k16,
      g_law_cell_at := PySem.W.mg_of X G a16,
      F_law_source := fun_mk (st := s_law_source) l17 c17 k17,
      g_law_source := PySem.W.mg_of X G a17,
      F_law_draw := fun_mk (st := s_law_draw) l18 c18 k18,
      g_law_draw := PySem.W.mg_of X G a18,
      F_law_same := fun_mk (st := s_law_same) l19 c19 k19,
      g_law_same := PySem.W.mg_of X G a19,
      F_law_bracket := fun_mk (st := s_law_bracket) l20 c20 k20,
      g_law_bracket := PySem.W.mg_of X G a20,
      F_law_half := fun_mk (st := s_law_half) l21 c21 k21,
      g_law_half := PySem.W.mg_of X G a21,
      F_law_matches := fun_mk (st := s_law_matches) l22 c22 k22,
      g_law_matches := PySem.W.mg_of X G a22,
      F_law := fun_mk (st := s_law) l23 c23 k23,
      g_law := PySem.W.mg_of X G a23,
      t_MOST_ROUNDS := ⟨tc0, PySem.W.mg_of X G ac0⟩,
      n_all := PySem.W.mg_none_of X G z0,
      n_bool := PySem.W.mg_none_of X G z1,
      n_int := PySem.W.mg_none_of X G z2,
      n_isinstance := PySem.W.mg_none_of X G z3,
      n_len := PySem.W.mg_none_of X G z4,
      n_list := PySem.W.mg_none_of X G z5,
      n_max := PySem.W.mg_none_of X G z6,
      n_min := PySem.W.mg_none_of X G z7,
      n_range := PySem.W.mg_none_of X G z8,
      n_sum := PySem.W.mg_none_of X G z9,
      n_tuple := PySem.W.mg_none_of X G z10 }
  exact ⟨PySem.W.fnOf "law" "law" (defArgs s_law) (defBody s_law) (defScope s_law) .none kV23 dc23 pm23 an23 cd23 ct23, fun s v => .of_eq rfl, fun base _ _ => ok_law T⟩
theorem walk {l : PySem.W.OpenLaw} {q : Program} {loose : List Str} {XP : (Str → Option Value) → Heap → Prop} {YP : World → Heap → Prop} {d : DefRec} {K : Params → PySem.W.Frag} (hn : l.most = some 63) (hdf : d.params.defaults = [])
    (hY : ∀ (w : World) (h : Heap), YP w h → (K w.params).In h)
    (F : ∀ (w : World) (mg : Str → Option Value) (fl : Addr) (h : Heap), (K w.params).In h → h.Ns mainGlobals mg → mg d.name = some (.ref fl) →
      ∃ fd : FuncData, (∀ (s : Shared) (u : Value), BindsTo s fd ⟨[u], []⟩ [("script", u)]) ∧ ∀ base : Heap, (K w.params).In base → base.Ns mainGlobals mg → FnOk l.prog w (K w.params) mg base CX0 6 fl fd ["script"] (spLaw (K w.params))) :
    PySem.W.WalkO q loose XP YP l.row.toRowW d [] (fun f vs => PySem.call f vs) :=
  L2.walk_of (n := 63) (k := 6) (x := "script") (CX := fun _ => CX0) (sp := fun w => spLaw (K w.params)) hn (by decide) hdf ⟨rfl, by decide, by decide⟩ hY F (fun _ _ a ns hl _ hS => ⟨a, ns, rfl, hS, hl, fun _ => rfl⟩) fun _ _ _ _ _ z => z
end My
open PySem PySem.W PyProof.Rows in
set_option maxRecDepth 100000 in
set_option maxHeartbeats 0 in
theorem PySem.Challenge.cw_seedcup_k17_byes_in_small_brackets_holds : PySem.Challenge.rw_seedcup_k17_byes_in_small_brackets.Holds := by
  w_on; o_law; k_head; (case hw => w_witness2)
  k_fill
  refine My.walk (l := PySem.Challenge.rw_seedcup_k17_byes_in_small_brackets) rfl rfl (fun w h Y => PySem.W.kIn_of Y) ?F
  case F =>
    intro w mg fl h KX G hmg
    refine' My.all_mk KX G hmg ?a0 ?l0 ?c0 ?k0 ?a1 ?l1 ?c1 ?k1 ?a2 ?l2 ?c2 ?k2 ?a3 ?l3 ?c3 ?k3 ?a4 ?l4 ?c4 ?k4 ?a5 ?l5 ?c5 ?k5 ?a6 ?l6 ?c6 ?k6 ?a7 ?l7 ?c7 ?k7 ?a8 ?l8 ?c8 ?k8 ?a9 ?l9 ?c9 ?k9 ?a10 ?l10 ?c10 ?k10 ?a11 ?l11 ?c11 ?k11 ?a12 ?l12 ?c12 ?k12 ?a13 ?l13 ?c13 ?k13 ?a14 ?l14 ?c14 ?k14 ?a15 ?l15 ?c15 ?k15 ?a16 ?l16 ?c16 ?k16 ?a17 ?l17 ?c17 ?k17 ?a18 ?l18 ?c18 ?k18 ?a19 ?l19 ?c19 ?k19 ?a20 ?l20 ?c20 ?k20 ?a21 ?l21 ?c21 ?k21 ?a22 ?l22 ?c22 ?k22 ?a23 ?l23 ?c23 ?k23 ?ac0 ?z0 ?z1 ?z2 ?z3 ?z4 ?z5 ?z6 ?z7 ?z8 ?z9 ?z10
    (case a0 => k_is)
    (case l0 => k_is)
    (case c0 => k_is)
    (case k0 => k_is)
    (case a1 => k_is)
    (case l1 => k_is)
    (case c1 => k_is)
    (case k1 => k_is)
    (case a2 => k_is)
    (case l2 => k_is)
    (case c2 => k_is)
    (case k2 => k_is)
    (case a3 => k_is)
    (case l3 => k_is)
    (case c3 => k_is)
    (case k3 => k_is)
    (case a4 => k_is)
    (case l4 => k_is)
    (case c4 => k_is)
    (case k4 => k_is)
    (case a5 => k_is)
    (case l5 => k_is)
    (case c5 => k_is)
    (case k5 => k_is)
    (case a6 => k_is)
    (case l6 => k_is)
    (case c6 => k_is)
    (case k6 => k_is)
    (case a7 => k_is)
    (case l7 => k_is)
    (case c7 => k_is)
    (case k7 => k_is)
    (case a8 => k_is)
    (case l8 => k_is)
    (case c8 => k_is)
    (case k8 => k_is)
    (case a9 => k_is)
    (case l9 => k_is)
    (case c9 => k_is)
    (case k9 => k_is)
    (case a10 => k_is)
    (case l10 => k_is)
    (case c10 => k_is)
    (case k10 => k_is)
    (case a11 => k_is)
    (case l11 => k_is)
    (case c11 => k_is)
    (case k11 => k_is)
    (case a12 => k_is)
    (case l12 => k_is)
    (case c12 => k_is)
    (case k12 => k_is)
    (case a13 => k_is)
    (case l13 => k_is)
    (case c13 => k_is)
    (case k13 => k_is)
    (case a14 => k_is)
    (case l14 => k_is)
    (case c14 => k_is)
    (case k14 => k_is)
    (case a15 => k_is)
    (case l15 => k_is)
    (case c15 => k_is)
    (case k15 => k_is)
    (case a16 => k_is)
    (case l16 => k_is)
    (case c16 => k_is)
    (case k16 => k_is)
    (case a17 => k_is)
    (case l17 => k_is)
    (case c17 => k_is)
    (case k17 => k_is)
    (case a18 => k_is)
    (case l18 => k_is)
    (case c18 => k_is)
    (case k18 => k_is)
    (case a19 => k_is)
    (case l19 => k_is)
    (case c19 => k_is)
    (case k19 => k_is)
    (case a20 => k_is)
    (case l20 => k_is)
    (case c20 => k_is)
    (case k20 => k_is)
    (case a21 => k_is)
    (case l21 => k_is)
    (case c21 => k_is)
    (case k21 => k_is)
    (case a22 => k_is)
    (case l22 => k_is)
    (case c22 => k_is)
    (case k22 => k_is)
    (case a23 => k_is)
    (case l23 => k_is)
    (case c23 => k_is)
    (case k23 => k_is)
    (case ac0 => k_is)
    (case z0 => k_is)
    (case z1 => k_is)
    (case z2 => k_is)
    (case z3 => k_is)
    (case z4 => k_is)
    (case z5 => k_is)
    (case z6 => k_is)
    (case z7 => k_is)
    (case z8 => k_is)
    (case z9 => k_is)
    (case z10 => k_is)

