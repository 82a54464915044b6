import PyProof.Rows.All
import Wide.All
import OpenK.AllK
import Wide.FinOn
import HandS.ForMost
import HandS.TupSets
import KE.SortData
import HandS.ExcOwn
import KE.DatumIndex
import HandS.Wide
import HandS.IsInst
import HandS.Style
import HandS.Property
import HandS.MakeKw
import HandS.SortInts
import HandS.OwnEq
import HandS.Defaults
import HandS.MakeKwOnly
import HandS.Star
import KE.Datum
import PyProof.ReprLen
import HandS.Walk
import HandS.Iter
import HandS.NoneIn
import PySem.Challenge.RW_cuptalk_k02_talks_put_together
set_option Elab.async false
set_option linter.all false
section
set_option Elab.async false
/-! Plain lists: ascending pairs, sets of pairs, greatest claims. -/
namespace Ct
abbrev P2 := Int × Int
def ltP (p q : P2) : Prop := p.1 < q.1 ∨ (p.1 = q.1 ∧ p.2 < q.2)
instance (p q : P2) : Decidable (ltP p q) := by unfold ltP; infer_instance
def leP (p q : P2) : Bool := decide (p.1 < q.1 ∨ (p.1 = q.1 ∧ p.2 ≤ q.2))
theorem ltP_irrefl (p : P2) : ¬ ltP p p := by unfold ltP; omega
theorem ltP_trans {p q r : P2} (h : ltP p q) (k : ltP q r) : ltP p r := by unfold ltP at *; omega
theorem P2.ext' {p q : P2} (h : p.1 = q.1) (k : p.2 = q.2) : p = q := Prod.ext h k
theorem ltP_or (p q : P2) : ltP p q ∨ p = q ∨ ltP q p := by
  by_cases h : ltP p q
  · exact .inl h
  · by_cases k : ltP q p
    · exact .inr (.inr k)
    · refine .inr (.inl (P2.ext' ?_ ?_)) <;> unfold ltP at h k <;> omega
def insP (p : P2) : List P2 → List P2
  | [] => [p]
  | q :: l => if ltP p q then p :: q :: l else if p = q then q :: l else q :: insP p l
def pset (ps : List P2) : List P2 := ps.foldr insP []
theorem mem_insP {x p : P2} : ∀ {l : List P2}, x ∈ insP p l ↔ x = p ∨ x ∈ l
  | [] => by simp [insP]
  | q :: l => by
    unfold insP
    split
    · simp
    · split
      · rename_i h; subst h; simp
      · rw [List.mem_cons, mem_insP (l := l), List.mem_cons]
        constructor
        · rintro (h | h | h) <;> simp [h]
        · rintro (h | h | h) <;> simp [h]
theorem ris_insP {p : P2} : ∀ {l : List P2}, l.Pairwise ltP → (insP p l).Pairwise ltP
  | [], _ => by simp [insP]
  | q :: l, h => by
    obtain ⟨h1, h2⟩ := List.pairwise_cons.mp h
    unfold insP
    split
    · rename_i c
      refine List.pairwise_cons.mpr ⟨fun x hx => ?_, h⟩
      rcases List.mem_cons.mp hx with e | hx
      · rw [e]; exact c
      · exact ltP_trans c (h1 x hx)
    · split
      · exact h
      · rename_i c d
        refine List.pairwise_cons.mpr ⟨fun x hx => ?_, ris_insP h2⟩
        rcases mem_insP.mp hx with e | hx
        · rw [e]
          rcases ltP_or p q with z | z | z
          · exact absurd z c
          · exact absurd z d
          · exact z
        · exact h1 x hx
theorem mem_pset {x : P2} : ∀ {ps : List P2}, x ∈ pset ps ↔ x ∈ ps
  | [] => by simp [pset]
  | p :: ps => by
    show x ∈ insP p (pset ps) ↔ _
    rw [mem_insP, mem_pset, List.mem_cons]
theorem ris_pset : ∀ (ps : List P2), (pset ps).Pairwise ltP
  | [] => List.Pairwise.nil
  | p :: ps => ris_insP (ris_pset ps)
theorem ris_ext : ∀ {l m : List P2}, l.Pairwise ltP → m.Pairwise ltP → (∀ x, x ∈ l ↔ x ∈ m) → l = m
  | [], [], _, _, _ => rfl
  | [], q :: m, _, _, h => absurd ((h q).mpr List.mem_cons_self) (by simp)
  | p :: l, [], _, _, h => absurd ((h p).mp List.mem_cons_self) (by simp)
  | p :: l, q :: m, hl, hm, h => by
    obtain ⟨l1, l2⟩ := List.pairwise_cons.mp hl
    obtain ⟨m1, m2⟩ := List.pairwise_cons.mp hm
    have e : p = q := by
      rcases List.mem_cons.mp ((h p).mp List.mem_cons_self) with e | z
      · exact e
      · rcases List.mem_cons.mp ((h q).mpr List.mem_cons_self) with e | y
        · exact e.symm
        · exact absurd (ltP_trans (l1 q y) (m1 p z)) (ltP_irrefl _)
    subst e
    have t : l = m := ris_ext l2 m2 fun x => by
      constructor
      · intro hx
        rcases List.mem_cons.mp ((h x).mp (List.mem_cons_of_mem _ hx)) with e | z
        · rw [e] at hx; exact absurd (l1 _ hx) (ltP_irrefl _)
        · exact z
      · intro hx
        rcases List.mem_cons.mp ((h x).mpr (List.mem_cons_of_mem _ hx)) with e | z
        · rw [e] at hx; exact absurd (m1 _ hx) (ltP_irrefl _)
        · exact z
    rw [t]
theorem pset_congr {ps qs : List P2} (h : ∀ x, x ∈ ps ↔ x ∈ qs) : pset ps = pset qs :=
  ris_ext (ris_pset ps) (ris_pset qs) fun x => by rw [mem_pset, mem_pset]; exact h x
theorem pset_ris {ps : List P2} (h : ps.Pairwise ltP) : pset ps = ps := ris_ext (ris_pset ps) h fun x => mem_pset
theorem insP_len (p : P2) : ∀ l : List P2, (insP p l).length ≤ l.length + 1
  | [] => by simp [insP]
  | q :: l => by
    unfold insP
    split
    · simp
    · split
      · simp
      · have := insP_len p l; simp; omega
theorem pset_len : ∀ ps : List P2, (pset ps).length ≤ ps.length
  | [] => Nat.le_refl _
  | p :: ps => by
    have h := pset_len ps
    have k := insP_len p (pset ps)
    show (insP p (pset ps)).length ≤ _
    rw [List.length_cons]; omega
/-- sorted, of pairs -/
def psort (ps : List P2) : List P2 := ps.mergeSort leP
theorem leP_trans : ∀ p q r : P2, leP p q = true → leP q r = true → leP p r = true := by
  intro p q r h k
  unfold leP at *
  simp only [decide_eq_true_eq] at *
  omega
theorem leP_total : ∀ p q : P2, (leP p q || leP q p) = true := by
  intro p q
  unfold leP
  simp only [Bool.or_eq_true, decide_eq_true_eq]
  omega
theorem psort_perm (ps : List P2) : (psort ps).Perm ps := List.mergeSort_perm ps leP
theorem psort_le (ps : List P2) : (psort ps).Pairwise (fun p q => leP p q = true) := List.pairwise_mergeSort leP_trans leP_total ps
theorem psort_nodup {ps : List P2} (h : ps.Nodup) : psort ps = pset ps := by
  have pw : (psort ps).Pairwise ltP := by
    have hn : (psort ps).Nodup := (psort_perm ps).nodup_iff.mpr h
    refine (List.Pairwise.and (psort_le ps) hn).imp ?_
    rintro p q ⟨a, b⟩
    unfold leP at a
    have a := of_decide_eq_true a
    unfold ltP
    by_cases c : p.1 < q.1
    · exact .inl c
    · have d : p.2 ≠ q.2 := fun e => b (P2.ext' (by omega) e)
      omega
  exact ris_ext pw (ris_pset ps) fun x => by rw [mem_pset]; exact (psort_perm ps).mem_iff
/-- sorted, of ints -/
def isort (ns : List Int) : List Int := ns.mergeSort (fun a b => decide (a ≤ b))
theorem isort_perm (ns : List Int) : (isort ns).Perm ns := List.mergeSort_perm ns _
theorem isort_le (ns : List Int) : (isort ns).Pairwise (fun a b => a ≤ b) := by
  refine (List.pairwise_mergeSort (le := fun a b : Int => decide (a ≤ b)) ?_ ?_ ns).imp ?_
  · intro a b c h k; simp only [decide_eq_true_eq] at *; omega
  · intro a b; simp only [Bool.or_eq_true, decide_eq_true_eq]; omega
  · intro a b h; exact of_decide_eq_true h
theorem isort_one {ns ms : List Int} (p : ms.Perm ns) (h : ms.Pairwise (fun a b => a ≤ b)) : ms = isort ns :=
  List.Perm.eq_of_pairwise (fun a b _ _ h k => Int.le_antisymm h k) h (isort_le ns) (p.trans (isort_perm ns).symm)
end Ct
end
section
set_option Elab.async false
set_option linter.all false
set_option maxRecDepth 100000
set_option maxHeartbeats 4000000
/-! Sets of pairs with up to some thousand members: the masks 7 .. 2047. -/
namespace Ct
open PySem PySem.Spec PyProof.Rows L2

def MB (m : Nat) : Prop := m = 7 ∨ m = 31 ∨ m = 127 ∨ m = 511 ∨ m = 2047
theorem MB.le {m : Nat} (h : MB m) : 7 ≤ m ∧ m ≤ 2047 := by
  rcases h with e | e | e | e | e <;> omega
theorem MB.odd {m : Nat} (h : MB m) : m % 2 = 1 := by
  rcases h with e | e | e | e | e <;> subst e <;> rfl

/-! the orbit of i -> 5 i + 1, gathered as bits -/
def orb (m : Nat) : Nat → Nat → Nat → Nat × Nat
  | 0, x, acc => (acc, x)
  | n + 1, x, acc => orb m n ((x * 5 + 1) % (m + 1)) (acc ||| (1 <<< x))
theorem lcgI_front (m : Nat) : ∀ (k x : Nat), lcgI m ((x * 5 + 1) % (m + 1)) k = lcgI m x (k + 1)
  | 0, _ => rfl
  | k + 1, x => by
    have ih := lcgI_front m k x
    show (lcgI m ((x * 5 + 1) % (m + 1)) k * 5 + 1) % (m + 1) = (lcgI m x (k + 1) * 5 + 1) % (m + 1)
    rw [ih]
theorem lcgI_plus (m x a : Nat) : ∀ k, lcgI m x (a + k) = lcgI m (lcgI m x a) k
  | 0 => rfl
  | k + 1 => by
    have ih := lcgI_plus m x a k
    show (lcgI m x (a + k) * 5 + 1) % (m + 1) = (lcgI m (lcgI m x a) k * 5 + 1) % (m + 1)
    rw [ih]
theorem orb_spec (m : Nat) : ∀ (n x acc : Nat), (orb m n x acc).2 = lcgI m x n ∧ ∀ j, (orb m n x acc).1.testBit j = true → acc.testBit j = true ∨ ∃ b, b < n ∧ lcgI m x b = j
  | 0, x, acc => ⟨rfl, fun j h => .inl h⟩
  | n + 1, x, acc => by
    obtain ⟨h1, h2⟩ := orb_spec m n ((x * 5 + 1) % (m + 1)) (acc ||| (1 <<< x))
    refine ⟨?_, fun j h => ?_⟩
    · show (orb m n ((x * 5 + 1) % (m + 1)) (acc ||| (1 <<< x))).2 = _
      rw [h1, lcgI_front]
    · rcases h2 j h with k | ⟨b, hb, e⟩
      · rw [Nat.testBit_or, Bool.or_eq_true] at k
        rcases k with k | k
        · exact .inl k
        · refine .inr ⟨0, Nat.succ_pos _, ?_⟩
          show x = j
          rw [Nat.one_shiftLeft, Nat.testBit_two_pow] at k
          exact of_decide_eq_true k
      · exact .inr ⟨b + 1, Nat.succ_lt_succ hb, by rw [← lcgI_front]; exact e⟩
theorem orb7 : orb 7 8 0 0 = (2 ^ 8 - 1, 0) := by decide +kernel
theorem orb31 : orb 31 32 0 0 = (2 ^ 32 - 1, 0) := by decide +kernel
theorem orb127 : orb 127 128 0 0 = (2 ^ 128 - 1, 0) := by decide +kernel
theorem orb511 : orb 511 512 0 0 = (2 ^ 512 - 1, 0) := by decide +kernel
theorem orb2047 : orb 2047 2048 0 0 = (2 ^ 2048 - 1, 0) := by decide +kernel
theorem MB.orb {m : Nat} (h : MB m) : orb m (m + 1) 0 0 = (2 ^ (m + 1) - 1, 0) := by
  rcases h with e | e | e | e | e <;> subst e
  · exact orb7
  · exact orb31
  · exact orb127
  · exact orb511
  · exact orb2047
theorem MB.hit {m : Nat} (h : MB m) {j : Nat} (hj : j ≤ m) : ∃ b, b ≤ m ∧ lcgI m 0 b = j := by
  have e := (orb_spec m (m + 1) 0 0).2 j (by
    rw [h.orb]
    show (2 ^ (m + 1) - 1).testBit j = true
    rw [Nat.testBit_two_pow_sub_one]
    exact decide_eq_true (by omega))
  rcases e with e | ⟨b, hb, e⟩
  · rw [Nat.zero_testBit] at e
    cases e
  · exact ⟨b, by omega, e⟩
theorem MB.round {m : Nat} (h : MB m) : lcgI m 0 (m + 1) = 0 := by
  rw [← (orb_spec m (m + 1) 0 0).1, h.orb]
theorem MB.all {m : Nat} (h : MB m) {i j : Nat} (hi : i ≤ m) (hj : j ≤ m) : ∃ k, k ≤ m ∧ lcgI m i k = j := by
  obtain ⟨a, ha, ea⟩ := h.hit hi
  obtain ⟨b, hb, eb⟩ := h.hit hj
  by_cases c : a ≤ b
  · refine ⟨b - a, by omega, ?_⟩
    rw [← ea, ← lcgI_plus, show a + (b - a) = b by omega, eb]
  · refine ⟨b + (m + 1) - a, by omega, ?_⟩
    rw [← ea, ← lcgI_plus, show a + (b + (m + 1) - a) = (m + 1) + b by omega, lcgI_plus, h.round, eb]
theorem MB.meets {m : Nat} (hm : MB m) (h : Int) {j : Nat} (hj : j ≤ m) : ∃ n, n ≤ m + 12 ∧ runI m (SetTable.bits h) n = j := by
  obtain ⟨k, hk, e⟩ := hm.all (runI_le m (SetTable.bits h) 12) hj
  exact ⟨12 + k, by omega, by rw [runI_tail (bits_lt h)]; exact e⟩
theorem MB.nth {m : Nat} (hm : MB m) (h : Int) {j : Nat} (hj : j ≤ m) : ∃ k, k < 10 * SetTable.turns m ∧ way m h k = j := by
  obtain ⟨n, hn, e⟩ := hm.meets h hj
  obtain ⟨k, hk, e2⟩ := run_nth m (SetTable.bits h) n
  refine ⟨k, by unfold SetTable.turns; omega, ?_⟩
  show (L2.nth m (runAt m (SetTable.bits h % (m + 1)) (SetTable.bits h)) k).j = j
  rw [e2]
  exact e
theorem way_in {m : Nat} {h : Int} {k : Nat} : way m h k ≤ m := by
  have hi : SetTable.bits h % (m + 1) ≤ m := Nat.le_of_lt_succ (Nat.mod_lt _ (Nat.succ_pos _))
  have r := runEnd_bd hi
  have q := nth_in (m := m) k (runAt m (SetTable.bits h % (m + 1)) (SetTable.bits h)) (by
    show SetTable.bits h % (m + 1) + (SetTable.runEnd m (SetTable.bits h % (m + 1)) - SetTable.bits h % (m + 1)) ≤ m
    omega)
  show (L2.nth m (runAt m (SetTable.bits h % (m + 1)) (SetTable.bits h)) k).j ≤ m
  omega

/-! a table from whose hashes each slot is found again -/
structure TB (t : SetTable) (hs : List Int) : Prop where
  ris : Ris t.place.toList
  dm : t.dummies = #[]
  sz : t.place.size = hs.length
  mok : MB t.mask
  bd : ∀ x ∈ t.place.toList, x ≤ t.mask
  reach : ∀ (i : Nat) (h : Int) (j : Nat), hs[i]? = some h → t.place.toList[i]? = some j → ∃ k, way t.mask h k = j ∧ ∀ c, c < k → way t.mask h c ∈ t.place.toList
theorem TB.len {t : SetTable} {hs : List Int} (T : TB t hs) : t.place.toList.length = hs.length := by
  rw [Array.length_toList]
  exact T.sz
theorem TB.first {t : SetTable} {hs : List Int} (T : TB t hs) (hl : hs.length ≤ t.mask) (h : Int) : ∃ K, K < 10 * SetTable.turns t.mask ∧ way t.mask h K ∉ t.place.toList ∧ ∀ k, k < K → way t.mask h k ∈ t.place.toList := by
  obtain ⟨j, hj, hn⟩ := st_missing t.place.toList (t.mask + 1) (by rw [T.len]; omega)
  obtain ⟨k, hk, e⟩ := T.mok.nth h (Nat.le_of_lt_succ hj)
  obtain ⟨K, h1, h2, h3⟩ := st_least (p := fun k => way t.mask h k ∉ t.place.toList) k (by rw [e]; exact hn)
  exact ⟨K, Nat.lt_of_le_of_lt h1 hk, h2, fun c hc => Classical.byContradiction fun q => h3 c hc q⟩
theorem TB.before {t : SetTable} {hs : List Int} (T : TB t hs) {h : Int} {K i j : Nat} (hK : way t.mask h K ∉ t.place.toList) (hi : hs[i]? = some h) (hj : t.place.toList[i]? = some j) : ∃ k, k < K ∧ way t.mask h k = j := by
  obtain ⟨k, e, hb⟩ := T.reach i h j hi hj
  refine ⟨k, ?_, e⟩
  rcases Nat.lt_trichotomy k K with c | c | c
  · exact c
  · exact absurd (by rw [← c, e]; exact List.mem_of_getElem? hj) hK
  · exact absurd (hb K c) hK
theorem TB.put {t : SetTable} {hs : List Int} (T : TB t hs) {h : Int} {K : Nat} (hK : way t.mask h K ∉ t.place.toList) (hb : ∀ k, k < K → way t.mask h k ∈ t.place.toList) :
    (t.put (way t.mask h K)).2 = SetTable.below t.place (way t.mask h K) ∧ SetTable.below t.place (way t.mask h K) ≤ hs.length ∧
    TB (t.put (way t.mask h K)).1 (hs.take (SetTable.below t.place (way t.mask h K)) ++ h :: hs.drop (SetTable.below t.place (way t.mask h K))) ∧
    (t.put (way t.mask h K)).1.mask = t.mask ∧ (t.put (way t.mask h K)).1.led = t.led ∧ (t.put (way t.mask h K)).1.plain = t.plain ∧
    (t.put (way t.mask h K)).1.fill = hs.length + 1 := by
  have hjm : way t.mask h K ≤ t.mask := way_in
  obtain ⟨j, hj⟩ : ∃ j, j = way t.mask h K := ⟨_, rfl⟩
  rw [← hj] at hK hjm ⊢
  obtain ⟨c1, _, _⟩ := below_cut T.ris j
  have hpl : SetTable.below t.place j ≤ t.place.toList.length := by rw [Array.length_toList]; exact c1
  have hph : SetTable.below t.place j ≤ hs.length := by rw [← T.sz]; exact c1
  have hnp : t.place[SetTable.below t.place j]? ≠ some j := fun e => hK (List.mem_of_getElem? (by rw [Array.getElem?_toList]; exact e))
  have hpp := put_place t j
  have hsize : (t.put j).1.place.size = hs.length + 1 := by
    rw [← Array.length_toList, hpp, len_ins _ hpl, T.len]
  have up : ∀ {x : Nat}, x ∈ t.place.toList → x ∈ (t.put j).1.place.toList := fun {x} hx => by
    rw [hpp]
    exact mem_ins.2 (.inr hx)
  refine ⟨rfl, hph, ⟨ris_insert T.ris hnp, put_dm T.dm j, ?_, T.mok, fun x hx => ?_, fun i h' j' h1 h2 => ?_⟩, rfl, rfl, rfl, ?_⟩
  · rw [len_ins _ hph]
    exact hsize
  · rw [hpp] at hx
    rcases mem_ins.1 hx with z | z
    · rw [z]; exact hjm
    · exact T.bd x z
  · rw [tins_get hs hph] at h1
    rw [hpp, tins_get _ hpl] at h2
    show ∃ k, way t.mask h' k = j' ∧ ∀ c, c < k → way t.mask h' c ∈ (t.put j).1.place.toList
    by_cases c : i < SetTable.below t.place j
    · rw [if_pos c] at h1 h2
      obtain ⟨k, e, z⟩ := T.reach i h' j' h1 h2
      exact ⟨k, e, fun c hc => up (z c hc)⟩
    · rw [if_neg c] at h1 h2
      by_cases d : i = SetTable.below t.place j
      · rw [if_pos d] at h1 h2
        obtain rfl : h = h' := Option.some.inj h1
        obtain rfl : j = j' := Option.some.inj h2
        exact ⟨K, hj.symm, fun c hc => up (hb c hc)⟩
      · rw [if_neg d] at h1 h2
        obtain ⟨k, e, z⟩ := T.reach (i - 1) h' j' h1 h2
        exact ⟨k, e, fun c hc => up (z c hc)⟩
  · show (t.put j).1.place.size + (t.put j).1.dummies.size = hs.length + 1
    rw [hsize, put_dm T.dm j] <;> rfl

/-! laying anew -/
theorem mb_free {m : Nat} (hm : MB m) (owner : Array (Option Nat)) (h : Int) {j : Nat} (hj : j ≤ m) (hf : oAt owner j = none) :
    ∃ K, SetTable.layClean.free m owner (SetTable.turns m) (SetTable.bits h % (m + 1)) (SetTable.bits h) = some (way m h K) ∧ oAt owner (way m h K) = none ∧ ∀ k, k < K → oAt owner (way m h k) ≠ none := by
  obtain ⟨n, hn, e⟩ := hm.meets h hj
  have hw : way m h (off m (SetTable.bits h % (m + 1)) (SetTable.bits h) n) = j := by
    show (L2.nth m (runAt m (SetTable.bits h % (m + 1)) (SetTable.bits h)) (off m (SetTable.bits h % (m + 1)) (SetTable.bits h) n)).j = j
    rw [nth_off, itL_run]
    exact e
  obtain ⟨K, k1, k2, k3⟩ := st_least (p := fun k => oAt owner (way m h k) = none) (off m (SetTable.bits h % (m + 1)) (SetTable.bits h) n) (by rw [hw]; exact hf)
  refine ⟨K, ?_, k2, k3⟩
  refine free_spec m owner (SetTable.turns m) n _ _ K (by unfold SetTable.turns; omega) k1 (fun k hk => ?_) ?_
  · have q := k3 k hk
    cases z : oAt owner (L2.nth m (runAt m (SetTable.bits h % (m + 1)) (SetTable.bits h)) k).j with
    | none => exact absurd z q
    | some _ => rfl
  · have q : oAt owner (L2.nth m (runAt m (SetTable.bits h % (m + 1)) (SetTable.bits h)) K).j = none := k2
    rw [q] <;> rfl
theorem mb_step {m : Nat} (hm : MB m) {done : List Int} {owner : Array (Option Nat)} (W : Own m done owner) (hl : done.length ≤ m) (h : Int) :
    ∃ j, SetTable.layClean.free m owner (SetTable.turns m) (SetTable.bits h % (m + 1)) (SetTable.bits h) = some j ∧ Own m (done ++ [h]) (owner.setIfInBounds j (some done.length)) := by
  obtain ⟨ps, hps, hin⟩ := W.ps
  obtain ⟨j0, h0, hn0⟩ := st_missing ps (m + 1) (by omega)
  have hj0 : oAt owner j0 = none := by
    cases z : oAt owner j0 with
    | none => rfl
    | some k => exact absurd (hin j0 (Nat.le_of_lt_succ h0) (by rw [z]; exact fun e => nomatch e)) hn0
  obtain ⟨K, e1, e2, e3⟩ := mb_free hm owner h (Nat.le_of_lt_succ h0) hj0
  have hjm : way m h K ≤ m := way_in
  have hjs : way m h K < owner.size := by rw [W.sz]; exact Nat.lt_succ_of_le hjm
  refine ⟨way m h K, e1, ?_⟩
  have hself := oAt_set_self (some done.length) hjs
  have mono : ∀ {i : Nat}, oAt owner i ≠ none → oAt (owner.setIfInBounds (way m h K) (some done.length)) i ≠ none := fun {i} hi => by
    by_cases c : i = way m h K
    · rw [c, hself]; exact fun e => nomatch e
    · rw [oAt_set_ne _ c]; exact hi
  refine ⟨by rw [Array.size_setIfInBounds]; exact W.sz, fun j k hj e => ?_, fun k hk => ?_, ⟨way m h K :: ps, by rw [List.length_cons, List.length_append, hps] <;> rfl, fun j hj e => ?_⟩⟩
  · by_cases c : j = way m h K
    · rw [c, hself] at e
      have ek : done.length = k := Option.some.inj e
      refine ⟨h, K, ?_, c.symm, fun c' hc => mono (e3 c' hc)⟩
      rw [← ek, List.getElem?_append_right (Nat.le_refl _), Nat.sub_self] <;> rfl
    · rw [oAt_set_ne _ c] at e
      obtain ⟨h', K', a1, a2, a3⟩ := W.at_ j k hj e
      refine ⟨h', K', ?_, a2, fun c' hc => mono (a3 c' hc)⟩
      rw [List.getElem?_append_left (List.getElem?_eq_some_iff.mp a1).1]
      exact a1
  · rw [List.length_append, List.length_singleton] at hk
    by_cases c : k < done.length
    · obtain ⟨j, hj, e⟩ := W.all k c
      refine ⟨j, hj, ?_⟩
      rw [oAt_set_ne _ (fun z => by rw [z, e2] at e; cases e)]
      exact e
    · have ek : k = done.length := by omega
      rw [ek]
      exact ⟨way m h K, hjm, hself⟩
  · by_cases c : j = way m h K
    · rw [c]; exact List.mem_cons_self
    · rw [oAt_set_ne _ c] at e
      exact List.mem_cons_of_mem _ (hin j hj e)
theorem mb_fold {m : Nat} (hm : MB m) : ∀ (rest done : List Int) (owner : Array (Option Nat)), Own m done owner → done.length + rest.length ≤ m →
    ∃ owner', rest.foldl (stepF m) (some (owner, done.length)) = some (owner', (done ++ rest).length) ∧ Own m (done ++ rest) owner'
  | [], done, owner, W, _ => ⟨owner, by rw [List.append_nil] <;> rfl, by rw [List.append_nil]; exact W⟩
  | h :: rest, done, owner, W, hl => by
    rw [List.length_cons] at hl
    obtain ⟨j, e, W'⟩ := mb_step hm W (by omega) h
    have hl' : (done ++ [h]).length = done.length + 1 := by rw [List.length_append] <;> rfl
    obtain ⟨owner', f, W2⟩ := mb_fold hm rest (done ++ [h]) _ W' (by rw [hl']; omega)
    have ea : done ++ [h] ++ rest = done ++ h :: rest := by rw [List.append_assoc] <;> rfl
    rw [ea, hl'] at f
    rw [ea] at W2
    refine ⟨owner', ?_, W2⟩
    rw [List.foldl_cons, stepF_some e]
    exact f
theorem mb_clean {m : Nat} (hm : MB m) {hs : Array Int} (hn : hs.size ≤ m) : ∃ owner, SetTable.layClean m hs = some owner ∧ Own m hs.toList owner := by
  obtain ⟨owner, f, W⟩ := mb_fold hm hs.toList [] _ (Own.init m) (by rw [Array.length_toList]; show 0 + hs.size ≤ m; omega)
  rw [List.nil_append] at W f
  refine ⟨owner, ?_, W⟩
  rw [layClean_eq]
  have f' : hs.toList.foldl (stepF m) (some (Array.replicate (m + 1) none, 0)) = some (owner, hs.toList.length) := f
  rw [f'] <;> rfl
theorem mb_relaid (t : SetTable) {hs : Array Int} {wanted M : Nat} (hw : SetTable.sizeAbove wanted - 1 = M) (hM : MB M) (hn : hs.size ≤ M) :
    ∃ t' order, t.relaid hs wanted = some (t', order) ∧ order.toList.Perm (List.range hs.size) ∧ TB t' (order.toList.map fun i => hs.getD i 0) ∧ t'.mask = M ∧ t'.led = t.led ∧ t'.plain = t.plain := by
  obtain ⟨owner, e, W⟩ := mb_clean hM hn
  have hr : t.relaid hs wanted = some (tabOf t M owner, ((liveOf M owner).map (·.2)).toArray) := by
    rw [relaid_eq, hw, e] <;> rfl
  have ris := ris_live (fun j => owner.getD j none) (List.range (M + 1)) (by
    unfold Ris
    first | exact List.pairwise_lt_range | exact List.pairwise_lt_range _)
  have r1 : Ris ((liveOf M owner).map (·.1)) := ris.1
  have r2 : ∀ x ∈ (liveOf M owner).map (·.1), x ∈ List.range (M + 1) := ris.2
  have nd : ((liveOf M owner).map (·.1)).Nodup := List.Pairwise.imp (fun h => Nat.ne_of_lt h) r1
  have hlen : (liveOf M owner).length = hs.size := by
    obtain ⟨ps, p1, p2⟩ := W.ps
    have a := nat_nodup_len ((liveOf M owner).map (·.1)) ps nd fun x hx => by
      obtain ⟨⟨y, k⟩, hq, ey⟩ := List.mem_map.mp hx
      obtain rfl : y = x := ey
      obtain ⟨b1, b2⟩ := (mem_live W.sz).1 hq
      exact p2 y b1 (by rw [b2]; exact fun z => nomatch z)
    have b := nat_nodup_len (List.range hs.size) ((liveOf M owner).map (·.2)) List.nodup_range fun k hk => by
      obtain ⟨j, b1, b2⟩ := W.all k (by rw [Array.length_toList]; exact List.mem_range.mp hk)
      exact List.mem_map.mpr ⟨(j, k), (mem_live W.sz).2 ⟨b1, b2⟩, rfl⟩
    rw [List.length_map, p1] at a
    rw [List.length_map, List.length_range] at b
    have hz : hs.toList.length = hs.size := rfl
    omega
  refine ⟨tabOf t M owner, ((liveOf M owner).map (·.2)).toArray, hr, ?_, ⟨r1, rfl, ?_, hM, fun x hx => ?_, fun i h j h1 h2 => ?_⟩, rfl, rfl, rfl⟩
  · refine perm_range hs.size _ ?_ fun k hk => ?_
    · show ((liveOf M owner).map (·.2)).length = hs.size
      rw [List.length_map]; exact hlen
    · obtain ⟨j, b1, b2⟩ := W.all k (by rw [Array.length_toList]; exact hk)
      exact List.mem_map.mpr ⟨(j, k), (mem_live W.sz).2 ⟨b1, b2⟩, rfl⟩
  · show ((liveOf M owner).map (·.1)).toArray.size = (((liveOf M owner).map (·.2)).map fun i => hs.getD i 0).length
    rw [List.size_toArray, List.length_map, List.length_map, List.length_map]
  · exact Nat.le_of_lt_succ (List.mem_range.mp (r2 x hx))
  · have h1' : (((liveOf M owner).map (·.2)).map fun i => hs.getD i 0)[i]? = some h := h1
    have h2' : ((liveOf M owner).map (·.1))[i]? = some j := h2
    rw [List.getElem?_map, List.getElem?_map] at h1'
    rw [List.getElem?_map] at h2'
    cases hq : (liveOf M owner)[i]? with
    | none => rw [hq] at h2'; cases h2'
    | some q =>
      obtain ⟨y, k⟩ := q
      rw [hq] at h1' h2'
      obtain rfl : y = j := Option.some.inj h2'
      have eh : hs.getD k 0 = h := Option.some.inj h1'
      obtain ⟨b1, b2⟩ := (mem_live W.sz).1 (List.mem_of_getElem? hq)
      obtain ⟨h0, K, a1, a2, a3⟩ := W.at_ y k b1 b2
      have e0 : hs.getD k 0 = h0 := by
        rw [Array.getD_eq_getD_getElem?, ← Array.getElem?_toList, a1] <;> rfl
      obtain rfl : h0 = h := e0.symm.trans eh
      refine ⟨K, a2, fun c hc => ?_⟩
      show way M h0 c ∈ (liveOf M owner).map (·.1)
      cases z : oAt owner (way M h0 c) with
      | none => exact absurd z (a3 c hc)
      | some k2 => exact List.mem_map.mpr ⟨(way M h0 c, k2), (mem_live W.sz).2 ⟨way_in, z⟩, rfl⟩
theorem size_b1 : SetTable.sizeAbove (SetTable.grown 5) = 32 := by decide +kernel
theorem size_b2 : SetTable.sizeAbove (SetTable.grown 19) = 128 := by decide +kernel
theorem size_b3 : SetTable.sizeAbove (SetTable.grown 77) = 512 := by decide +kernel
theorem size_b4 : SetTable.sizeAbove (SetTable.grown 307) = 2048 := by decide +kernel
end Ct
end
section
set_option Elab.async false
set_option linter.all false
set_option maxRecDepth 100000
set_option maxHeartbeats 8000000
namespace Ct
open PySem PySem.Spec PyProof.Rows L2

/-- the set at a holds the rows L, its table in order -/
structure SB (P : Program) (w : World) (h : Heap) (a : Addr) (L : List (Addr × List Int)) (es : Array (Int × Value)) (ep : Nat) (t : SetTable) : Prop where
  ob : ∃ o, h.get? a = some o ∧ o.ExactSet ∧ o.data = .set es ep t
  rows : es.toList = rowsOf P w L
  tab : TB t (L.map fun p => thash P w p.2)
  nd : (L.map (·.2)).Nodup
  tup : ∀ p ∈ L, IsT P w h p.2 p.1
  plain : t.plain = true
  led : w.params.followText "set-order" = true ∨ t.led = true
  room : L.length * 5 < t.mask * 3
  few : L.length < 1229
section
variable {P : Program} {w : World} {A : Around} {E : Value → Shared → Prop} {s : Shared}
variable {a : Addr} {L : List (Addr × List Int)} {es : Array (Int × Value)} {ep : Nat} {t : SetTable}
theorem SB.size {h : Heap} (R : SB P w h a L es ep t) : es.size = L.length := by
  have h := congrArg List.length R.rows
  unfold rowsOf at h
  rw [Array.length_toList, List.length_map] at h
  exact h
theorem SB.fits {h : Heap} (R : SB P w h a L es ep t) : t.fits es.size = true := by
  have h1 := R.tab.sz
  rw [List.length_map] at h1
  have h2 := R.size
  have h3 := R.room
  unfold SetTable.fits SetTable.fill
  rw [R.tab.dm, Bool.and_eq_true, beq_iff_eq, decide_eq_true_eq]
  show t.place.size = es.size ∧ t.place.size + 0 ≤ t.mask
  omega
theorem SB.entry {h : Heap} (R : SB P w h a L es ep t) {i : Nat} {p : Addr × List Int} (hp : L[i]? = some p) : es[i]? = some (thash P w p.2, Value.ref p.1) := by
  rw [← Array.getElem?_toList, R.rows]
  unfold rowsOf
  rw [List.getElem?_map, hp] <;> rfl
theorem SB.gw {h : Heap} (R : SB P w h a L es ep t) : ¬ t.gaveWay = true := by
  unfold SetTable.gaveWay
  rw [R.tab.mok.odd]
  decide

theorem sb_search (R : SB P w s.heap a L es ep t) {x : Addr} {k : List Int} (hx : IsT P w s.heap k x) (hu : A.units < cLine) {K : Nat} (hKf : K < 10 * SetTable.turns t.mask)
    (hK : way t.mask (thash P w k) K ∉ t.place.toList) (hKb : ∀ c, c < K → way t.mask (thash P w k) c ∈ t.place.toList) {Q : SetFound → Shared → Prop}
    (hin : k ∈ L.map (·.2) → Q (.there none) s) (hout : k ∉ L.map (·.2) → Q (.free (way t.mask (thash P w k) K) false) s) :
    ∀ (f c : Nat) (stand : Option SetTable.Probe), stand.getD (t.probeStart (thash P w k)) = L2.nth t.mask (runAt t.mask (SetTable.bits (thash P w k) % (t.mask + 1)) (SetTable.bits (thash P w k))) c → c ≤ K → K - c < f →
      (∀ (i : Nat) p, L[i]? = some p → p.2 = k → ∃ c', c ≤ c' ∧ c' < K ∧ t.place.toList[i]? = some (way t.mask (thash P w k) c')) →
      wpAny (model P w) A (setSearchFrom a (.ref x) (thash P w k) true f stand) Q E s
  | 0, c, stand, _, _, hf, _ => absurd hf (Nat.not_lt_zero _)
  | f + 1, c, stand, hst, hc, hf, hre => by
    obtain ⟨o, ho, hex, hd⟩ := R.ob
    obtain ⟨p0, hp0⟩ : ∃ p0, p0 = runAt t.mask (SetTable.bits (thash P w k) % (t.mask + 1)) (SetTable.bits (thash P w k)) := ⟨_, rfl⟩
    have hway : ∀ q, way t.mask (thash P w k) q = (L2.nth t.mask p0 q).j := fun q => by rw [hp0]
    rw [← hp0] at hst
    rw [setSearchFrom_succ]
    refine wpAny_bind (wpAny_setState_of ho hd R.fits ?_)
    dsimp only
    refine wp_if_neg R.gw ?_
    try refine wpAny_bind (wpAny_pure ?_)
    have hnd : (L2.nth t.mask p0 c).dummy = none := by
      have key : ∀ (n : Nat) (p : SetTable.Probe), p.dummy = none → (L2.nth t.mask p n).dummy = none := by
        intro n
        induction n with
        | zero => intro p h; exact h
        | succ n ih =>
          intro p h
          refine ih (adv t.mask p) ?_
          unfold adv
          split <;> exact h
      exact key c _ (by rw [hp0]; rfl)
    have sh : ∀ q, L2.nth t.mask (L2.nth t.mask p0 c) q = L2.nth t.mask p0 (c + q) := fun q => (nth_add t.mask c _ q).symm
    have e1 : ∀ q, (L2.nth t.mask (L2.nth t.mask p0 c) q).j = way t.mask (thash P w k) (c + q) := fun q => by rw [hway, sh]
    have spec := go_spec t R.tab.ris R.tab.dm (fun i => (es[i]?.map (·.1)).getD 0) (thash P w k) (10 * SetTable.turns t.mask) (K - c) _ hnd (by omega)
      (fun q hq => by rw [e1]; exact hKb (c + q) (by omega)) (by rw [e1, show c + (K - c) = K by omega]; exact hK)
    have hashAt : ∀ (i : Nat) p, L[i]? = some p → (fun i => (es[i]?.map (·.1)).getD 0) i = thash P w p.2 := fun i p hp => by
      show (es[i]?.map (·.1)).getD 0 = _
      rw [R.entry hp] <;> rfl
    rcases spec with ⟨q, i, hq, hi, hh, hno, hpr⟩ | ⟨hno, hpr⟩
    · have hpr' : t.probe (fun i => (es[i]?.map (·.1)).getD 0) (thash P w k) (stand.getD (t.probeStart (thash P w k))) = some (.candidate (way t.mask (thash P w k) (c + q)) i (L2.nth t.mask p0 (c + (q + 1)))) := by
        rw [hst, ← e1, ← sh]
        exact hpr
      rw [hpr']
      dsimp only
      rw [e1] at hi
      have hil : i < L.length := by
        have h1 : i < t.place.toList.length := (List.getElem?_eq_some_iff.mp hi).1
        rw [R.tab.len, List.length_map] at h1
        exact h1
      have hp : L[i]? = some L[i] := List.getElem?_eq_getElem hil
      generalize L[i] = p at hp
      have hmem : p ∈ L := List.mem_of_getElem? hp
      have hpt := R.tup p hmem
      have rest : wpAny (model P w) A (searchRest a (.ref x) (thash P w k) true f es t (way t.mask (thash P w k) (c + q)) i (L2.nth t.mask p0 (c + (q + 1)))) Q E s := by
        unfold searchRest
        rw [R.entry hp]
        dsimp only
        refine wpAny_bind (wpAny_holding (wpAny_eqBool_tuple hu hpt hx ?_))
        refine wpAny_bind (wpAny_setState_of ho hd R.fits ?_)
        dsimp only
        by_cases hkk : p.2 = k
        · refine wp_if_pos (by simp [hkk]) ?_
          exact wpAny_pure (hin (List.mem_map.mpr ⟨p, hmem, hkk⟩))
        · refine wp_if_neg (by simp [hkk]) ?_
          try refine wpAny_bind (wpAny_pure ?_)
          rw [sameMem]
          dsimp only
          have hsl : t.slot (way t.mask (thash P w k) (c + q)) = .live i := slot_live R.tab.ris hi
          simp only [if_true, hsl, R.entry hp]
          refine wpAny_bind (wpAny_isSame_ref_self (wpAny_bind (wpAny_pure ?_)))
          simp only [if_true]
          refine wp_if_neg (by simp [hkk]) ?_
          refine sb_search R hx hu hKf hK hKb hin hout f (c + (q + 1)) _ (by rw [hp0]; rfl) (by omega) (by omega) fun i0 p1 h0 hk0 => ?_
          obtain ⟨c', a1, a2, a3⟩ := hre i0 p1 h0 hk0
          refine ⟨c', ?_, a2, a3⟩
          rcases Nat.lt_or_ge c' (c + q) with z | z
          · exfalso
            refine hno (c' - c) i0 (by omega) (by rw [e1, show c + (c' - c) = c' by omega]; exact a3) ?_
            exact (hashAt i0 p1 h0).trans (congrArg (thash P w) hk0)
          · rcases Nat.lt_or_ge (c + q) c' with y | y
            · omega
            · exfalso
              have ec : c' = c + q := Nat.le_antisymm y z
              rw [ec] at a3
              have s0 := slot_live R.tab.ris a3
              rw [hsl] at s0
              injection s0 with s0
              rw [← s0, hp] at h0
              exact hkk ((congrArg Prod.snd (Option.some.inj h0)).trans hk0)
      by_cases hl : t.led = true
      · refine wp_if_neg (by simp [hl]) ?_
        try refine wpAny_bind (wpAny_pure ?_)
        exact rest
      · refine wp_if_pos (by simp [hl]) ?_
        refine wpAny_bind (seen_tup hx (fun y hy => ?_) ?_)
        · obtain ⟨e, he, ee⟩ := List.mem_map.mp hy
          have he1 : e ∈ es ∧ e.1 = thash P w k := by simpa using he
          have he2 : e ∈ es.toList := by simpa using he1.1
          rw [R.rows] at he2
          obtain ⟨p2, hp2, e2⟩ := List.mem_map.mp he2
          refine ⟨p2.2, p2.1, ?_, R.tup p2 hp2⟩
          rw [← ee, ← e2]
        · refine wp_if_neg (by decide) ?_
          try refine wpAny_bind (wpAny_pure ?_)
          exact rest
    · have hpr' : t.probe (fun i => (es[i]?.map (·.1)).getD 0) (thash P w k) (stand.getD (t.probeStart (thash P w k))) = some (.empty (way t.mask (thash P w k) K) none) := by
        have e2 : way t.mask (thash P w k) K = (L2.nth t.mask (L2.nth t.mask p0 c) (K - c)).j := by
          rw [e1, show c + (K - c) = K by omega]
        rw [hst, e2]
        exact hpr
      rw [hpr']
      dsimp only
      refine wpAny_pure (hout fun hm => ?_)
      obtain ⟨p1, h0, hk0⟩ := List.mem_map.mp hm
      obtain ⟨i0, hi0, e0⟩ := List.getElem_of_mem h0
      have h00 : L[i0]? = some p1 := by rw [List.getElem?_eq_getElem hi0, e0]
      obtain ⟨c', a1, a2, a3⟩ := hre i0 p1 h00 hk0
      refine hno (c' - c) i0 (by omega) (by rw [e1, show c + (c' - c) = c' by omega]; exact a3) ?_
      exact (hashAt i0 p1 h00).trans (congrArg (thash P w) hk0)

theorem sb_at (R : SB P w s.heap a L es ep t) {x : Addr} {k : List Int} (hx : IsT P w s.heap k x) (hu : A.units < cLine) {Q : SetFound → Shared → Prop}
    (hin : k ∈ L.map (·.2) → Q (.there none) s)
    (hout : ∀ K, k ∉ L.map (·.2) → way t.mask (thash P w k) K ∉ t.place.toList → (∀ c, c < K → way t.mask (thash P w k) c ∈ t.place.toList) → Q (.free (way t.mask (thash P w k) K) false) s) :
    wpAny (model P w) A (setSearch a (.ref x) (thash P w k) true) Q E s := by
  have hroom := R.room
  have hm := R.tab.mok.le
  obtain ⟨K, hKf, hK, hKb⟩ := R.tab.first (by rw [List.length_map]; omega) (thash P w k)
  have hbig : K < 100000 := by
    have : 10 * SetTable.turns t.mask ≤ 20620 := by
      unfold SetTable.turns
      omega
    omega
  unfold setSearch
  refine sb_search R hx hu hKf hK hKb hin (fun hn => hout K hn hK hKb) 100000 0 none rfl (Nat.zero_le _) (by omega) fun i p hp hk => ?_
  have hi : (L.map fun p => thash P w p.2)[i]? = some (thash P w k) := by rw [List.getElem?_map, hp, ← hk] <;> rfl
  have hil : i < t.place.toList.length := by
    rw [R.tab.len, List.length_map]
    exact (List.getElem?_eq_some_iff.mp hp).1
  have hj := List.getElem?_eq_getElem hil
  obtain ⟨c, hc, e⟩ := R.tab.before hK hi hj
  exact ⟨c, Nat.zero_le _, hc, by rw [hj, e]⟩

theorem sb_relay {o : Obj} (ho : s.heap.get? a = some o) (hex : o.ExactSet) (hd : o.data = .set es ep t) (hrows : es.toList = rowsOf P w L) (hsz : t.place.size = es.size) (hdm : t.dummies = #[]) (hfl : es.size ≤ t.mask)
    (nd : (L.map (·.2)).Nodup) (tup : ∀ p ∈ L, IsT P w s.heap p.2 p.1) (pl : t.plain = true) (ld : w.params.followText "set-order" = true ∨ t.led = true) (few : L.length < 1229) {wanted M : Nat}
    (hw : SetTable.sizeAbove wanted - 1 = M) (hM : MB M) (hw2 : SetTable.sizeAbove wanted ≤ 2048) (hn : L.length * 5 < M * 3) {Q : Unit → Shared → Prop}
    (hQ : ∀ h' L' es' ep' t', Heap.SameBut a s.heap h' → SB P w h' a L' es' ep' t' → L'.Perm L → Q () { s with heap := h' }) : wpAny (model P w) A (setRelay a wanted) Q E s := by
  have hsl : es.size = L.length := by
    have h := congrArg List.length hrows
    unfold rowsOf at h
    rw [Array.length_toList, List.length_map] at h
    exact h
  have hfits : t.fits es.size = true := by
    unfold SetTable.fits SetTable.fill
    rw [hdm, Bool.and_eq_true, beq_iff_eq, decide_eq_true_eq]
    show t.place.size = es.size ∧ t.place.size + 0 ≤ t.mask
    omega
  obtain ⟨t', order, e, hp, T, em, el, epl⟩ := mb_relaid t (hs := es.map (·.1)) (wanted := wanted) hw hM (by rw [Array.size_map, hsl]; omega)
  rw [Array.size_map, hsl] at hp
  obtain ⟨L2', r1, r2, r3⟩ := order_rows L es order hrows hp
  rw [← r3] at T
  have hs2 : (order.filterMap (es[·]?)).size = es.size := by
    have h := congrArg List.length r1
    unfold rowsOf at h
    rw [Array.length_toList, List.length_map, r2.length_eq] at h
    rw [h, hsl]
  rw [setRelay_eq]
  refine wpAny_bind (wpAny_setState_of ho hd hfits ?_)
  dsimp only
  refine wp_if_neg (by rw [sizeLine_eq]; omega) ?_
  try refine wpAny_bind (wpAny_pure ?_)
  rw [e]
  dsimp only
  refine wpAny_bind ?_
  refine wp_if_neg (by rw [hs2]; simp) ?_
  try refine wpAny_bind (wpAny_pure ?_)
  refine wpAny_pure ?_
  dsimp only
  refine wpAny_storeSet_of ho hd ?_ (by rw [hs2, hsl, sizeLine_eq]; omega)
  have sb : Heap.SameBut a s.heap (s.heap.update a (Obj.putSet (order.filterMap (es[·]?)) t')) := Heap.SameBut.update ..
  refine hQ _ L2' (order.filterMap (es[·]?)) (ep + 1) t' sb ?_ r2
  refine ⟨⟨_, store_at ho hd, ⟨hex.1, hex.2.1, hex.2.2⟩, rfl⟩, r1, T, ?_, fun p hpm => isT_same (tup p (r2.mem_iff.mp hpm)) ho hd sb, by rw [epl]; exact pl, by rw [el]; exact ld, ?_, by rw [r2.length_eq]; exact few⟩
  · exact (r2.map (·.2)).nodup_iff.mpr nd
  · rw [r2.length_eq, em]
    exact hn

theorem sb_add (R : SB P w s.heap a L es ep t) {x : Addr} {k : List Int} (hx : IsT P w s.heap k x) (hu : A.units < cLine) (hfew : L.length + 1 < 1229) {Q : Bool → Shared → Prop}
    (hQ : ∀ b h' L' es' ep' t', Heap.SameBut a s.heap h' → SB P w h' a L' es' ep' t' → (k ∈ L.map (·.2) → L' = L) → (k ∉ L.map (·.2) → L'.Perm ((x, k) :: L)) → Q b { s with heap := h' }) :
    wpAny (model P w) A (setAddHashed a (.ref x) (thash P w k)) Q E s := by
  obtain ⟨o, ho, hex, hd⟩ := R.ob
  have hsl := R.size
  have hroom := R.room
  unfold setAddHashed
  refine wpAny_holding ?_
  rw [show (100000 : Nat) = 99999 + 1 from rfl, setAddHashedIn_succ]
  refine wpAny_bind (wpAny_setState_of ho hd R.fits ?_)
  dsimp only
  refine wp_if_neg (by simp [byScan, Value.scannable]) ?_
  try refine wpAny_bind (wpAny_pure ?_)
  refine wpAny_bind (sb_at R hx hu (fun hm => ?_) fun K hm hK hb => ?_)
  · dsimp only
    exact wpAny_pure (hQ false s.heap L es ep t (Heap.SameBut.refl a s.heap) R (fun _ => rfl) fun z => absurd hm z)
  · dsimp only
    refine wpAny_bind (wpAny_setState_of ho hd R.fits ?_)
    dsimp only
    obtain ⟨q1, q2, q3, q4, q5, q6, q9⟩ := R.tab.put hK hb
    have hp1 : (t.put (way t.mask (thash P w k) K)).1.plain = true := by rw [q6]; exact R.plain
    generalize t.put (way t.mask (thash P w k) K) = pt at q1 q3 q4 q5 q6 q9 hp1 ⊢
    obtain ⟨t1, p⟩ := pt
    dsimp only at q1 q3 q4 q5 q6 q9 hp1 ⊢
    subst q1
    first
      | (refine wpAny_bind ?_; refine wp_if_pos hp1 ?_; refine hashBy_tup hx ?_)
      | refine wp_if_pos hp1 (wpAny_bind (hashBy_tup hx ?_))
    simp only [if_true]
    have hin : (SetTable.insertAt es (SetTable.below t.place (way t.mask (thash P w k) K)) (thash P w k, Value.ref x)).toList = rowsOf P w (L.take (SetTable.below t.place (way t.mask (thash P w k) K)) ++ (x, k) :: L.drop (SetTable.below t.place (way t.mask (thash P w k) K))) := by
      rw [SetTable.toList_insertAt, rows_put, R.rows]
    generalize SetTable.below t.place (way t.mask (thash P w k) K) = p at q2 q3 hin ⊢
    have pm := put_perm L p (x, k)
    have hlen : (L.take p ++ (x, k) :: L.drop p).length = L.length + 1 := pm.length_eq
    have hhs : (L.take p ++ (x, k) :: L.drop p).map (fun p => thash P w p.2) = (L.map fun p => thash P w p.2).take p ++ thash P w k :: (L.map fun p => thash P w p.2).drop p := by
      rw [List.map_append, List.map_cons, List.map_take, List.map_drop]
    rw [← hhs] at q3
    have nd1 : ((L.take p ++ (x, k) :: L.drop p).map (·.2)).Nodup := by
      refine (pm.map (·.2)).nodup_iff.mpr ?_
      rw [List.map_cons]
      exact List.nodup_cons.mpr ⟨hm, R.nd⟩
    have hes : (SetTable.insertAt es p (thash P w k, Value.ref x)).size = L.length + 1 := by
      have h := congrArg List.length hin
      unfold rowsOf at h
      rw [Array.length_toList, List.length_map, hlen] at h
      exact h
    generalize SetTable.insertAt es p (thash P w k, Value.ref x) = es1 at hin hes ⊢
    generalize L.take p ++ (x, k) :: L.drop p = L1 at pm hlen q3 nd1 hin
    refine wpAny_bind (wpAny_storeSet_of ho hd ?_ (by rw [hes, sizeLine_eq]; omega))
    have sb : Heap.SameBut a s.heap (s.heap.update a (Obj.putSet es1 t1)) := Heap.SameBut.update ..
    have ho1 := store_at (es' := es1) (t' := t1) ho hd
    generalize s.heap.update a (Obj.putSet es1 t1) = h1 at sb ho1 ⊢
    have tup1 : ∀ p ∈ L1, IsT P w h1 p.2 p.1 := fun p hp => by
      rcases List.mem_cons.mp (pm.mem_iff.mp hp) with e | hp
      · rw [e]; exact isT_same hx ho hd sb
      · exact isT_same (R.tup p hp) ho hd sb
    have ld1 : w.params.followText "set-order" = true ∨ t1.led = true := by rw [q5]; exact R.led
    by_cases hf : t1.tooFull = true
    · first
        | (refine wpAny_bind ?_; refine wp_if_pos (by simp [hf]) ?_)
        | (refine wp_if_pos (by simp [hf]) ?_; refine wpAny_bind ?_)
      have hfull : (L.length + 1) * 5 ≥ t1.mask * 3 := by
        have h := hf
        unfold SetTable.tooFull at h
        rw [decide_eq_true_eq, q9, List.length_map] at h
        exact h
      rw [hsl]
      have hsz1 : t1.place.size = es1.size := by
        have h := q3.sz
        rw [List.length_map, hlen] at h
        rw [h, hes]
      rw [q4] at hfull
      have cases2 : ∃ M, SetTable.sizeAbove (SetTable.grown (L.length + 1)) - 1 = M ∧ MB M ∧ SetTable.sizeAbove (SetTable.grown (L.length + 1)) ≤ 2048 ∧ (L.length + 1) * 5 < M * 3 := by
        rcases R.tab.mok with e | e | e | e | e
        · have e2 : L.length + 1 = 5 := by rw [e] at hfull hroom; omega
          rw [e2, size_b1]
          exact ⟨31, rfl, .inr (.inl rfl), by decide, by decide⟩
        · have e2 : L.length + 1 = 19 := by rw [e] at hfull hroom; omega
          rw [e2, size_b2]
          exact ⟨127, rfl, .inr (.inr (.inl rfl)), by decide, by decide⟩
        · have e2 : L.length + 1 = 77 := by rw [e] at hfull hroom; omega
          rw [e2, size_b3]
          exact ⟨511, rfl, .inr (.inr (.inr (.inl rfl))), by decide, by decide⟩
        · have e2 : L.length + 1 = 307 := by rw [e] at hfull hroom; omega
          rw [e2, size_b4]
          exact ⟨2047, rfl, .inr (.inr (.inr (.inr rfl))), by decide, by decide⟩
        · exfalso; rw [e] at hfull; omega
      obtain ⟨M, g1, g2, g3, g4⟩ := cases2
      refine sb_relay (s := { s with heap := h1 }) ho1 ⟨hex.1, hex.2.1, hex.2.2⟩ rfl hin hsz1 q3.dm (by rw [hes, q4]; have := R.tab.mok.le; omega) nd1 tup1 hp1 ld1 (by rw [hlen]; exact hfew) g1 g2 g3 (by rw [hlen]; exact g4) ?_
      intro h2 L2' es2 ep2 t2 sb2 R2 pm2
      refine wpAny_pure (hQ true h2 L2' es2 ep2 t2 (sb.trans sb2) R2 (fun z => absurd z hm) fun _ => pm2.trans pm)
    · first
        | refine wp_if_neg (by simp [hf]) ?_
        | (refine wpAny_bind ?_; refine wp_if_neg (by simp [hf]) ?_; refine wpAny_pure ?_)
      refine wpAny_pure (hQ true h1 L1 es1 (ep + 1) t1 sb ⟨⟨_, ho1, ⟨hex.1, hex.2.1, hex.2.2⟩, rfl⟩, hin, q3, nd1, tup1, hp1, ld1, ?_, by rw [hlen]; exact hfew⟩ (fun z => absurd z hm) fun _ => pm)
      have h := hf
      unfold SetTable.tooFull at h
      rw [decide_eq_true_eq, q9, List.length_map] at h
      rw [hlen]
      omega
theorem SB.keep {h h' : Heap} (R : SB P w h a L es ep t) (ha : ∀ o, h.get? a = some o → h'.get? a = some o) (ht : ∀ p ∈ L, IsT P w h' p.2 p.1) : SB P w h' a L es ep t := by
  obtain ⟨o, ho, r⟩ := R.ob
  exact ⟨⟨o, ha o ho, r⟩, R.rows, R.tab, R.nd, ht, R.plain, R.led, R.room, R.few⟩
theorem sb_fresh {h : Heap} (ho : h.get? a = some { cls := .type "set", dict := none, data := .set #[] 0 (.fresh 0 0 (!w.params.followText "set-order")) }) : SB P w h a [] #[] 0 (.fresh 0 0 (!w.params.followText "set-order")) where
  ob := ⟨_, ho, ⟨rfl, rfl, rfl⟩, rfl⟩
  rows := rfl
  tab := ⟨List.Pairwise.nil, rfl, rfl, .inl rfl, fun x hx => (by cases hx), fun i h j hi => (by simp at hi)⟩
  nd := List.nodup_nil
  tup := fun p hp => (by cases hp)
  plain := rfl
  led := by
    show _ ∨ (!w.params.followText "set-order") = true
    cases w.params.followText "set-order"
    · exact .inr rfl
    · exact .inl rfl
  room := by
    show 0 * 5 < 7 * 3
    decide
  few := by
    show 0 < 1229
    decide
end
end Ct
end
section
set_option Elab.async false
set_option linter.all false
set_option maxRecDepth 100000
set_option maxHeartbeats 8000000
namespace Ct
open PySem PySem.Spec PyProof.Rows L2
/-- a set as it is made -/
abbrev so (w : World) : Obj := { cls := .type "set", dict := none, data := .set #[] 0 (.fresh 0 0 (!w.params.followText "set-order")) }
section
variable {P : Program} {w : World} {A : Around} {E : Value → Shared → Prop} {s : Shared}

/-- the loop of set.update over tuples -/
theorem sb_update {I : Addr} {fp wr : List Addr} {G : Array GenState → Array GenState → Prop} {n : Nat} {Pv : Nat → Value → Prop} {St : Nat → Shared → Prop} {R : Result → Shared → Prop}
    (W : WalksS P w A.in1 I fp wr G n Pv St) (S : Addr) (hSf : S ∉ fp) (ks : List (Addr × List Int)) (hn : n = ks.length) (hfew : ks.length < 1229) (hval : ∀ i v, Pv i v → ∃ p, ks[i]? = some p ∧ v = .ref p.1)
    (h0 : Heap) (hk : ∀ p ∈ ks, IsT P w h0 p.2 p.1) (hS0 : h0.get? S = none) (hw0 : ∀ b ∈ wr, h0.get? b = none) (hu : A.in1.units < cLine) :
    ∀ (k i : Nat) (s : Shared), n - i = k → i ≤ n → St i s → (∀ b o, h0.get? b = some o → s.heap.get? b = some o) → (∃ L es ep t, SB P w s.heap S L es ep t ∧ Got ks i L) →
      (∀ s' L es ep t, Moved (S :: wr) G s s' → SB P w s'.heap S L es ep t → Got ks n L → (∀ b o, h0.get? b = some o → s'.heap.get? b = some o) → R (.ok (.ret .none)) s') →
      codeAny (model P w) A (.builtin "set.update.loop" ⟨[.ref S, .ref I], []⟩) R s := by
  have hSw : S ∉ wr := fun h => hSf (W.sub _ h)
  have hsub : ∀ b ∈ wr, b ∈ S :: wr := fun b hb => List.mem_cons_of_mem _ hb
  have keepM : ∀ {s s' : Shared}, Moved wr G s s' → (∀ b o, h0.get? b = some o → s.heap.get? b = some o) → ∀ b o, h0.get? b = some o → s'.heap.get? b = some o := fun hm hkp b o e =>
    hm.heap b o (fun hb => by rw [hw0 b hb] at e; cases e) (hkp b o e)
  intro k
  induction k with
  | zero =>
    intro i s hk' hi hst hkp ⟨L, es, ep, t, hS, g⟩ hR
    obtain rfl : i = n := by omega
    refine codeAny_builtin F.entry_set_update_loop ?_
    rw [Around.under_plainId F.plain_set_update_loop _]
    show wpAny _ A.in1 (pyNext (.ref I) >>= _) _ _ s
    refine wpAny_bind (W.done s _ _ hst fun s' hm => ?_)
    show wpAny _ A.in1 (ret Value.none) _ _ s'
    have hkp' := keepM hm hkp
    have sub : ∀ p ∈ L, p ∈ ks := fun p hp => List.mem_of_mem_take (g.sub p hp)
    exact wpAny_pure (hR s' L es ep t (hm.mono hsub) (hS.keep (fun o e => hm.heap S o hSw e) fun p hp => isT_keep (hk p (sub p hp)) hkp') g hkp')
  | succ k ih =>
    intro i s hk' hi hst hkp ⟨L, es, ep, t, hS, g⟩ hR
    have hlt : i < n := by omega
    refine codeAny_builtin F.entry_set_update_loop ?_
    rw [Around.under_plainId F.plain_set_update_loop _]
    show wpAny _ A.in1 (pyNext (.ref I) >>= _) _ _ s
    refine wpAny_bind (W.item i s _ _ hlt hst fun v s' hP hst' hm => ?_)
    obtain ⟨p, hp, rfl⟩ := hval i v hP
    have hkp' := keepM hm hkp
    have sub : ∀ p ∈ L, p ∈ ks := fun p hp => List.mem_of_mem_take (g.sub p hp)
    have hS' : SB P w s'.heap S L es ep t := hS.keep (fun o e => hm.heap S o hSw e) fun q hq => isT_keep (hk q (sub q hq)) hkp'
    have hx : IsT P w s'.heap p.2 p.1 := isT_keep (hk p (List.mem_of_getElem? hp)) hkp'
    show wpAny _ A.in1 (holding [Value.ref p.1] (setAdd S (.ref p.1)) >>= _) _ _ s'
    refine wpAny_bind (wpAny_holding ?_)
    unfold setAdd
    refine wpAny_holding ?_
    refine wpAny_bind (wpAny_pyHash_tuple hu hx ?_)
    refine sb_add (s := { s' with toks := s'.toks + (p.2.length + 1) }) hS' hx hu (by have := g.len; omega) fun b h' L' es' ep' t' hsb hS2 c1 c2 => ?_
    have g' : Got ks (i + 1) L' := by
      rcases Classical.em (p.2 ∈ L.map (·.2)) with c | c
      · rw [c1 c]; exact g.same hp c
      · exact g.more hp (c2 c)
    have hkp2 : ∀ b o, h0.get? b = some o → h'.get? b = some o := fun b o e => (hsb.2 b (fun z => by rw [z, hS0] at e; cases e)).trans (hkp' b o e)
    refine wpAny_pure ⟨plainId_quiet F.plain_set_update_loop _, ih (i + 1) _ (by omega) hlt (W.frame _ s' _ _ hst' (Nat.le_add_right _ _) fun b hb o e => ?_) hkp2 ⟨L', es', ep', t', hS2, g'⟩ fun s'' L2' es2 ep2 t2 hm'' hS'' g'' hkp'' => ?_⟩
    · rw [hsb.2 b (fun h : b = S => hSf (by rw [← h]; exact hb))]; exact e
    · refine hR s'' L2' es2 ep2 t2 (Moved.trans W.gtrans ((hm.mono hsub).then_heap (Nat.le_add_right _ _) fun b o hb e => ?_) hm'') hS'' g'' hkp''
      rw [hsb.2 b (fun h : b = S => hb (by rw [h]; exact List.mem_cons_self))]; exact e

/-- set(xs) of tuples of ints, fewer than 1229 -/
theorem sb_call {l : Addr} {items : Array Value} (ks : List (Addr × List Int)) {Q : Value → Shared → Prop} (hh : A.handled = none) (hl : s.heap.IsList l items) (hit : items.toList = ks.map fun p => Value.ref p.1)
    (hk : ∀ p ∈ ks, IsT P w s.heap p.2 p.1) (hfew : ks.length < 1229) (hu : A.units + 3 < cLine)
    (h : ∀ (h' : Heap) (tk : Nat) L es ep t, SB P w h' s.heap.objs.size L es ep t → Got ks ks.length L → (∀ b o, s.heap.get? b = some o → h'.get? b = some o) → Q (.ref s.heap.objs.size) { s with heap := h', toks := tk }) :
    wpAny (model P w) A (call (.type "set") [.ref l]) Q E s := by
  have hisz : items.size = ks.length := by
    have q := congrArg List.length hit
    rw [Array.length_toList, List.length_map] at q
    exact q
  obtain ⟨c, tl, hmro⟩ := F.called_set.mro
  have hmade := F.called_set.made
  have hsub := F.called_set.sub
  refine wpAny_call (codeAny_of_tree ?_)
  show wpAny _ _ (callAny (.type "set") _) _ _ _
  refine wpAny_pure ⟨Code.quiet_builtin _ (by decide +kernel), codeAny_builtin F.entry_type_call ?_⟩
  rw [Around.under_plain (weight_type_call_type "set" [.ref l] []) rfl]
  have h1 := F.called_set.notType
  have h2 := F.called_set.canCreate
  have hct := F.typeCall_set_1 (.ref l)
  repeat (any_goals (first | assumption | wp_step))
  refine codeAny_mono (code_set_led1 (.ref l) (E := E) (Q₁ := fun obj s₁ => obj = .ref s.heap.objs.size ∧ s₁ = { s with heap := s.heap.push (so w) }) ⟨rfl, rfl⟩) fun r s₁ hr => ?_
  cases r with
  | error e => exact hr
  | ok fl =>
    cases fl with
    | ret obj =>
      obtain ⟨rfl, rfl⟩ := hr
      have hS : (s.heap.push (so w)).get? s.heap.objs.size = some (so w) := Heap.get?_push_size _ rfl
      have hT : Shared.TypeIs { s with heap := s.heap.push (so w) } (.ref s.heap.objs.size) "set" := ⟨_, hS, rfl⟩
      have hli := F.called_set.init.lookup
      have hbi := F.called_set.init.bind (.ref s.heap.objs.size)
      repeat (any_goals (first | assumption | wp_step))
      refine codeAny_mono (codeAny_call_builtin (R := wants (fun r s₂ => r = .none ∧ ∃ h' tk L es ep t, s₂ = { s with heap := h', toks := tk } ∧ SB P w h' s.heap.objs.size L es ep t ∧ Got ks ks.length L ∧
          (∀ b o, s.heap.get? b = some o → h'.get? b = some o)) E) F.called_set.init.plain F.entry_set_init (check_set_init_1 hT ?_)) fun r₂ s₂ hr₂ => ?_
      · obtain ⟨ol, hol, hcl, nl, hdl⟩ := hl
        obtain ⟨ocls, odict, odata, oslots⟩ := ol
        simp only at hcl hdl
        subst hcl; subst hdl
        have hol' : (s.heap.push (so w)).get? l = some { cls := .type "list", dict := odict, data := .seq items nl, slots := oslots } := Heap.get?_push_of_some _ hol
        have hsls := F.sub_list_set
        have hslf := F.sub_list_frozenset
        have hne : (Value.type "list" == Value.type "dict") = false := by decide
        have hl1 : (s.heap.push (so w)).IsList l items := ⟨_, hol', rfl, nl, rfl⟩
        unfold Builtin.«set.__init__» noKeywords Builtin.Frozenset.updateFrom
        generalize hPI : pyIter = PI
        wp_walk
        subst hPI
        refine wpAny_pyIter_list hl1 ?_
        refine wpAny_bind (wpAny_runValue ?_)
        have hlS : l < s.heap.objs.size := Heap.lt_size hol
        have hh3 : A.in1.in1.in1.handled = none := by simp [hh]
        have hneI : l ≠ (s.heap.push (so w)).objs.size := by
          rw [Heap.size_push]; exact Nat.ne_of_lt (Nat.lt_succ_of_lt hlS)
        have hSf : s.heap.objs.size ∉ [(s.heap.push (so w)).objs.size, l] := by
          rw [Heap.size_push]; simp only [List.mem_cons, List.mem_singleton, List.not_mem_nil, or_false, not_or]
          exact ⟨Nat.ne_of_lt (Nat.lt_succ_self _), Nat.ne_of_gt hlS⟩
        have hval : ∀ (i : Nat) (v : Value), items[i]? = some v → ∃ p, ks[i]? = some p ∧ v = .ref p.1 := fun i v hv => by
          have q : items.toList[i]? = some v := by rw [Array.getElem?_toList]; exact hv
          rw [hit, List.getElem?_map] at q
          cases hq : ks[i]? with
          | none => rw [hq] at q; cases q
          | some p =>
            rw [hq] at q
            exact ⟨p, rfl, (Option.some.inj q).symm⟩
        have none_of : ∀ b, s.heap.objs.size ≤ b → s.heap.get? b = none := fun b hb => by
          cases q : s.heap.get? b with
          | none => rfl
          | some o => exact absurd (Nat.lt_of_lt_of_le (Heap.lt_size q) hb) (Nat.lt_irrefl _)
        refine sb_update ((Walks.list hh3 _ l hneI items).toS) s.heap.objs.size
          hSf ks hisz hfew hval s.heap hk (none_of _ (Nat.le_refl _)) (fun b hb => none_of b (by
            rw [List.mem_singleton.mp hb, Heap.size_push]
            exact Nat.le_succ _)) hu (items.size - 0) 0 _ (by omega) (Nat.zero_le _)
          ⟨⟨_, Heap.get?_push_size _ rfl, rfl, rfl⟩, (hl1.push _)⟩ (fun b o e => Heap.get?_push_of_some _ (Heap.get?_push_of_some _ e)) ?hS0 ?hR
        case hS0 =>
          have hget : ((s.heap.push (so w)).push { cls := .type "list_iterator", data := .fields #[.ref l, .int 0 0] }).get? s.heap.objs.size = some (so w) := Heap.get?_push_of_some _ hS
          exact ⟨[], #[], 0, _, sb_fresh hget, Got.zero ks⟩
        case hR =>
          intro s' L es ep t hm hS' g' hkp
          obtain ⟨h', g2, d', tk', os'⟩ := s'
          have eg : g2 = s.gens := hm.gens
          have ed : d' = s.drawn := hm.drawn
          have eo : os' = s.os := hm.os
          subst eg; subst ed; subst eo
          show wpAny _ _ _ _ _ _
          refine wpAny_pure ?_
          show wpAny _ _ (ret Value.none) _ _ _
          rw [hisz] at g'
          exact wpAny_pure ⟨rfl, h', tk', L, es, ep, t, rfl, hS', g', hkp⟩
      · cases r₂ with
        | error e => exact hr₂
        | ok fl₂ =>
          cases fl₂ with
          | ret r =>
            obtain ⟨rfl, h', tk, L, es, ep, t, rfl, hS', g', hk'⟩ := hr₂
            repeat (any_goals (first | assumption | wp_step))
            exact h _ _ _ _ _ _ hS' g' hk'
          | _ => exact hr₂.elim
    | _ => exact hr.elim
end
end Ct
end
section
set_option Elab.async false
set_option linter.all false
set_option maxRecDepth 100000
set_option maxHeartbeats 8000000
namespace Ct
open PySem PySem.Spec PyProof.Rows L2

/-! ### pairs of ints that stand in the heap -/
def IsP (H : Hp) (v : V) (p : P2) : Prop := ∃ t, v = .ref t ∧ H t = some (.tup [.int p.1, .int p.2])
abbrev Prs (H : Hp) : List V → List P2 → Prop := Paired (IsP H)
theorem IsP.ext {H H' : Hp} {v : V} {p : P2} (h : IsP H v p) (e : Same H H') : IsP H' v p := let ⟨t, a, b⟩ := h; ⟨t, a, e _ _ b⟩
theorem Prs.ext {H H' : Hp} {vs : List V} {ps : List P2} (h : Prs H vs ps) (e : Same H H') : Prs H' vs ps := L2.Paired.mapP h fun _ _ q => q.ext e
theorem Prs.length {H : Hp} {vs : List V} {ps : List P2} (h : Prs H vs ps) : vs.length = ps.length := Paired.length h
theorem Prs.app {H : Hp} : ∀ {vs ws : List V} {ps qs : List P2}, Prs H vs ps → Prs H ws qs → Prs H (vs ++ ws) (ps ++ qs)
  | _, _, _, _, .nil, k => k
  | _, _, _, _, .cons h t, k => .cons h (Prs.app t k)
theorem Prs.get : ∀ {H : Hp} {vs : List V} {ps : List P2} {i : Nat} {v : V}, Prs H vs ps → vs[i]? = some v → ∃ p, ps[i]? = some p ∧ IsP H v p
  | _, _, _, _, _, .nil, e => by simp at e
  | _, _, _, 0, _, .cons r _, e => by simp at e; subst e; exact ⟨_, rfl, r⟩
  | _, _, _, i + 1, v, .cons _ t, e => by
    obtain ⟨p, h1, h2⟩ := Prs.get (i := i) (v := v) t (by simpa using e)
    exact ⟨p, by simpa using h1, h2⟩
/-- which pair a value is -/
def kP (H : Hp) : V → P2
  | .ref t => match H t with
    | some (.tup [.int x, .int y]) => (x, y)
    | _ => (0, 0)
  | _ => (0, 0)
theorem IsP.k {H : Hp} {v : V} {p : P2} (h : IsP H v p) : kP H v = p := by
  obtain ⟨t, rfl, e⟩ := h
  show (match H t with | some (.tup [.int x, .int y]) => (x, y) | _ => (0, 0)) = p
  rw [e]
theorem Prs.map {H : Hp} : ∀ {vs : List V} {ps : List P2}, Prs H vs ps → vs.map (kP H) = ps
  | _, _, .nil => rfl
  | _, _, .cons h t => by rw [List.map_cons, h.k, Prs.map t]
theorem Prs.all {H : Hp} : ∀ {vs : List V} {ps : List P2}, Prs H vs ps → ∀ v ∈ vs, IsP H v (kP H v)
  | _, _, .nil, v, h => by cases h
  | _, _, .cons h t, v, hv => by
    rcases List.mem_cons.mp hv with e | hv
    · rw [e, h.k]; exact h
    · exact Prs.all t v hv
theorem Prs.of {H : Hp} : ∀ {vs : List V}, (∀ v ∈ vs, IsP H v (kP H v)) → Prs H vs (vs.map (kP H))
  | [], _ => .nil
  | v :: vs, h => .cons (h v List.mem_cons_self) (Prs.of fun u hu => h u (List.mem_cons_of_mem _ hu))
def encP (H : Hp) (v : V) : PyData := .tuple [.int (kP H v).1, .int (kP H v).2]
def encI : V → PyData
  | .int i => .int i
  | _ => .int 0
def valI : V → Int
  | .int i => i
  | _ => 0
theorem encI_eq : encI = fun v => PyData.int (valI v) := by
  funext v
  cases v <;> rfl

theorem each_of_paired {R : V → Value → Prop} : ∀ {xs : List V} {us : List Value}, Paired R xs us → PySem.W.EachIs (fun u x => R x u) us xs
  | _, _, .nil => .nil
  | _, _, .cons h t => .cons h (each_of_paired t)
theorem vals_of_each : ∀ {us : List Value} {xs : List V}, PySem.W.EachIs (fun u x => RelV x u) us xs → Vals xs us
  | _, _, .nil => .nil
  | _, _, .cons h t => .cons h (vals_of_each t)
theorem each_and {α β : Type} {R S : α → β → Prop} : ∀ {as : List α} {bs : List β}, PySem.W.EachIs R as bs → (∀ b ∈ bs, ∀ a, R a b → S a b) → PySem.W.EachIs S as bs
  | _, _, .nil, _ => .nil
  | _, _, .cons h t, k => .cons (k _ List.mem_cons_self _ h) (each_and t fun b hb => k b (List.mem_cons_of_mem _ hb))

section
variable {P : Program} {w : World} {A : Around} {E : Value → Shared → Prop} {s : Shared} {X : Cx}

/-- the sorting of a new list of what was gathered -/
theorem sort_tail {β : Type} {vs : List Value} {bs : List β} {enc : β → PyData} {R : Value → β → Prop} {Q : PySem.Fin → Shared → Prop} (e : PySem.W.EachIs R vs bs) (er : PySem.W.EachIs (fun v b => Reads s.heap v (enc b) []) vs bs)
    (hal : PySem.W.AllAlike (bs.map enc)) (hk : PySem.W.Sortable (bs.map enc)) (hL : bs.length ≤ sizeLine) (hu : ∀ b, b ∈ bs → A.units + 1 + (enc b).depth < cLine)
    (h : ∀ h' out, (∀ b o, s.heap.get? b = some o → h'.get? b = some o) → (∃ c, h'.get? s.heap.objs.size = some (seqObj "list" (List.toArray out) c)) → PySem.W.EachIs R out (bs.mergeSort (PySem.W.dataLe false enc)) → Q (.done (.ret (.ref s.heap.objs.size))) { s with heap := h' }) :
    wpAny (model P w) A (do let l ← newList vs; let _ ← holding [l] (call (.builtin "list.sort") [l] []); ret l) Q E s := by
  refine wpAny_bind (wpAny_newList ?_ (by rw [e.length]; exact hL))
  have hoL : (s.heap.push (seqObj "list" vs.toArray 0)).get? s.heap.objs.size = some (seqObj "list" vs.toArray 0) := Heap.get?_push_size _ rfl
  refine wpAny_bind (wpAny_holding (PySem.W.list_sort_data (s := { s with heap := s.heap.push (seqObj "list" vs.toArray 0) }) hoL e
    (er.mono fun v b r => ⟨[], PyProof.Rows.Reads.keeps (fun _ _ q => Heap.get?_push_of_some _ q) r, by simp⟩) hal hk hL hu fun out ho eo => ?_))
  obtain ⟨c, hc⟩ := sortedHeap_at (vs := vs) (out := out.toArray) hoL
  refine wpAny_pure (h _ out (fun b u q => ?_) ⟨c, hc⟩ eo)
  have hlt := Heap.lt_size q
  show (sortedHeap (s.heap.push (seqObj "list" vs.toArray 0)) s.heap.objs.size vs out.toArray).get? b = some u
  rw [sortedHeap_old (Nat.ne_of_lt hlt) (by rw [size_push']; exact Nat.lt_succ_of_lt hlt)]
  exact Heap.get?_push_of_some _ q

/-- encP reads off -/
theorem reads_P {pins : List (Addr × Obj)} {σ : L2.St} {H : Hp} (I : Inv X pins σ H s) {v : Value} {x : V} (r : RelV x v) (h : IsP H x (kP H x)) : Reads s.heap v (encP H x) [] := by
  obtain ⟨t, e, ht⟩ := h
  obtain ⟨_, its, r2, o, ho, hc, n, hd⟩ := I.hok _ _ ht
  obtain ⟨u1, u2, rfl, ⟨t1, rfl⟩, ⟨t2, rfl⟩⟩ := vals2 r2
  subst e
  obtain rfl : v = Value.ref t := r
  exact .tuple ho hc hd (.cons (.int _ _) (.cons (.int _ _) .nil))
theorem sortP_ok {H : Hp} {xs : List V} {ps : List P2} (h : Prs H xs ps) : (xs.mergeSort (PySem.W.dataLe false (encP H))).map (kP H) = psort ps ∧ Prs H (xs.mergeSort (PySem.W.dataLe false (encP H))) (psort ps) := by
  have e1 : (xs.mergeSort (PySem.W.dataLe false (encP H))).map (kP H) = psort ps := by
    unfold psort
    rw [← h.map]
    refine PySem.W.sort_maps (kP H) fun a _ b _ => ?_
    have q := PySem.W.dataLe_ii (β := V) (fun v => (kP H v).1) (fun v => (kP H v).2)
    show PySem.W.dataLe false (fun v => PyData.tuple [.int (kP H v).1, .int (kP H v).2]) a b = leP (kP H a) (kP H b)
    rw [q]
    rfl
  refine ⟨e1, ?_⟩
  rw [← e1]
  exact Prs.of fun v hv => h.all v ((List.mergeSort_perm xs _).mem_iff.mp hv)
theorem alikeP (H : Hp) (xs : List V) : PySem.W.AllAlike (xs.map (encP H)) := PySem.W.AllAlike.of fun a b => by
  unfold encP
  rfl
theorem alikeI (xs : List V) : PySem.W.AllAlike (xs.map encI) := PySem.W.AllAlike.of fun a b => by
  rw [encI_eq]
  rfl
theorem sortableP (H : Hp) (xs : List V) : PySem.W.Sortable (xs.map (encP H)) := PySem.W.Sortable.tuples fun b => ⟨_, _, rfl⟩
theorem sortableI (xs : List V) : PySem.W.Sortable (xs.map encI) := PySem.W.Sortable.others fun b => by
  rw [encI_eq]
  exact ⟨(fun e => by cases e), (fun _ e => by cases e)⟩

/-- the end of every sorted(..) -/
theorem sort_fin {pins : List (Addr × Obj)} {σ : L2.St} {H : Hp} {Q : VK} (I : Inv X pins σ H s) (hu : X.A.units + 64 < cLine) {vs : List Value} {xs : List V} {enc : V → PyData} (rv : Vals xs vs) (hz : xs.length ≤ sizeLine)
    (er : ∀ x ∈ xs, ∀ v, RelV x v → Reads s.heap v (enc x) []) (hal : PySem.W.AllAlike (xs.map enc)) (hk : PySem.W.Sortable (xs.map enc)) (hd : ∀ x, (enc x).depth ≤ 1)
    (q : ∀ p, H p = none → Q (.ref p) (upd H p (.lst (xs.mergeSort (PySem.W.dataLe false enc))))) :
    wpAny (model X.prog X.w) X.A.in1 (do let l ← newList vs; let _ ← holding [l] (call (.builtin "list.sort") [l] []); ret l) (fun fin s' => ∃ v, fin = .done (.ret v) ∧ EP X pins σ Q v s') X.xe s := by
  have ee := each_of_paired rv
  refine sort_tail ee (each_and ee fun x hx v r => er x hx v r) hal hk hz (fun b _ => ?_) fun h' out k ⟨c, hc⟩ eo => ?_
  · have := hd b
    show X.A.units + 1 + 1 + (enc b).depth < cLine
    omega
  · have hn : H s.heap.objs.size = none := I.hok.fresh (Nat.le_refl _)
    exact ⟨_, rfl, .ref s.heap.objs.size, upd H s.heap.objs.size (.lst (xs.mergeSort (PySem.W.dataLe false enc))), I.laid (t' := s.toks) k (Nat.le_refl _) ⟨by rw [List.length_mergeSort]; exact hz, out, c, vals_of_each eo, hc⟩, rfl, q _ hn⟩
theorem depthP (H : Hp) (v : V) : (encP H v).depth ≤ 1 := by
  unfold encP
  simp [PyData.depth, PyData.depthAll]
theorem depthI (v : V) : (encI v).depth ≤ 1 := by
  rw [encI_eq]
  simp [PyData.depth]

/-- sorted(xs), a list of pairs, any length -/
def rSortP (K : PySem.W.Frag) : List V → Hp → VK → Prop := fun vs H Q => ∃ a xs ps, vs = [V.ref a] ∧ SqL K H a xs ∧ Prs H xs ps ∧ ∀ p ys, H p = none → Prs H ys (psort ps) → Q (.ref p) (upd H p (.lst ys))
theorem cr_sortP (hu : X.A.units + 64 < cLine) : CallR X (.builtin "sorted") (rSortP X.K) := by
  intro pins s σ H vs us Q I r h
  obtain ⟨a, xs, ps, rfl, hs, hp, q⟩ := h
  obtain ⟨its, rv, hl, hz⟩ := I.list hs
  rw [Vals.ref1 r]
  refine Calls.call_function_entry kind_sorted plain_sorted entry_sorted (args_sorted1 _) ?_
  unfold Builtin.«sorted»
  refine wpAny_bind (m := checkCount "sorted" 1 1 _) (wpAny_pure ?_)
  refine wpAny_bind (PyProof.Rows.collect_list hl.isList ?_ (by rw [← rv.length]; exact hz))
  have k : ∀ b u, s.heap.get? b = some u → ((s.heap.push (seqObj "list" #[] 0)).update s.heap.objs.size (Obj.mapSeq fun x => x ++ its.toArray)).get? b = some u := fun b u e => by
    have hlt := Heap.lt_size e
    rw [Heap.get?_update_ne _ _ _ _ (Nat.ne_of_lt hlt)]
    exact Heap.get?_push_of_some _ e
  have I1 := I.kept (t' := s.toks) k
  exact sort_fin I1 hu rv hz (fun x hx v r => reads_P I1 r (hp.all x hx)) (alikeP H xs) (sortableP H xs) (depthP H) fun p hn => q p _ hn (sortP_ok hp).2

theorem reads_I {h : Heap} {v : Value} {x : V} {n : Int} (r : RelV x v) (e : x = .int n) : Reads h v (encI x) [] := by
  subst e
  obtain ⟨t, rfl⟩ := r
  exact .int _ _
theorem sortI_ok (ns : List Int) : (ns.map V.int).mergeSort (PySem.W.dataLe false encI) = (isort ns).map V.int := by
  unfold isort
  symm
  refine PySem.W.sort_maps V.int fun a _ b _ => ?_
  rw [encI_eq, PySem.W.dataLe_int]
  rfl
theorem vals_ints : ∀ {us : List Value} {ks : List Int}, IntsAre us ks → Vals (ks.map V.int) us
  | _, _, .nil => .nil
  | _, _, .cons n t h => .cons ⟨t, rfl⟩ (vals_ints h)
/-- sorted(d), d a dict whose keys are ints, any number -/
def rSortD : List V → Hp → VK → Prop := fun vs H Q => ∃ (a : Addr) (kvs : List (Key × V)) (ks : List Int), vs = [.ref a] ∧ Rd H a (.dK kvs) ∧ kvs.map (·.1) = ks.map Sum.inl ∧ ∀ p, H p = none → Q (.ref p) (upd H p (.lst ((isort ks).map V.int)))
theorem cr_sortD (hu : X.A.units + 64 < cLine) (hcalm : X.calm = true) : CallR X (.builtin "sorted") rSortD := by
  intro pins s σ H vs us Q I r q
  obtain ⟨a, kvs, ks, rfl, hd, hks, q⟩ := q
  rw [Vals.ref1 r]
  obtain ⟨z, lo, vs, rel, dd⟩ := dk_rd I.hok hd
  obtain ⟨ep, hat⟩ := dd.dictAt
  have hkeys : vs.map (·.1) = ks.map Sum.inl := rel.keys.symm.trans hks
  have hl : vs.length = ks.length := by
    have e := congrArg List.length hkeys
    rw [List.length_map, List.length_map] at e
    exact e
  have hlk : kvs.length = ks.length := by
    have e := congrArg List.length hks
    rw [List.length_map, List.length_map] at e
    exact e
  have h16 : vs.length ≤ sizeLine := by rw [hl, ← hlk]; exact z
  refine Calls.call_function_entry kind_sorted plain_sorted entry_sorted (args_sorted1 _) ?_
  unfold Builtin.«sorted»
  refine wpAny_bind (m := checkCount "sorted" 1 1 _) (wpAny_pure ?_)
  refine wpAny_bind (PySem.W.kdu_collect (A := X.A.in1) (PySem.W.kdl_dict (knd := mixKind X.prog X.w) (kvs := vs) (ep := ep) lo) (I.ok.hd hcalm) hat h16 fun h' tk acc hk hacc => ?_)
  have hal : acc.toList.length = ks.length := by rw [Array.length_toList, hacc.1, hl]
  have hS : IntsAre acc.toList ks := ints_each hal fun j v e => by
    obtain ⟨k, x, e1, e2⟩ := hacc.2 j v (by rw [← Array.getElem?_toList]; exact e)
    have e3 : (vs.map (·.1))[j]? = some k := by rw [List.getElem?_map, e1]; rfl
    rw [hkeys, List.getElem?_map] at e3
    cases e4 : ks[j]? with
    | none => rw [e4] at e3; cases e3
    | some y =>
      rw [e4] at e3
      have e5 : Sum.inl y = k := Option.some.inj e3
      subst e5
      rcases keyIs_shape (show keyIs (Sum.inl y) v = true from e2) with ⟨i, t, ek, ev⟩ | ⟨z, t, ek, ev⟩
      · cases ek
        exact ⟨y, t, rfl, ev⟩
      · cases ek
  have I1 : Inv X pins σ H { s with heap := h', toks := tk } := I.kept hk
  have rv : Vals (ks.map V.int) acc.toList := vals_ints hS
  refine sort_fin I1 hu rv (by rw [List.length_map, ← hlk]; exact z) (fun x hx v r => ?_) (alikeI _) (sortableI _) depthI fun p hn => ?_
  · obtain ⟨n, _, e⟩ := List.mem_map.mp hx
    exact reads_I r e.symm
  · rw [sortI_ok]
    exact q p hn

/-! ### set(xs), xs a list of pairs; sorted of it -/
def row (p : P2) : List Int := [p.1, p.2]
theorem row_inj {p q : P2} (h : row p = row q) : p = q := by
  unfold row at h
  injection h with h1 h2
  injection h2 with h2 _
  exact P2.ext' h1 h2
structure SB0 (P : Program) (w : World) (h : Heap) (a : Addr) (L : List (Addr × List Int)) : Prop where
  ex : ∃ (es : Array (Int × Value)) (ep : Nat) (t : SetTable), (∃ o, h.get? a = some o ∧ o.ExactSet ∧ o.data = .set es ep t) ∧ es.toList = rowsOf P w L ∧ TB t (L.map fun p => thash P w p.2) ∧ (L.map (·.2)).Nodup ∧ t.plain = true ∧
    (w.params.followText "set-order" = true ∨ t.led = true) ∧ L.length * 5 < t.mask * 3 ∧ L.length < 1229
def SBO (P : Program) (w : World) (a : Addr) (L : List (Addr × List Int)) : HO := .ext fun h => SB0 P w h a L
theorem SB.s0 {h : Heap} {a : Addr} {L : List (Addr × List Int)} {es : Array (Int × Value)} {ep : Nat} {t : SetTable} (R : SB P w h a L es ep t) : SB0 P w h a L :=
  ⟨es, ep, t, R.ob, R.rows, R.tab, R.nd, R.plain, R.led, R.room, R.few⟩
theorem SB0.full {h : Heap} {a : Addr} {L : List (Addr × List Int)} (R : SB0 P w h a L) (ht : ∀ p ∈ L, IsT P w h p.2 p.1) : ∃ es ep t, SB P w h a L es ep t := by
  obtain ⟨es, ep, t, h1, h2, h3, h4, h5, h6, h7, h8⟩ := R.ex
  exact ⟨es, ep, t, h1, h2, h3, h4, ht, h5, h6, h7, h8⟩
theorem SB0.ok {H : Hp} {h : Heap} {a : Addr} {L : List (Addr × List Int)} (R : SB0 P w h a L) : ObjOk P w H h a (SBO P w a L) := by
  have ⟨es, ep, t, ⟨o, ho, r⟩, q⟩ := R.ex
  refine ⟨R, ⟨o, ho⟩, fun h1 h2 p k => ?_⟩
  have ⟨es', ep', t', ⟨o', ho', r'⟩, q'⟩ := SB0.ex p
  exact ⟨es', ep', t', ⟨o', k o' ho', r'⟩, q'⟩
/-- the rows of a list of pairs -/
theorem rows_ex {H : Hp} : ∀ {xs : List V} {ps : List P2}, Prs H xs ps → ∃ ks : List (Addr × List Int), xs = ks.map (fun p => V.ref p.1) ∧ ks.map (·.2) = ps.map row ∧ ∀ k ∈ ks, ∃ p : P2, p ∈ ps ∧ k.2 = row p ∧ H k.1 = some (.tup [.int p.1, .int p.2])
  | _, _, .nil => ⟨[], rfl, rfl, fun _ h => by cases h⟩
  | _, _, .cons (b := p) ⟨t, e, ht⟩ r => by
    obtain ⟨ks, e1, e2, e3⟩ := rows_ex r
    refine ⟨(t, row p) :: ks, by rw [List.map_cons, e, e1], by rw [List.map_cons, List.map_cons, e2], fun k hk => ?_⟩
    rcases List.mem_cons.mp hk with z | z
    · rw [z]; exact ⟨p, List.mem_cons_self, rfl, ht⟩
    · obtain ⟨q, h1, h2, h3⟩ := e3 k z
      exact ⟨q, List.mem_cons_of_mem _ h1, h2, h3⟩
/-- the set at a has just these pairs -/
def SetP (P : Program) (w : World) (H : Hp) (a : Addr) (ps : List P2) : Prop := ∃ L, H a = some (SBO P w a L) ∧ (∀ k ∈ L, ∃ p : P2, p ∈ ps ∧ k.2 = row p ∧ H k.1 = some (.tup [.int p.1, .int p.2])) ∧ ∀ p ∈ ps, row p ∈ L.map (·.2)
def rSetP (K : PySem.W.Frag) (P : Program) (w : World) : List V → Hp → VK → Prop := fun vs H Q => ∃ l xs ps, vs = [V.ref l] ∧ SqL K H l xs ∧ Prs H xs ps ∧ ps.length < 1229 ∧
  ∀ a o, H a = none → SetP P w (upd H a o) a ps → Q (.ref a) (upd H a o)
theorem cr_setP (hc : X.calm = true) (hu : X.A.units + 64 < cLine) : CallR X (.type "set") (rSetP X.K X.prog X.w) := by
  intro pins s σ H vs us Q I r h
  obtain ⟨l, xs, ps, rfl, hl, hp, hf, q⟩ := h
  rw [Vals.ref1 r]
  obtain ⟨ks, e1, e2, e3⟩ := rows_ex hp
  subst e1
  obtain ⟨its, rv, pl, hz⟩ := I.list hl
  have hlen : ks.length = ps.length := by
    have e := congrArg List.length e2
    rw [List.length_map, List.length_map] at e
    exact e
  have hn : H s.heap.objs.size = none := I.hok.fresh (Nat.le_refl _)
  refine sb_call (P := X.prog) (w := X.w) ks (I.ok.hd hc) pl.isList (by simpa using refs_of_vals rv) (fun p hp => ?_) (by omega) (by omega) fun h' tk L es ep t R g k => ?_
  · obtain ⟨q, _, z1, z2⟩ := e3 p hp
    rw [z1]
    exact I.isT (SqT.of z2)
  · refine ⟨.ref s.heap.objs.size, upd H s.heap.objs.size (SBO X.prog X.w s.heap.objs.size L), I.laid (t' := tk) k (Nat.le_refl _) R.s0.ok, rfl, q _ _ hn ⟨L, upd_same, fun p hp => ?_, fun p hp => ?_⟩⟩
    · obtain ⟨q, z0, z1, z2⟩ := e3 p (List.mem_of_mem_take (g.sub p hp))
      exact ⟨q, z0, z1, by rw [upd_ne (ne_of_none z2 hn)]; exact z2⟩
    · have hm : row p ∈ ks.map (·.2) := by rw [e2]; exact List.mem_map.mpr ⟨p, hp, rfl⟩
      obtain ⟨k, hk, ek⟩ := List.mem_map.mp hm
      rw [← ek]
      exact g.all k (by rw [List.take_length]; exact hk)
def rSortS (P : Program) (w : World) : List V → Hp → VK → Prop := fun vs H Q => ∃ a ps, vs = [V.ref a] ∧ SetP P w H a ps ∧ ∀ p ys, H p = none → Prs H ys (pset ps) → Q (.ref p) (upd H p (.lst ys))
theorem cr_sortS (hu : X.A.units + 64 < cLine) (hc : X.calm = true) : CallR X (.builtin "sorted") (rSortS X.prog X.w) := by
  intro pins s σ H vs us Q I r h
  obtain ⟨a, ps, rfl, ⟨L, ha, hL, hps⟩, q⟩ := h
  rw [Vals.ref1 r]
  have R0 : SB0 X.prog X.w s.heap a L := (I.hok a _ ha).1
  obtain ⟨es, ep, t, R⟩ := R0.full fun k hk => by
    obtain ⟨p, _, z1, z2⟩ := hL k hk
    rw [z1]
    exact I.isT (SqT.of z2)
  obtain ⟨o, ho, hex, hd⟩ := R.ob
  have hsz := R.size
  have hfew := R.few
  refine Calls.call_function_entry kind_sorted plain_sorted entry_sorted (args_sorted1 _) ?_
  unfold Builtin.«sorted»
  refine wpAny_bind (m := checkCount "sorted" 1 1 _) (wpAny_pure ?_)
  refine wpAny_bind (collect_set (A := X.A.in1) (I.ok.hd hc) ⟨o, ho, hex.1, hd⟩ R.fits (by unfold scanBound; omega) R.tab.ris R.led fun s1 out k1 hz g1 o1 pm => ?_)
  have hes : es.toList.map (·.2) = L.map fun q => Value.ref q.1 := by
    rw [R.rows]
    unfold rowsOf
    rw [List.map_map] <;> rfl
  rw [hes] at pm
  have I1 : Inv X pins σ H { s with heap := s1.heap, gens := s1.gens, drawn := s1.drawn, toks := s1.toks } := I.call (ch := []) (Un.kept k1) (I.hok.kept k1) (by rw [g1]; exact I.bare) (fun _ z => nomatch z)
  have es1 : s1 = { s with heap := s1.heap, gens := s1.gens, drawn := s1.drawn, toks := s1.toks } := by
    cases s1
    cases s
    cases o1
    rfl
  rw [← es1] at I1
  obtain ⟨xs, hxs⟩ : ∃ xs : List V, xs = out.map bkV := ⟨_, rfl⟩
  have href : ∀ u ∈ out, ∃ b, u = Value.ref b := fun u hu => by
    obtain ⟨q, _, e⟩ := List.mem_map.mp (pm.mem_iff.mp hu)
    exact ⟨_, e.symm⟩
  have rv : Vals xs out := by rw [hxs]; exact bkV_vals href
  have pmx : xs.Perm (L.map fun q => V.ref q.1) := by
    rw [hxs]
    have z := pm.map bkV
    rw [List.map_map] at z
    exact z
  have all : ∀ v ∈ xs, ∃ k ∈ L, ∃ p : P2, p ∈ ps ∧ k.2 = row p ∧ v = .ref k.1 ∧ IsP H v p := fun v hv => by
    obtain ⟨k, hk, e⟩ := List.mem_map.mp (pmx.mem_iff.mp hv)
    obtain ⟨p, z0, z1, z2⟩ := hL k hk
    exact ⟨k, hk, p, z0, z1, e.symm, ⟨k.1, e.symm, z2⟩⟩
  have hP : Prs H xs (xs.map (kP H)) := Prs.of fun v hv => by
    obtain ⟨k, _, p, _, _, _, h⟩ := all v hv
    rw [h.k]
    exact h
  have nd : (xs.map (kP H)).Nodup := by
    have n1 : ((L.map fun q => V.ref q.1).map (kP H)).Nodup := by
      have e : (((L.map fun q => V.ref q.1).map (kP H)).map row) = L.map (·.2) := by
        rw [List.map_map, List.map_map]
        refine List.map_congr_left fun k hk => ?_
        obtain ⟨p, _, z1, z2⟩ := hL k hk
        have : kP H (V.ref k.1) = p := (show IsP H (V.ref k.1) p from ⟨k.1, rfl, z2⟩).k
        show row (kP H (V.ref k.1)) = k.2
        rw [this, z1]
      exact nodup_of_map (f := row) (by rw [e]; exact R.nd)
    exact (pmx.map (kP H)).nodup_iff.mpr n1
  have memb : ∀ p, p ∈ xs.map (kP H) ↔ p ∈ ps := fun p => by
    constructor
    · intro hp
      obtain ⟨v, hv, e⟩ := List.mem_map.mp hp
      obtain ⟨k, _, q, z0, _, _, h⟩ := all v hv
      rw [← e, h.k]
      exact z0
    · intro hp
      obtain ⟨k, hk, e⟩ := List.mem_map.mp (hps p hp)
      have hv : V.ref k.1 ∈ xs := pmx.mem_iff.mpr (List.mem_map.mpr ⟨k, hk, rfl⟩)
      obtain ⟨q, _, z1, z2⟩ := hL k hk
      have eq : q = p := row_inj (z1.symm.trans e)
      refine List.mem_map.mpr ⟨_, hv, ?_⟩
      rw [(show IsP H (V.ref k.1) q from ⟨k.1, rfl, z2⟩).k, eq]
  have hlen : xs.length ≤ sizeLine := by
    rw [pmx.length_eq, List.length_map, sizeLine_eq]
    omega
  refine sort_fin I1 hu rv hlen (fun x hx v r => reads_P I1 r (hP.all x hx)) (alikeP H xs) (sortableP H xs) (depthP H) fun p hn => q p _ hn ?_
  have z := (sortP_ok hP).2
  rw [psort_nodup nd, pset_congr memb] at z
  exact z
end
end Ct
end
section
set_option Elab.async false
set_option linter.all false
set_option maxRecDepth 100000
set_option maxHeartbeats 4000000
/-! Defs that may show lists: the same promises, where no showing is under way. -/
namespace Ct
open PySem PySem.Spec PyProof.Rows L2

structure FnG (P : Program) (w : World) (K : PySem.W.Frag) (mg : Str → Option Value) (base : Heap) (k : Nat) (f : Addr) (fd : FuncData) (ps : List Str) (sp : Sp) : Prop where
  len : ∀ vs H Q E, sp vs H Q E → vs.length = ps.length
  run : ∀ (A : Around) (outer : List Env) (s : Shared) (H : Hp) (args : Args) (us : List Value) (vs : List V) (Q : VK) (E : XK), A.guards = some [] → Room k A → Env0 P w K mg base A outer s H → BindsTo s fd args (ps.zip us) → Vals vs us → sp vs H Q E →
    codeAny (model P w) A (.call (.ref f) args) (CR CX0 outer P w H s Q E) s

section
variable {P : Program} {w : World} {K : PySem.W.Frag} {mg : Str → Option Value} {base : Heap}
theorem fnG_of {k : Nat} {f : Addr} {name qual : Str} {params : Arguments} {body : List Stmt} {scope : Scope} {dV kV doc pm cdv ct oc : Value} {an od : Option Addr}
    {osl : Array (Option Value)} {N ps : List Str} {sp : Sp} (lk : K.lookup f = some ⟨oc, od, .func (PySem.W.fnOf name qual params body scope dV kV doc pm an cdv ct), osl⟩) (hcd : PySem.W.codeIn K cdv qual = true) (S : FnScope N ps scope)
    (len : ∀ vs H Q E, sp vs H Q E → vs.length = ps.length)
    (hbody : ∀ (A : Around) (outer : List Env) (s : Shared) (H : Hp) (vs : List V) (Q : VK) (E : XK), A.guards = some [] → Room k (A.deeper (envOfC qual scope s.heap.objs.size f cdv)) → sp vs H Q E →
      ∃ t, PSs (cxOf CX0 P w K mg base N qual scope f cdv A outer s H E) body t ∧ t { nx := fun _ H' => Q .non H', rt := Q } (start N vs) H) :
    FnG P w K mg base (k + 1) f (PySem.W.fnOf name qual params body scope dV kV doc pm an cdv ct) ps sp := by
  refine ⟨len, fun A outer s H args us vs Q E hgd hr e0 hb r hsp => ?_⟩
  have KX : K.In s.heap := e0.mod.kin.keeps fun b o e => (e0.bs b o e).1
  have lim : s.heap.NoLimit := e0.mod.nolimit.keeps fun b o e => (e0.bs b o e).1
  have hkind : ∀ y ∈ ps.zip us, scope.names.lookup y.1 = some .local ∨ (scope.names.lookup y.1 = some .cell ∧ ((cellsFrom (s.heap.objs.size + 1) scope.names []).lookup y.1).isSome = true) := fun ⟨n, v⟩ hy => by
    rcases S.par n (List.of_mem_zip hy).1 with q | q
    · exact .inl q
    · exact .inr ⟨q, PySem.W.cellsFrom_some _ _ _ (.inl q)⟩
  refine codeAny_call_function hr.depth (KX _ _ lk) rfl S.co S.gen rfl (PySem.W.codeRec_of KX hcd) (hb _ _ _ _ ?_)
  refine wpAny_newFunctionEnv_cells S.kind hkind fun env he s1 x => ?_
  subst he
  refine ⟨lim.keeps x.toInCall.keep, codeAny_func ?_⟩
  obtain ⟨t, ht, hq⟩ := hbody A outer s H vs Q E hgd (hr.deeper _) hsp
  have I := inv_start (CX := CX0) (E := E) S hr.hd e0 (len _ _ _ _ hsp) r x
  refine wpAny_mono (ht.run [] s1 (start N vs) H _ I hq) (fun fl s' hs => ?_) fun e s' hs => hs
  have fin : ∀ {σ' : L2.St} {H' : Hp} {v : V} {u : Value}, Inv (cxOf CX0 P w K mg base N qual scope f cdv A outer s H E) [] σ' H' s' → RelV v u → Q v H' → CE outer P w H s Q u s' :=
    fun {σ' H' v u} J rv q => ⟨v, H', J.os, J.bare, J.base, J.hok, rv, q⟩
  cases fl with
  | ret u =>
    obtain ⟨v, σ', H', J, rv, q⟩ := hs
    exact fin J rv q
  | next =>
    obtain ⟨σ', H', J, q⟩ := hs
    exact fin (v := V.non) (u := Value.none) J rfl q
  | brk => exact hs.elim fun _ h => h.elim fun _ h => h.2.elim
  | cont => exact hs.elim fun _ h => h.elim fun _ h => h.2.elim
/-- a def by its body; hgd: nothing is being shown -/
theorem okG {x qual : Str} {st : Stmt} {f : Addr} {fd : FuncData} {N ps : List Str} {k : Nat} {sp : Sp} (F : Fun K x qual st f fd) (S : FnScope N ps (defScope st)) (len : ∀ vs H Q E, sp vs H Q E → vs.length = ps.length)
    (hbody : ∀ (cdv : Value) (A : Around) (outer : List Env) (s : Shared) (H : Hp) (vs : List V) (Q : VK) (E : XK), (A.deeper (envOfC qual (defScope st) s.heap.objs.size f cdv)).guards = some [] → Room k (A.deeper (envOfC qual (defScope st) s.heap.objs.size f cdv)) → sp vs H Q E →
      ∃ t, PSs (cxOf CX0 P w K mg base N qual (defScope st) f cdv A outer s H E).nox (defBody st) t ∧ t { nx := fun _ H' => Q .non H', rt := Q } (start N vs) H) : FnG P w K mg base (k + 1) f fd ps sp := by
  obtain ⟨oc, od, kV, doc, pm, an, cdv, ct, osl, rfl, lk, hcd⟩ := F.ex
  refine fnG_of lk hcd S len fun A outer s H vs Q E hgd hr hsp => ?_
  obtain ⟨t, h, q⟩ := hbody cdv A outer s H vs Q E hgd hr hsp
  exact ⟨t, h.nox, q⟩
end
section
variable {X : Cx}
theorem pe_callG {k : Nat} {f : Addr} {fd : FuncData} {ps : List Str} {sp : Sp} {x : Str} {p pos : Pos} {e : Expr} {es : List Expr} {t : TA} (F : FnG X.prog X.w X.K X.mg X.base k f fd ps sp) (hgd : X.A.guards = some []) (hr : Room k X.A) (hg : Gl X x) (hm : X.mg x = some (.ref f))
    (hk : PySem.W.keepIn X.K (.ref f) = true) (hb : Binds X.K fd ps []) (ha : PA X (e :: es) t) (hdb : (x == ("__debug__" : Str)) = false := by decide)
    (he : starEach (e :: es) X.env = (false, eval e X.env) :: starEach es X.env := by rfl) (hpl : (backTo pos (starEach es X.env)).any (·.1) = false := by rfl) :
    PE X (.Call (.Name x p) (e :: es) [] pos) (tCall sp [] E0 t) := by
  refine ⟨fun pins s σ H Q I h => ?_⟩
  refine wpAny_Call_Name_kw (ld_glob I hg hm ?_ hdb)
  refine PySem.W.callWith_K (h₀ := X.base) I.ok.mod.kin hk (thn (ha.run pos pins s σ H _ I h) fun us s1 ⟨vs, H1, I1, r, q⟩ => ⟨I1.kIn, ?_⟩) he hpl
  have r2 : Vals (vs ++ []) us := by rw [List.append_nil]; exact r
  have hl : us.length = ps.length := by rw [← r2.length]; exact F.len _ _ _ _ q
  have hb' := hb s1 us I1.kIn (by rw [List.append_nil]; exact hl)
  rw [List.append_nil] at hb'
  refine wpAny_call (codeAny_mono (F.run X.A X.stack s1 H1 ⟨us, []⟩ us (vs ++ []) Q E0 hgd hr I1.env0 hb' r2 q) fun r s' hq => ?_)
  cases r with
  | error e => exact False.elim hq
  | ok fl =>
    cases fl with
    | ret u => exact I1.after hq
    | next => exact False.elim hq
    | brk => exact False.elim hq
    | cont => exact False.elim hq

/-- repr(x), x data -/
def rRepr (K : PySem.W.Frag) : List V → Hp → VK → Prop := fun xs H Q => ∃ x d, xs = [x] ∧ Dp K H x d ∧ d.showable = true ∧ d.hasDict = false ∧ d.depth ≤ 60 ∧ d.shown.length ≤ sizeLine ∧ Q (.str d.shown) H
theorem cr_repr (hgd : X.A.guards = some []) (hu : X.A.units + 64 < cLine) : CallR X (.builtin "repr") (rRepr X.K) := by
  intro pins s σ H xs us Q I r h
  obtain ⟨x, d, rfl, hd, hs, hn, hdep, hz, q⟩ := h
  obtain ⟨u, rfl, ru⟩ := vals1 r
  obtain ⟨as, rd⟩ := Dp.reads I d x u hd ru
  have flat : ∀ tk, EP X pins σ Q (.str d.shown tk) { s with toks := s.toks + 1 } := fun tk => ⟨.str d.shown, H, I.tok _, ⟨tk, rfl⟩, q⟩
  cases rd with
  | none => exact PySem.P.repr_of_none (flat _)
  | bool b => exact PySem.P.repr_of_bool (flat _)
  | int i t => exact PySem.P.repr_of_int (by simpa [PyData.showable] using hs) (flat _)
  | str y t => exact PySem.P.repr_of_str (flat _) hz
  | list h1 h2 h3 h4 =>
    exact repr_of_reads' (.list h1 h2 h3 h4) hs (PyData.noDict_hsm hn) hgd (by omega) (fun _ _ e => e) (fun h' u tk k => ⟨.str _, H, I.kept k, ⟨u, rfl⟩, q⟩) hz
  | tuple h1 h2 h3 h4 =>
    exact repr_of_reads' (.tuple h1 h2 h3 h4) hs (PyData.noDict_hsm hn) hgd (by omega) (fun _ _ e => e) (fun h' u tk k => ⟨.str _, H, I.kept k, ⟨u, rfl⟩, q⟩) hz
  | dict h1 h2 h3 h4 h5 => cases hn
end
end Ct
end
section
set_option Elab.async false
set_option linter.all false
set_option maxRecDepth 100000
set_option maxHeartbeats 4000000
namespace Ct
open PySem PySem.Spec PyProof.Rows L2

/-- the law's call behind the top, for a law whose defs may show lists -/
theorem law_callG {P : Program} {w : World} {K : PySem.W.Frag} {mg mb : Str → Option Value} {k : Nat} {fa a : Addr} {fd : FuncData} {x : Str} {sp : Sp} {s1 : Shared} {vs : List Value} {ns : List Int}
    (KX : K.In s1.heap) (hns : s1.heap.Ns mainGlobals mg) (hb : s1.heap.Ns builtinsNs mb) (hbb : ∀ x : Str, x ≠ "__name__" → mb x = bootBuiltins x) (hlim : s1.heap.NoLimit) (hg : s1.gens = #[])
    (ha : s1.heap.get? a = some { cls := .type "list", data := .seq vs.toArray }) (hi : IntsAre vs ns) (hl : ns.length ≤ sizeLine) (hr : Room k callerA)
    (F : ∀ base : Heap, K.In base → base.Ns mainGlobals mg → FnG P w K mg base k fa fd [x] sp) (hbind : ∀ (s : Shared) (u : Value), BindsTo s fd ⟨[u], []⟩ [(x, u)])
    (hsp : ∀ H : Hp, Only H → SqL K H a (ns.map V.int) → sp [.ref a] H (fun v _ => v = .bl true) fun _ _ _ => False) :
    codeAny (model P w) callerA (.call (.ref fa) ⟨[.ref a], []⟩) (fun r s' => r = .ok (.ret (.bool true)) ∧ OldK s1.heap s'.heap ∧ s'.os = s1.os ∧ AllBare s'.gens) s1 := by
  have rv : Vals (ns.map V.int) vs := L2.vals_ints hi
  have core : ∀ H : Hp, Only H → SqL K H a (ns.map V.int) → HOk P w H s1.heap → (∀ b, H b ≠ none → b = a) → (H a ≠ none → K.lookup a = none) →
      codeAny (model P w) callerA (.call (.ref fa) ⟨[.ref a], []⟩) (fun r s' => r = .ok (.ret (.bool true)) ∧ OldK s1.heap s'.heap ∧ s'.os = s1.os ∧ AllBare s'.gens) s1 := by
    intro H hO hS hok hA hK
    have noneOf : ∀ {b : Addr}, b ≠ a → H b = none := fun {b} hb => Classical.byContradiction fun q => hb (hA b q)
    have noA : ∀ {b : Addr} {o : Obj} {es : Array DictEntry} {ep : Nat}, s1.heap.get? b = some o → o.data = .dict es ep → H b = none := fun {b o es ep} e d => noneOf fun eb => by
      subst eb
      rw [ha] at e
      cases e
      have d' : Data.seq vs.toArray _ = Data.dict es ep := d
      cases d'
    have nsK : ∀ {b : Addr} {m : Str → Option Value}, s1.heap.Ns b m → (hidT s1.heap H).Ns b m := fun {b m} ⟨o, es, ep, e, d, r⟩ => ⟨o, es, ep, hidT_get e (noA e d), d, r⟩
    have hKb : K.In (hidT s1.heap H) := fun b o e => hidT_get (KX b o e) (by
      cases q : H b with
      | none => rfl
      | some u =>
        have e' : b = a := hA b (by rw [q]; simp)
        subst e'
        rw [hK (by rw [q]; simp)] at e
        cases e)
    have hM : Mod K mg (hidT s1.heap H) := ⟨hKb, nsK hns, ⟨mb, nsK hb, hbb⟩, let ⟨mc, h1, h2⟩ := hlim; ⟨mc, nsK h1, h2⟩⟩
    have e0 : Env0 P w K mg (hidT s1.heap H) callerA [] s1 H := ⟨rfl, hM, fun b o e => of_hidT e, Nat.le_of_eq (hidT_size _ _), trivial, fun b hb => absurd (show b ∈ ([] : List Addr) from hb) (by simp), hok, .of_eq hg⟩
    refine codeAny_mono ((F _ hKb (nsK hns)).run callerA [] s1 H ⟨[.ref a], []⟩ [.ref a] [.ref a] _ _ rfl hr e0 (hbind s1 (.ref a)) (.cons rfl .nil) (hsp H hO hS)) fun r s' h => ?_
    cases r with
    | error e => exact False.elim h
    | ok fl =>
      cases fl with
      | next => exact False.elim h
      | brk => exact False.elim h
      | cont => exact False.elim h
      | ret u =>
        obtain ⟨v, H', os, bare, un, hok', r', q⟩ := h
        obtain rfl : v = .bl true := q
        obtain rfl : u = Value.bool true := r'
        refine ⟨rfl, OldK.of_keep fun b o e => ?_, os, bare⟩
        rcases hO b with z | ⟨ob, xs, z⟩
        · exact un.keep b o e z (by intro y; exact absurd (show b ∈ ([] : List Addr) from y) (by simp)) (by simp)
        · obtain ⟨e1, _⟩ := hok b _ z
          obtain ⟨e2, _⟩ := hok' b _ (un.frzs b ob _ z)
          rw [e] at e1
          cases e1
          exact e2
  cases hk : K.lookup a with
  | some o =>
    have e := KX a o hk
    rw [ha] at e
    cases e
    refine core (fun _ => none) (fun _ => .inl rfl) (.inr ⟨_, vs.toArray, _, hk, rfl, rfl, rfl, by rw [List.size_toArray, hi.length]; exact hl, by simpa using rv⟩) (fun b u z => by cases (show (none : Option HO) = some u from z)) (fun b z => absurd rfl z) fun z => absurd rfl z
  | none =>
    refine core (fun b => if b = a then some (.frz { cls := .type "list", data := .seq vs.toArray } (.lst (ns.map V.int))) else none) (fun b => ?_) (.inl (.inr ⟨{ cls := .type "list", data := .seq vs.toArray }, if_pos rfl⟩)) (fun b u z => ?_) (fun b z => ?_) fun _ => hk
    · by_cases hb : b = a
      · exact .inr ⟨_, _, if_pos hb⟩
      · exact .inl (if_neg hb)
    · by_cases hb : b = a
      · have z' := (if_pos hb).symm.trans z
        cases z'
        subst hb
        exact ⟨ha, by rw [List.length_map]; exact hl, vs, _, rv, ha⟩
      · have z' := (if_neg hb).symm.trans z
        cases z'
    · by_cases hb : b = a
      · exact hb
      · exact absurd (if_neg hb) z

theorem walk_ofG {l : PySem.W.OpenLaw} {n k : Nat} {q : Program} {loose : List Str} {XP : (Str → Option Value) → Heap → Prop} {YP : World → Heap → Prop} {d : DefRec} {K : Params → PySem.W.Frag} {sp : PySem.W.Frag → Sp} {x : Str}
    (hn : l.most = some n) (hn2 : n ≤ sizeLine) (hdf : d.params.defaults = []) (hr : Room k callerA)
    (hY : ∀ (w : World) (h : Heap), YP w h → (K w.params).In h)
    (F : ∀ (w : World) (mg : Str → Option Value) (fa : Addr) (h : Heap), (K w.params).In h → h.Ns mainGlobals mg → mg d.name = some (.ref fa) →
      ∃ fd : FuncData, (∀ (s : Shared) (u : Value), BindsTo s fd ⟨[u], []⟩ [(x, u)]) ∧
        ∀ base : Heap, (K w.params).In base → base.Ns mainGlobals mg → FnG l.prog w (K w.params) mg base k fa fd [x] (sp (K w.params)))
    (hsp : ∀ (K : PySem.W.Frag) (H : Hp) (a : Addr) (ns : List Int), ns.length ≤ n → Only H → SqL K H a (ns.map V.int) → sp K [.ref a] H (fun v _ => v = .bl true) fun _ _ _ => False) :
    PySem.W.WalkO q loose XP YP l.row.toRowW d [] (fun f vs => PySem.call f vs) := by
  refine Att.attach_call hn hdf fun w s0 s1 mg mb fa o pm cd doc a vs ns G Y ho hd hcd hmg hobj hints hlen hg => ?_
  have KX := hY w _ Y
  obtain ⟨fd, hb, hF⟩ := F w mg fa _ KX G.T.g hmg
  exact law_callG KX G.T.g G.T.b G.T.builtins G.T.nolimit hg hobj hints (Nat.le_trans hlen hn2) hr hF hb (fun H hO hS => hsp _ H a ns hlen hO hS)
end Ct
end
section
set_option Elab.async false
set_option linter.all false
set_option maxRecDepth 100000
set_option maxHeartbeats 4000000
/-! Readings, one step each. -/
namespace Ct
open PySem PySem.Spec L2
variable {K : PySem.W.Frag} {H H1 H2 H3 : Hp} {σ : L2.St} {Q : VK} {D : Ends} {p q : Addr} {o u : HO} {v x y : V}

/-! ### heaps -/
def But (f : Addr) (H H' : Hp) : Prop := ∀ b o, b ≠ f → H b = some o → H' b = some o
theorem same_upd (hp : H p = none) (e : upd H p o = H2) : Same H H2 := fun b u h => by
  rw [← e, upd_ne (ne_of_none h hp)]
  exact h
theorem upd_at (e : upd H p o = H2) : H2 p = some o := by
  rw [← e]
  exact upd_same
theorem but_upd (e : upd H p o = H2) : But p H H2 := fun b u n h => by
  rw [← e, upd_ne n]
  exact h
theorem Same.but (s : Same H H2) : But p H H2 := fun b u _ h => s b u h
theorem But.trans (a : But p H H1) (b : But p H1 H2) : But p H H2 := fun c u n h => b c u n (a c u n h)
theorem But.rfl' : But p H H := fun _ _ _ h => h
theorem But.free (a : But p H H2) (hp : H2 p = some o) (h : H2 q = none) : H q = none := by
  cases e : H q with
  | none => rfl
  | some u =>
    by_cases c : q = p
    · rw [c, hp] at h
      cases h
    · rw [a q u c e] at h
      cases h
/-- what was changed is new -/
theorem But.same (a : But p H1 H2) (s : Same H H1) (n : H p = none) : Same H H2 := fun b u h => a b u (ne_of_none h n) (s b u h)
theorem ne_lst_tup {xs ys : List V} (h : H p = some (.lst xs)) (h' : H q = some (.tup ys)) : p ≠ q := ne_of h h' (by intro z; cases z)
theorem ne_tup_lst {xs ys : List V} (h : H p = some (.tup ys)) (h' : H q = some (.lst xs)) : p ≠ q := ne_of h h' (by intro z; cases z)

/-- the walk halts here: a heap wants a name -/
def Hold (p : Prop) : Prop := p
theorem hold {p : Prop} (h : p) : Hold p := h
/-! ### statements -/
theorem r_seq {t u : TS} (h : t { D with nx := u D } σ H) : tSeq t u D σ H := h
theorem r_next (h : D.nx σ H) : tNext D σ H := h
theorem r_asg {te : TE} {g : TG} (h : te σ H fun x H1 => g x σ H1 D.nx) : tAsg te g D σ H := h
theorem r_drop {te : TE} (h : te σ H fun _ H1 => D.nx σ H1) : tDrop te D σ H := h
theorem r_ret {te : TE} (h : te σ H D.rt) : tRet te D σ H := h
theorem r_retN (h : D.rt .non H) : tRetN D σ H := h
theorem r_if {c : TT} {t u : TS} (h : c σ H fun b H1 => if b = true then t D σ H1 else u D σ H1) : tIfS c t u D σ H := h
theorem r_name {i : Nat} {k : L2.St → Hp → Prop} (h : k (σ.set i (some v)) H) : gName i v σ H k := h
theorem r_gsub {to ti : TE} {t : TSet} {k : L2.St → Hp → Prop} (h : to σ H fun o H1 => ti σ H1 fun i H2 => t o i v H2 fun H3 => k σ H3) : gSub to ti t v σ H k := h
theorem r_gtup {n : Nat} {t : TGs} {xs : List V} {k : L2.St → Hp → Prop} (h1 : SqT K H p xs) (h2 : xs.length = n) (h : t xs σ H k) : gTup K n t (.ref p) σ H k := ⟨p, xs, rfl, h1, h2, h⟩
theorem r_gcons {t : TG} {u : TGs} {vs : List V} {k : L2.St → Hp → Prop} (h : t v σ H fun σ' H' => u vs σ' H' k) : gCons t u (v :: vs) σ H k := ⟨v, vs, rfl, h⟩
theorem r_gnil {k : L2.St → Hp → Prop} (h : k σ H) : gNil [] σ H k := ⟨rfl, h⟩
theorem r_par {i j : Nat} {ta : TA} (h : ta σ H fun vs H1 => ∃ v w, vs = [v, w] ∧ D.nx ((σ.set i (some v)).set j (some w)) H1) : tPar i j ta D σ H := h
theorem r_par3 {i j l : Nat} {ta : TA} (h : ta σ H fun vs H1 => ∃ u v w, vs = [u, v, w] ∧ D.nx (((σ.set i (some u)).set j (some v)).set l (some w)) H1) : tPar3 i j l ta D σ H := h
theorem r_fldS {ta tv : TE} {f : Str} (h : tv σ H fun y H1 => ta σ H1 fun x H2 => ∃ a C dx fs, x = .ref a ∧ H2 a = some (.ins C dx fs) ∧ Cls K C ∧ NoAttr K C f ∧ fs.length < 1000 ∧ D.nx σ (upd H2 a (.ins C dx (putF f y fs)))) : sFld K ta tv f D σ H := h

/-! ### expressions -/
theorem r_var {i : Nat} (h1 : σ[i]? = some (some v)) (h : Q v H) : tVar i σ H Q := ⟨v, h1, h⟩
theorem r_c (h : Q v H) : tC v σ H Q := h
theorem r_op {r : R2} {ta tb : TE} (h : ta σ H fun x H1 => tb σ H1 fun y H2 => r x y H2 Q) : tOp r ta tb σ H Q := h
theorem r_un {r : V → Hp → VK → Prop} {ta : TE} (h : ta σ H fun x H1 => r x H1 Q) : tUn r ta σ H Q := h
theorem r_i0 {g : Int → Int → V} {i j : Int} (h : Q (g i j) H) : rI0 g (.int i) (.int j) H Q := ⟨i, j, rfl, rfl, h⟩
theorem r_i {C : Int → Int → Prop} {g : Int → Int → V} {i j : Int} (hc : C i j) (h : Q (g i j) H) : rI C g (.int i) (.int j) H Q := ⟨i, j, rfl, rfl, hc, h⟩
/-- a remainder, by its bounds alone -/
theorem r_modB {i j : Int} (hj : 0 < j) (h : ∀ m, 0 ≤ m → m < j → Q (.int m) H) : rI (fun _ j => 0 < j) (fun i j => .int (i % j)) (.int i) (.int j) H Q := ⟨i, j, rfl, rfl, hj, h _ (Int.emod_nonneg _ (by omega)) (Int.emod_lt_of_pos _ hj)⟩
theorem r_u {g : Int → V} {i : Int} (h : Q (g i) H) : rU g (.int i) H Q := ⟨i, rfl, h⟩
theorem r_eq (hs : scal x y = true) (h : Q (.bl (decide (x = y))) H) : rEq x y H Q := ⟨hs, h⟩
theorem r_ne (hs : scal x y = true) (h : Q (.bl (!decide (x = y))) H) : rNe x y H Q := ⟨hs, h⟩
theorem r_test {t : TE} {k : Bool → Hp → Prop} (h : t σ H fun x H' => ∃ c, x = .bl c ∧ k c H') : tTest t σ H k := h
theorem r_b {t : TE} {k : Bool → Hp → Prop} (h : t σ H fun x H' => ∃ c, x = .bl c ∧ k c H') : tB t σ H k := h
theorem r_exb {b : Bool} {k : Bool → Prop} (h : k b) : ∃ c, V.bl b = .bl c ∧ k c := ⟨b, rfl, h⟩
theorem r_and {t u : TT} {k : Bool → Hp → Prop} (h : t σ H fun c H1 => if c = true then u σ H1 k else k false H1) : tAnd t u σ H k := h
theorem r_or {t u : TT} {k : Bool → Hp → Prop} (h : t σ H fun c H1 => if c = true then k true H1 else u σ H1 k) : tOr t u σ H k := h
theorem r_not {t : TT} {k : Bool → Hp → Prop} (h : t σ H fun c H1 => k (!c) H1) : tNot t σ H k := h
theorem r_andV {ta tb : TE} (h : ta σ H fun x H1 => ∃ c, x = .bl c ∧ if c = true then tb σ H1 Q else Q (.bl false) H1) : tAndV ta tb σ H Q := h
theorem r_orV {ta tb : TE} (h : ta σ H fun x H1 => ∃ c, x = .bl c ∧ if c = true then Q (.bl true) H1 else tb σ H1 Q) : tOrV ta tb σ H Q := h
theorem r_notV {ta : TE} (h : ta σ H fun x H1 => ∃ c, x = .bl c ∧ Q (.bl (!c)) H1) : tNotV ta σ H Q := h
theorem r_ifE {t : TT} {ta tb : TE} (h : t σ H fun c H1 => if c = true then ta σ H1 Q else tb σ H1 Q) : tIf t ta tb σ H Q := h
theorem r_chain {r r' : R2} {ta tb tc : TE} (h : ta σ H fun x H1 => tb σ H1 fun y H2 => r x y H2 fun z H3 => ∃ k, z = .bl k ∧ (if k = true then tc σ H3 fun w' H4 => r' y w' H4 Q else Q (.bl false) H3)) : tChain r r' ta tb tc σ H Q := h
theorem r_nilA {k : List V → Hp → Prop} (h : k [] H) : tNil σ H k := h
theorem r_consA {ta : TE} {tr : TA} {k : List V → Hp → Prop} (h : ta σ H fun x H1 => tr σ H1 fun xs H2 => k (x :: xs) H2) : tCons ta tr σ H k := h
theorem r_lst {t : TA} (h : t σ H fun xs H1 => xs.length ≤ sizeLine ∧ ∀ p, H1 p = none → Q (.ref p) (upd H1 p (.lst xs))) : tLst t σ H Q := h
theorem r_tup {t : TA} (h : t σ H fun xs H1 => xs.length ≤ sizeLine ∧ ∀ p, H1 p = none → Q (.ref p) (upd H1 p (.tup xs))) : tTup t σ H Q := h
theorem r_cb {r : List V → Hp → VK → Prop} {t : TA} (h : t σ H fun vs H1 => r vs H1 Q) : tCB r t σ H Q := h
theorem r_call {sp : Sp} {dvs : List V} {E : XK} {t : TA} (h : t σ H fun vs H1 => sp (vs ++ dvs) H1 Q E) : tCall sp dvs E t σ H Q := h
theorem r_fld {ta : TE} {f : Str} (h : ta σ H fun x H1 => ∃ a C dx fs v, x = .ref a ∧ H1 a = some (.ins C dx fs) ∧ Cls K C ∧ NoAttr K C f ∧ fs.lookup f = some v ∧ Q v H1) : tFld K ta f σ H Q := h
theorem r_bm {T : String} {r : V → List V → Hp → VK → Prop} {to : TE} {t : TA} (h : to σ H fun x H1 => tyV K T x H1 ∧ t σ H1 fun xs H2 => r x xs H2 Q) : tBM K T r to t σ H Q := h
theorem r_bm0 {T : String} {r : V → List V → Hp → VK → Prop} {to : TE} (h : to σ H fun x H1 => tyV K T x H1 ∧ r x [] H1 Q) : tBM0 K T r to σ H Q := h
theorem r_lc {wi : TI} {g : TG} {tt : TT} {te : TE} {vs : List Nat} (h : wi σ H fun J H1 => ∀ D, H1 D = none → ∃ W : Nat → Nat → Hp → Prop, (∃ m, W 0 m (upd H1 D (.lst []))) ∧ ∀ i m H, W i m H →
  (J.stop i H ∧ Q (.ref D) H) ∨ (J.go i H ∧ ∃ Nx : Hp → Prop, (∀ H', Nx H' → ∃ m', m' < m ∧ W (i + 1) m' H') ∧ ∀ x H', J.yld i H x H' → g x (wipe σ vs) H' fun σ2 H2 => wipe σ2 vs = wipe σ vs ∧ tt σ2 H2 fun b H3 =>
    if b = true then te σ2 H3 fun y H4 => ∃ acc, H4 D = some (.lst acc) ∧ acc.length < sizeLine ∧ Nx (upd H4 D (.lst (acc ++ [y]))) else Nx H3)) : tLc wi g tt te vs σ H Q := h
theorem r_for {wi : TI} {g : TG} {tb : TS} (h : wi σ H fun J H1 => ∃ W : Nat → Nat → L2.St → Hp → Prop, (∃ m, W 0 m σ H1) ∧ ∀ i m σ H, W i m σ H →
  (J.stop i H ∧ D.nx σ H) ∨ (J.go i H ∧ ∃ N : L2.St → Hp → Prop, (∀ σ' H', N σ' H' → ∃ m', m' < m ∧ W (i + 1) m' σ' H') ∧ ∀ x H', J.yld i H x H' → g x σ H' fun σ2 H2 => tb { D with nx := N, ct := N, bk := D.nx } σ2 H2)) : tFor wi g tb D σ H := h

/-! ### lists -/
theorem r_ixL {xs : List V} {i : Int} (h1 : SqL K H p xs) (h2 : atI xs i = some v) (h : Q v H) : rIxL K (.ref p) (.int i) H Q := ⟨p, xs, i, v, rfl, rfl, h1, h2, h⟩
theorem r_ixT {xs : List V} {i : Int} (h1 : SqT K H p xs) (h2 : atI xs i = some v) (h : Q v H) : rIxT K (.ref p) (.int i) H Q := ⟨p, xs, i, v, rfl, rfl, h1, h2, h⟩
theorem r_setL {xs : List V} {i : Int} {j : Nat} {k : Hp → Prop} (h1 : H p = some (.lst xs)) (h2 : ixN xs.length i = some j) (h : Hold (k (upd H p (.lst (xs.set j v))))) : rSetL (.ref p) (.int i) v H k := ⟨p, xs, i, j, rfl, rfl, h1, h2, h⟩
theorem r_append {xs : List V} (h1 : H p = some (.lst xs)) (h2 : xs.length < sizeLine) (h : Hold (Q .non (upd H p (.lst (xs ++ [y]))))) : rAppend (.ref p) [y] H Q := ⟨p, xs, y, rfl, rfl, h1, h2, h⟩
theorem r_tyL {xs : List V} {C : Prop} (h1 : SqL K H p xs) (h : C) : tyV K "list" (.ref p) H ∧ C := ⟨.inl ⟨rfl, _, h1⟩, h⟩
/-! ### comprehensions over a list -/
theorem r_iList {tl : TE} {R : It → Hp → Prop} (h : tl σ H fun x H1 => ∃ a, x = .ref a ∧ (∃ xs, SqL K H1 a xs) ∧ R (Itl K a) H1) : iList K tl σ H R := h
theorem r_iRng1 {ta : TA} {R : It → Hp → Prop} (h : ta σ H fun vs H1 => ∃ j : Int, vs = [.int j] ∧ -(2 ^ 62) ≤ j ∧ j < 2 ^ 62 ∧ R (Itr 0 j.toNat) H1) : iRng1 ta σ H R := h
theorem r_wipe {σ' : L2.St} {vs : List Nat} {C : Prop} (e : wipe σ vs = wipe σ' vs) (h : C) : wipe σ vs = wipe σ' vs ∧ C := ⟨e, h⟩
theorem r_yes {k : Bool → Hp → Prop} (h : k true H) : tYes σ H k := h
def PvL (H : Hp) (D : Addr) (I : Nat → List V → Hp → Prop) (i : Nat) (G : Hp) : Prop := ∃ acc, G D = some (.lst acc) ∧ acc.length ≤ i ∧ Same H G ∧ H D = none ∧ I i acc G
/-- a comprehension over what x is -/
def LcGo (K : PySem.W.Frag) (x : V) (g : TG) (tt : TT) (te : TE) (vs : List Nat) (σ : L2.St) (H : Hp) (Q : VK) : Prop := ∃ a, x = V.ref a ∧ (∃ xs, SqL K H a xs) ∧ ∀ D, H D = none → ∃ W : Nat → Nat → Hp → Prop, (∃ m, W 0 m (upd H D (.lst []))) ∧ ∀ i m H, W i m H →
      ((Itl K a).stop i H ∧ Q (.ref D) H) ∨ ((Itl K a).go i H ∧ ∃ Nx : Hp → Prop, (∀ H', Nx H' → ∃ m', m' < m ∧ W (i + 1) m' H') ∧ ∀ x H', (Itl K a).yld i H x H' → g x (wipe σ vs) H' fun σ2 H2 => wipe σ2 vs = wipe σ vs ∧ tt σ2 H2 fun b H3 =>
        if b = true then te σ2 H3 fun y H4 => ∃ acc, H4 D = some (.lst acc) ∧ acc.length < sizeLine ∧ Nx (upd H4 D (.lst (acc ++ [y]))) else Nx H3)
theorem r_lcL {tl : TE} {g : TG} {tt : TT} {te : TE} {vs : List Nat} (h : tl σ H fun x H1 => LcGo K x g tt te vs σ H1 Q) : tLc (iList K tl) g tt te vs σ H Q := h
theorem lcL {a : Addr} {xs : List V} {g : TG} {tt : TT} {te : TE} {vs : List Nat} (I : Nat → List V → Hp → Prop) (hl : SqL K H a xs) (h0 : ∀ G, Same H G → I 0 [] G)
    (hs : ∀ i x G D, i < xs.length → xs[i]? = some x → PvL H D I i G → g x (wipe σ vs) G fun σ2 H2 => wipe σ2 vs = wipe σ vs ∧ tt σ2 H2 fun b H3 =>
      if b = true then te σ2 H3 fun y H4 => ∃ acc, H4 D = some (.lst acc) ∧ acc.length < sizeLine ∧ PvL H D I (i + 1) (upd H4 D (.lst (acc ++ [y]))) else PvL H D I (i + 1) H3)
    (hd : ∀ acc G D, Same H G → H D = none → G D = some (.lst acc) → acc.length ≤ xs.length → I xs.length acc G → Q (.ref D) G) : LcGo K (.ref a) g tt te vs σ H Q := by
  refine ⟨a, rfl, ⟨xs, hl⟩, fun D hD => lc_list (K := K) (a := a) (xs := xs) (Qd := fun G => Q (.ref D) G) (fun i G => PvL H D I i G) ?_ (fun i G _ ⟨_, _, _, s, _⟩ => s.seq hl) (fun i x G hx p => ?_) (fun G ⟨acc, h1, h2, h3, _, h5⟩ => hd acc G D h3 hD h1 h2 h5)⟩
  · have s := same_upd (o := .lst []) hD rfl
    exact ⟨[], upd_same, Nat.zero_le _, s, hD, h0 _ s⟩
  · exact hs i x G D (List.getElem?_eq_some_iff.mp hx).1 hx p
/-- a for over what x is -/
def FoGo (K : PySem.W.Frag) (x : V) (g : TG) (tb : TS) (D : Ends) (σ : L2.St) (H : Hp) : Prop := ∃ a, x = V.ref a ∧ (∃ xs, SqL K H a xs) ∧ ∃ W : Nat → Nat → L2.St → Hp → Prop, (∃ m, W 0 m σ H) ∧ ∀ i m σ H, W i m σ H →
  ((Itl K a).stop i H ∧ D.nx σ H) ∨ ((Itl K a).go i H ∧ ∃ N : L2.St → Hp → Prop, (∀ σ' H', N σ' H' → ∃ m', m' < m ∧ W (i + 1) m' σ' H') ∧ ∀ x H', (Itl K a).yld i H x H' → g x σ H' fun σ2 H2 => tb { D with nx := N, ct := N, bk := D.nx } σ2 H2)
theorem r_foL {tl : TE} {g : TG} {tb : TS} (h : tl σ H fun x H1 => FoGo K x g tb D σ H1) : tFor (iList K tl) g tb D σ H := h
theorem foL {a : Addr} {xs : List V} {g : TG} {tb : TS} (hl : SqL K H a xs) (Pv : Nat → L2.St → Hp → Prop) (h0 : Pv 0 σ H) (hk : ∀ i σ H, i ≤ xs.length → Pv i σ H → SqL K H a xs)
    (hs : ∀ i x σ H, i < xs.length → xs[i]? = some x → Pv i σ H → g x σ H fun σ2 H2 => tb { D with nx := Pv (i + 1), ct := Pv (i + 1), bk := D.nx } σ2 H2) (hd : ∀ σ H, Pv xs.length σ H → D.nx σ H) : FoGo K (.ref a) g tb D σ H :=
  ⟨a, rfl, ⟨xs, hl⟩, for_list (K := K) (a := a) (xs := xs) Pv h0 hk (fun i x σ H e p => hs i x σ H (List.getElem?_eq_some_iff.mp e).1 e p) hd⟩
/-- a for over range(n) -/
def RgGo (vs : List V) (g : TG) (tb : TS) (D : Ends) (σ : L2.St) (H : Hp) : Prop := ∃ j : Int, vs = [.int j] ∧ -(2 ^ 62) ≤ j ∧ j < 2 ^ 62 ∧ ∃ W : Nat → Nat → L2.St → Hp → Prop, (∃ m, W 0 m σ H) ∧ ∀ i m σ H, W i m σ H →
  ((Itr 0 j.toNat).stop i H ∧ D.nx σ H) ∨ ((Itr 0 j.toNat).go i H ∧ ∃ N : L2.St → Hp → Prop, (∀ σ' H', N σ' H' → ∃ m', m' < m ∧ W (i + 1) m' σ' H') ∧ ∀ x H', (Itr 0 j.toNat).yld i H x H' → g x σ H' fun σ2 H2 => tb { D with nx := N, ct := N, bk := D.nx } σ2 H2)
theorem r_foR {ta : TA} {g : TG} {tb : TS} (h : ta σ H fun vs H1 => RgGo vs g tb D σ H1) : tFor (iRng1 ta) g tb D σ H := h
theorem foR {j : Int} {g : TG} {tb : TS} (hj : -(2 ^ 62) ≤ j ∧ j < 2 ^ 62) (Pv : Nat → L2.St → Hp → Prop) (h0 : Pv 0 σ H)
    (hs : ∀ i σ H, i < j.toNat → Pv i σ H → g (.int i) σ H fun σ2 H2 => tb { D with nx := Pv (i + 1), ct := Pv (i + 1), bk := D.nx } σ2 H2) (hd : ∀ σ H, Pv j.toNat σ H → D.nx σ H) : RgGo [.int j] g tb D σ H :=
  ⟨j, rfl, hj.1, hj.2, for_range (lo := 0) (n := j.toNat) Pv h0 (fun i σ H hi p => by rw [Int.zero_add]; exact hs i σ H hi p) hd⟩
/-- a turn's end -/
theorem lcT {I : Nat → List V → Hp → Prop} {i : Nat} {acc : List V} {G H4 : Hp} {D' : Addr} (h : G D' = some (.lst acc)) (hl : acc.length ≤ i) (hi : i < sizeLine) (s0 : Same H G) (hD : H D' = none) (s : Same G H4)
    (hI : ∀ H5, But D' H4 H5 → H4 D' = some (.lst acc) → I (i + 1) (acc ++ [y]) H5) : ∃ acc', H4 D' = some (.lst acc') ∧ acc'.length < sizeLine ∧ PvL H D' I (i + 1) (upd H4 D' (.lst (acc' ++ [y]))) := by
  have h4 := s _ _ h
  refine ⟨acc, h4, Nat.lt_of_le_of_lt hl hi, acc ++ [y], upd_same, by rw [List.length_append]; exact Nat.succ_le_succ hl, ?_, hD, hI _ (but_upd rfl) h4⟩
  exact fun b u e => by
    rw [upd_ne (ne_of_none e hD)]
    exact s _ _ (s0 _ _ e)
theorem lcN {I : Nat → List V → Hp → Prop} {i : Nat} {acc : List V} {G H4 : Hp} {D' : Addr} (h : G D' = some (.lst acc)) (hl : acc.length ≤ i) (s0 : Same H G) (hD : H D' = none) (s : Same G H4) (hI : I (i + 1) acc H4) : PvL H D' I (i + 1) H4 :=
  ⟨acc, s _ _ h, Nat.le_succ_of_le hl, s0.trans s, hD, hI⟩
theorem But.ip {f : Addr} {xs : List V} {v : V} {p : P2} (b : But f H H2) (hf : H f = some (.lst xs)) (h : IsP H v p) : IsP H2 v p := by
  obtain ⟨t, e, ht⟩ := h
  exact ⟨t, e, b _ _ (ne_tup_lst ht hf) ht⟩
theorem But.prs {f : Addr} {xs vs : List V} {ps : List P2} (b : But f H H2) (hf : H f = some (.lst xs)) (h : Prs H vs ps) : Prs H2 vs ps := L2.Paired.mapP h fun _ _ q => b.ip hf q
theorem iteB {A B : Prop} {b : Bool} (h1 : b = true → A) (h2 : b = false → B) : if b = true then A else B := by
  cases b
  · rw [if_neg Bool.false_ne_true]; exact h2 rfl
  · rw [if_pos rfl]; exact h1 rfl
theorem iteD {A B : Prop} {c : Prop} [Decidable c] (h1 : c → A) (h2 : ¬ c → B) : if decide c = true then A else B := iteB (fun h => h1 (of_decide_eq_true h)) fun h => h2 (of_decide_eq_false h)
theorem iteNT {A B : Prop} (h : B) : if (!true) = true then A else B := by rw [Bool.not_true]; exact iteF h
theorem iteNF {A B : Prop} (h : A) : if (!false) = true then A else B := by rw [Bool.not_false]; exact iteT h
theorem iteYes {A B : Prop} {c : Prop} [Decidable c] (hc : c) (h : A) : if decide c = true then A else B := by rw [decide_eq_true hc, if_pos rfl]; exact h
theorem iteNo {A B : Prop} {c : Prop} [Decidable c] (hc : ¬ c) (h : B) : if decide c = true then A else B := by rw [decide_eq_false hc, if_neg Bool.false_ne_true]; exact h
theorem iteND {A B : Prop} {c : Prop} [Decidable c] (h1 : ¬ c → A) (h2 : c → B) : if (!decide c) = true then A else B := by
  by_cases h : c
  · rw [decide_eq_true h]; exact iteF (h2 h)
  · rw [decide_eq_false h]; exact iteT (h1 h)
end Ct
end
section
set_option Elab.async false
set_option linter.all false
/-! The greatest claims. -/
namespace Ct
def mxS (k : Int) (m : Int) (p : P2) : Int := if p.1 = k then (if m > p.2 then m else p.2) else m
def mx (l : List P2) (k : Int) : Int := l.foldl (mxS k) 0
theorem mx_snoc (l : List P2) (p : P2) (k : Int) : mx (l ++ [p]) k = if p.1 = k then (if mx l k > p.2 then mx l k else p.2) else mx l k := by
  unfold mx
  rw [List.foldl_append]
  rfl
theorem mx_fold : ∀ (l : List P2) (k m : Int), m ≤ l.foldl (mxS k) m ∧ (∀ p ∈ l, p.1 = k → p.2 ≤ l.foldl (mxS k) m) ∧ (l.foldl (mxS k) m = m ∨ ∃ p ∈ l, p.1 = k ∧ p.2 = l.foldl (mxS k) m)
  | [], k, m => ⟨Int.le_refl _, fun p h => (by cases h), .inl rfl⟩
  | q :: l, k, m => by
    obtain ⟨h1, h2, h3⟩ := mx_fold l k (mxS k m q)
    rw [List.foldl_cons]
    have hm : m ≤ mxS k m q ∧ (q.1 = k → q.2 ≤ mxS k m q) ∧ (mxS k m q = m ∨ (q.1 = k ∧ q.2 = mxS k m q)) := by
      unfold mxS
      split
      · split
        · exact ⟨by omega, fun _ => by omega, .inl rfl⟩
        · rename_i e _
          exact ⟨by omega, fun _ => by omega, .inr ⟨e, rfl⟩⟩
      · rename_i e
        exact ⟨by omega, fun z => absurd z e, .inl rfl⟩
    refine ⟨by omega, fun p hp e => ?_, ?_⟩
    · rcases List.mem_cons.mp hp with z | z
      · rw [z] at e ⊢
        have := hm.2.1 e
        omega
      · exact h2 p z e
    · rcases h3 with e | ⟨p, hp, e1, e2⟩
      · rcases hm.2.2 with z | ⟨z1, z2⟩
        · exact .inl (e.trans z)
        · exact .inr ⟨q, List.mem_cons_self, z1, by rw [e]; exact z2⟩
      · exact .inr ⟨p, List.mem_cons_of_mem _ hp, e1, e2⟩
theorem mx_nn (l : List P2) (k : Int) : 0 ≤ mx l k := (mx_fold l k 0).1
theorem mx_ge {l : List P2} {p : P2} (h : p ∈ l) : p.2 ≤ mx l p.1 := (mx_fold l p.1 0).2.1 p h rfl
theorem mx_is (l : List P2) (k : Int) : mx l k = 0 ∨ ∃ p ∈ l, p.1 = k ∧ p.2 = mx l k := (mx_fold l k 0).2.2
theorem mx_le_of {l m : List P2} (h : ∀ x ∈ l, x ∈ m) (k : Int) : mx l k ≤ mx m k := by
  rcases mx_is l k with e | ⟨p, hp, e1, e2⟩
  · rw [e]; exact mx_nn m k
  · rw [← e2, ← e1]
    exact mx_ge (h p hp)
theorem mx_congr {l m : List P2} (h : ∀ x, x ∈ l ↔ x ∈ m) (k : Int) : mx l k = mx m k :=
  Int.le_antisymm (mx_le_of (fun x => (h x).mp) k) (mx_le_of (fun x => (h x).mpr) k)
/-- for each player the greatest claim, if it is not 0; ascending -/
def gcl (l : List P2) : List P2 := pset ((l.map fun p => (p.1, mx l p.1)).filter fun p => decide (p.2 > 0))
theorem mem_gcl {l : List P2} {x : P2} : x ∈ gcl l ↔ (∃ p ∈ l, p.1 = x.1) ∧ x.2 = mx l x.1 ∧ 0 < x.2 := by
  unfold gcl
  rw [mem_pset, List.mem_filter, List.mem_map]
  constructor
  · rintro ⟨⟨p, hp, e⟩, h⟩
    subst e
    exact ⟨⟨p, hp, rfl⟩, rfl, by simpa using h⟩
  · rintro ⟨⟨p, hp, e⟩, h1, h2⟩
    exact ⟨⟨p, hp, P2.ext' e (by rw [h1, e])⟩, by simpa using h2⟩
theorem gcl_congr {l m : List P2} (h : ∀ x, x ∈ l ↔ x ∈ m) : gcl l = gcl m :=
  ris_ext (ris_pset _) (ris_pset _) fun x => by
    show x ∈ gcl l ↔ x ∈ gcl m
    rw [mem_gcl, mem_gcl, mx_congr h]
    constructor
    · rintro ⟨⟨p, hp, e⟩, r⟩; exact ⟨⟨p, (h p).mp hp, e⟩, r⟩
    · rintro ⟨⟨p, hp, e⟩, r⟩; exact ⟨⟨p, (h p).mpr hp, e⟩, r⟩
theorem gcl_len (l : List P2) : (gcl l).length ≤ l.length := by
  refine Nat.le_trans (pset_len _) (Nat.le_trans (List.length_filter_le _ _) ?_)
  rw [List.length_map]
  exact Nat.le_refl _
/-- the keys ks of l, distinct: what the comprehension over them gives -/
def ofKeys (l : List P2) (ks : List Int) : List P2 := (ks.filter fun k => decide (mx l k > 0)).map fun k => (k, mx l k)
theorem mem_ofKeys {l : List P2} {ks : List Int} (hk : ∀ k, k ∈ ks ↔ ∃ p ∈ l, p.1 = k) {x : P2} : x ∈ ofKeys l ks ↔ x ∈ gcl l := by
  rw [mem_gcl]
  unfold ofKeys
  rw [List.mem_map]
  constructor
  · rintro ⟨k, h, e⟩
    subst e
    obtain ⟨h1, h2⟩ := List.mem_filter.mp h
    exact ⟨(hk k).mp h1, rfl, by simpa using h2⟩
  · rintro ⟨h1, h2, h3⟩
    refine ⟨x.1, List.mem_filter.mpr ⟨(hk _).mpr h1, by rw [← h2]; simpa using h3⟩, P2.ext' rfl h2.symm⟩
theorem nodup_ofKeys {l : List P2} {ks : List Int} (h : ks.Nodup) : (ofKeys l ks).Nodup := by
  unfold ofKeys
  refine List.pairwise_map.mpr (List.Pairwise.imp (fun {a b} hne e => hne ?_) (h.sublist List.filter_sublist))
  exact congrArg Prod.fst e
theorem ofKeys_sorted {l : List P2} {ks : List Int} (h : ks.Nodup) (hk : ∀ k, k ∈ ks ↔ ∃ p ∈ l, p.1 = k) : ofKeys l (isort ks) = gcl l := by
  have nd : (isort ks).Nodup := (isort_perm ks).nodup_iff.mpr h
  refine ris_ext ?_ (ris_pset _) fun x => by
    show x ∈ ofKeys l (isort ks) ↔ x ∈ gcl l
    exact mem_ofKeys (fun k => by rw [(isort_perm ks).mem_iff]; exact hk k)
  unfold ofKeys
  refine List.pairwise_map.mpr ?_
  have pw : (isort ks).Pairwise (fun a b => a < b) := (List.Pairwise.and (isort_le ks) nd).imp fun {a b} ⟨h1, h2⟩ => by omega
  refine List.Pairwise.imp (fun {a b} h => .inl h) (pw.sublist List.filter_sublist)
theorem ofKeys_psort {l : List P2} {ks : List Int} (h : ks.Nodup) (hk : ∀ k, k ∈ ks ↔ ∃ p ∈ l, p.1 = k) : psort (ofKeys l ks) = gcl l := by
  rw [psort_nodup (nodup_ofKeys h)]
  exact ris_ext (ris_pset _) (ris_pset _) fun x => by rw [mem_pset]; exact mem_ofKeys hk
end Ct
end
section
set_option Elab.async false
set_option linter.all false
set_option maxRecDepth 100000
set_option maxHeartbeats 4000000
/-! Operators of own classes: ==, +, len, whatever they answer. -/
namespace Ct
open PySem PySem.Spec PyProof.Rows L2
def pick {α : Type} (ix : List Nat) (xs : List α) : List α := ix.filterMap (xs[·]?)
theorem Vals.pick : ∀ (ix : List Nat) {vs : List V} {us : List Value}, Vals vs us → Vals (Ct.pick ix vs) (Ct.pick ix us)
  | [], _, _, _ => .nil
  | i :: ix, vs, us, r => by
    have ih := Vals.pick ix r
    unfold Ct.pick at *
    cases e : vs[i]? with
    | none => rw [List.filterMap_cons_none e, List.filterMap_cons_none (r.none_of e)]; exact ih
    | some v =>
      obtain ⟨u, eu, ru⟩ := r.get e
      rw [List.filterMap_cons_some e, List.filterMap_cons_some eu]
      exact .cons ru ih
structure Isi (K : PySem.W.Frag) (C : Addr) : Prop where
  ha : PySem.W.findIn K (.ref C) "__class__" = some (some (.builtin "object.__class__"))
  hn : PySem.W.specialIn K (.builtin "object.__class__") "__get__" = some (some (.builtin "getset_descriptor.__get__"))
  htk : PySem.W.takesIn K (.builtin "object.__class__") = some true
  hm : PySem.W.mroIn K C (.type "object") = some true
theorem Isi.ty {K : PySem.W.Frag} {H : Hp} {a C dx : Addr} {fs : List (Str × V)} (h : Isi K C) (cl : Cls K C) (e : H a = some (.ins C dx fs)) : TyX K H (.ref a) (.ref C) := .base (.ins e cl h.ha h.hn h.htk h.hm)
theorem Isi.kit {K : PySem.W.Frag} (C : Addr) : PySem.W.kitOne K (.ref C) (.ref C) = some true := by
  unfold PySem.W.kitOne
  rw [if_pos (by simp)]
section
variable {X : Cx} {n : Nat} {f C : Addr} {fd : FuncData} {ps : List Str} {sp : Sp}
theorem own_run {A : Around} {pins : List (Addr × Obj)} {σ : L2.St} {H : Hp} {s : Shared} {vs : List V} {us : List Value} {Q : VK} (F : FnOk X.prog X.w X.K X.mg X.base CX0 n f fd ps sp) (hb : Binds X.K fd ps []) (hr : Room n A) (hfr : A.frames = X.A.frames)
    (I : Inv X pins σ H s) (r : Vals vs us) (h : sp vs H Q E0) : wpAny (model X.prog X.w) A (call (.ref f) us) (EP X pins σ Q) X.xe s := by
  have e0 : Env0 X.prog X.w X.K X.mg X.base A X.stack s H := by
    have e := I.env0
    exact ⟨by rw [hfr]; exact e.frames, e.mod, e.bs, e.bsz, e.funs, e.frf, e.hok, e.bare⟩
  have hl := F.len _ _ _ _ h
  refine wpAny_call (codeAny_mono (F.run A X.stack s H ⟨us, []⟩ us vs _ E0 hr e0 (by
    have := hb s us I.kIn (by rw [List.append_nil, ← r.length]; exact hl)
    simpa using this) r h) fun r s' hq => ?_)
  cases r with
  | error e => exact False.elim hq
  | ok fl =>
    cases fl with
    | ret w => exact I.after hq
    | next => exact False.elim hq
    | brk => exact False.elim hq
    | cont => exact False.elim hq
/-- x == y of two instances of one class with an own == -/
def rEqO (C : Addr) (sp : Sp) : R2 := fun x y H Q => ∃ a b dx dy fs gs, x = .ref a ∧ y = .ref b ∧ H a = some (.ins C dx fs) ∧ H b = some (.ins C dy gs) ∧ sp [.ref a, .ref b] H (fun v H' => ∃ k, v = .bl k ∧ Q (.bl k) H') E0
theorem op_eqO (F : FnOk X.prog X.w X.K X.mg X.base CX0 n f fd ps sp) (me : Meth X.K C "__eq__" f) (hb : Binds X.K fd ps []) (hr : Room n X.A) : OpR X (compareOp .Eq) (rEqO C sp) := by
  intro pins s σ H x y v u Q I rx ry hq
  obtain ⟨a, b, dx, dy, fs, gs, rfl, rfl, ha, hb', h⟩ := hq
  cases rx
  cases ry
  obtain ⟨mA, J, _⟩ := ins_get I.hok ha
  obtain ⟨mB, J', _⟩ := ins_get I.hok hb'
  obtain ⟨od, J, _⟩ := J.look
  obtain ⟨od', J', _⟩ := J'.look
  obtain ⟨m, hF⟩ := I.fr
  show wpAny (model X.prog X.w) X.A (richCompare .Eq (.ref a) (.ref b)) (EP X pins σ Q) X.xe s
  refine PySem.W.cmp_K (op := .Eq) (tb := .ref C) hr.units0 hF I.ok.mod.kin J J'.type (by simp [PySem.W.notFirst]) me.at_ me.fn ?_
  refine thn (own_run (vs := [V.ref a, V.ref b]) F hb hr rfl I (.cons rfl (.cons rfl .nil)) h) fun w s' ⟨z, H', I', rz, k, ez, q⟩ => ?_
  subst ez
  cases rz
  exact ⟨.bl k, H', I', rfl, q⟩
/-- x + y of two instances of one class with an own + that gives an object -/
def rAddO (C : Addr) (sp : Sp) : R2 := fun x y H Q => ∃ a b dx dy fs gs, x = .ref a ∧ y = .ref b ∧ H a = some (.ins C dx fs) ∧ H b = some (.ins C dy gs) ∧ sp [.ref a, .ref b] H (fun v H' => ∃ k, v = .ref k ∧ Q (.ref k) H') E0
theorem op_addO (F : FnOk X.prog X.w X.K X.mg X.base CX0 n f fd ps sp) (me : Meth X.K C "__add__" f) (sf : PySem.W.selfFirst X.K C = true) (hb : Binds X.K fd ps []) (hr : Room n X.A) : OpR X (binaryOp .Add) (rAddO C sp) := by
  intro pins s σ H x y v u Q I rx ry hq
  obtain ⟨a, b, dx, dy, fs, gs, rfl, rfl, ha, hb', h⟩ := hq
  cases rx
  cases ry
  obtain ⟨mA, J, _⟩ := ins_get I.hok ha
  obtain ⟨mB, J', _⟩ := ins_get I.hok hb'
  obtain ⟨od, J, _⟩ := J.look
  obtain ⟨od', J', _⟩ := J'.look
  obtain ⟨m, hF⟩ := I.fr
  refine PySem.W.binop_K hF I.ok.mod.kin J J'.type sf me.at_ me.fn ?_
  refine thn (own_run (vs := [V.ref a, V.ref b]) F hb hr rfl I (.cons rfl (.cons rfl .nil)) h) fun w s' ⟨z, H', I', rz, k, ez, q⟩ => ?_
  subst ez
  cases rz
  exact ⟨.ref k, H', I', rfl, q⟩
/-- len(x), x an instance with an own __len__ -/
def rLenO (C : Addr) (sp : Sp) : List V → Hp → VK → Prop := fun vs H Q => ∃ a dx fs, vs = [.ref a] ∧ H a = some (.ins C dx fs) ∧ sp [.ref a] H (fun v H' => ∃ k : Int, v = .int k ∧ 0 ≤ k ∧ k < 2 ^ 62 ∧ Q (.int k) H') E0
theorem call_lenO (F : FnOk X.prog X.w X.K X.mg X.base CX0 n f fd ps sp) (me : Meth X.K C "__len__" f) (hb : Binds X.K fd ps []) (hr : Room (n + 1) X.A) : CallR X (.builtin "len") (rLenO C sp) := by
  intro pins s σ H vs us Q I r hq
  obtain ⟨a, dx, fs, rfl, ha, h⟩ := hq
  rw [Vals.ref1 r]
  obtain ⟨mA, J, _⟩ := ins_get I.hok ha
  obtain ⟨od, J, _⟩ := J.look
  obtain ⟨m, hF⟩ := I.fr
  refine PySem.W.len_K hF I.ok.mod.kin J me.at_ me.fn ?_
  refine thn (own_run (vs := [V.ref a]) F hb hr.in1 rfl I (.cons rfl .nil) h) fun w s' ⟨z, H', I', rz, k, ez, k0, k1, q⟩ => ?_
  subst ez
  obtain ⟨t, rfl⟩ := rz
  exact ⟨⟨k0, by omega⟩, .int k, H', I'.tok _, ⟨_, rfl⟩, q⟩
end
end Ct
end
section
set_option Elab.async false
set_option linter.all false
set_option maxRecDepth 100000
/-! The dict of the greatest claims while it is filled; dicts' readings. -/
namespace Ct
open PySem L2
abbrev Ke (k : Int) : Key := Sum.inl k
structure Best (kvs : List (Key × V)) (l : List P2) : Prop where
  keys : ∃ ks : List Int, kvs.map (·.1) = ks.map Sum.inl ∧ ks.Nodup ∧ ∀ k, k ∈ ks ↔ ∃ p ∈ l, p.1 = k
  val : ∀ k : Int, (valV kvs (Ke k)).getD (.int 0) = .int (mx l k)
  has : ∀ k : Int, (∃ p ∈ l, p.1 = k) → valV kvs (Ke k) = some (.int (mx l k))
  no : ∀ k : Int, (¬ ∃ p ∈ l, p.1 = k) → valV kvs (Ke k) = none
  len : kvs.length ≤ l.length
theorem Best.nil : Best [] [] := ⟨⟨[], rfl, List.nodup_nil, fun k => by simp⟩, fun _ => rfl, fun k h => by simp at h, fun _ _ => rfl, Nat.le_refl _⟩
theorem Best.put {kvs : List (Key × V)} {l : List P2} (b : Best kvs l) (p : P2) : Best (putK kvs (Ke p.1) (.int (if mx l p.1 > p.2 then mx l p.1 else p.2))) (l ++ [p]) := by
  have hm : mx (l ++ [p]) p.1 = if mx l p.1 > p.2 then mx l p.1 else p.2 := by rw [mx_snoc, if_pos rfl]
  have hne : ∀ k, k ≠ p.1 → mx (l ++ [p]) k = mx l k := fun k h => by rw [mx_snoc, if_neg (Ne.symm h)]
  have hv : ∀ k : Int, valV (putK kvs (Ke p.1) (.int (if mx l p.1 > p.2 then mx l p.1 else p.2))) (Ke k) = if k = p.1 then some (.int (mx (l ++ [p]) k)) else valV kvs (Ke k) := fun k => by
    rw [valV_put]
    by_cases e : k = p.1
    · subst e
      rw [if_pos rfl, if_pos rfl, hm]
    · rw [if_neg e, if_neg (fun z => e (Sum.inl.inj z))]
  have hex : ∀ k, (∃ q ∈ l ++ [p], q.1 = k) ↔ (∃ q ∈ l, q.1 = k) ∨ k = p.1 := fun k => by
    constructor
    · rintro ⟨q, hq, e⟩
      rcases List.mem_append.mp hq with z | z
      · exact .inl ⟨q, z, e⟩
      · rw [List.mem_singleton.mp z] at e; exact .inr e.symm
    · rintro (⟨q, hq, e⟩ | e)
      · exact ⟨q, List.mem_append_left _ hq, e⟩
      · exact ⟨p, List.mem_append_right _ (List.mem_singleton.mpr rfl), e.symm⟩
  obtain ⟨ks, k1, k2, k3⟩ := b.keys
  refine ⟨?_, fun k => ?_, fun k h => ?_, fun k h => ?_, ?_⟩
  · by_cases c : ∃ q ∈ l, q.1 = p.1
    · refine ⟨ks, ?_, k2, fun k => ?_⟩
      · have ha : (kvs.any fun kv => decide (kv.1 = Ke p.1)) = true := by
          rw [valV_any, b.has _ c] <;> rfl
        unfold putK
        rw [if_pos ha, List.map_map, ← k1]
        refine List.map_congr_left fun kv _ => ?_
        show (if kv.1 = Ke p.1 then (kv.1, _) else kv).1 = kv.1
        split <;> rfl
      · rw [k3, hex]
        constructor
        · exact .inl
        · rintro (h | h)
          · exact h
          · rw [h]; exact c
    · have hn : valV kvs (Ke p.1) = none := b.no _ c
      refine ⟨ks ++ [p.1], ?_, ?_, fun k => ?_⟩
      · rw [putK_new _ hn, List.map_append, k1, List.map_append] <;> rfl
      · refine List.nodup_append.mpr ⟨k2, by simp, fun x hx y hy => ?_⟩
        rw [List.mem_singleton.mp hy]
        intro e
        rw [e] at hx
        exact c ((k3 _).mp hx)
      · rw [List.mem_append, List.mem_singleton, k3, hex]
  · rw [hv]
    by_cases e : k = p.1
    · rw [if_pos e] <;> rfl
    · rw [if_neg e, hne k e]; exact b.val k
  · rw [hv]
    by_cases e : k = p.1
    · rw [if_pos e]
    · rw [if_neg e, hne k e]
      exact b.has k (((hex k).mp h).resolve_right e)
  · rw [hv, if_neg (fun e => h ((hex k).mpr (.inr e)))]
    exact b.no k fun z => h ((hex k).mpr (.inl z))
  · have h1 := length_putK kvs (Ke p.1) (.int (if mx l p.1 > p.2 then mx l p.1 else p.2))
    have h2 := b.len
    rw [List.length_append]
    show _ ≤ l.length + 1
    omega
variable {K : PySem.W.Frag} {H H1 H2 H3 : Hp} {σ : L2.St} {Q : VK} {D : Ends} {p q : Addr} {o u : HO} {v x y : V}
theorem r_dput {td ty tv : TE} (h : tv σ H fun v H1 => td σ H1 fun x H2 => ty σ H2 fun y H3 => ∃ a H4, x = .ref a ∧ DPut H3 a y v H4 ∧ D.nx σ H4) : sDPut td ty tv D σ H := h
theorem e_dput {kvs : List (Key × V)} {n : Int} {N : Hp → Prop} (h1 : H p = some (.dK kvs)) (h2 : kvs.length < sizeLine) (h : Hold (N (upd H p (.dK (putK kvs (Ke n) v))))) : ∃ a H4, V.ref p = .ref a ∧ DPut H a (.int n) v H4 ∧ N H4 := ⟨p, _, rfl, DPut.k (k := Ke n) h1 h2, h⟩
theorem r_dget {td ty : TE} (h : td σ H fun x H1 => ty σ H1 fun y H2 => ∃ a v, x = .ref a ∧ DGet H2 a y (some v) ∧ Q v H2) : tDGet td ty σ H Q := h
theorem e_dget {kvs : List (Key × V)} {n : Int} {N : V → Prop} (h1 : H p = some (.dK kvs)) (h2 : valV kvs (Ke n) = some v) (h : N v) : ∃ a v, V.ref p = .ref a ∧ DGet H a (.int n) (some v) ∧ N v := ⟨p, v, rfl, h2 ▸ DGet.k (k := Ke n) h1, h⟩
theorem r_dget2 {td ty tx : TE} (h : td σ H fun x H1 => ∃ a, x = .ref a ∧ IsD H1 a ∧ ty σ H1 fun y H2 => tx σ H2 fun z H3 => ∃ o, DGet H3 a y o ∧ Q (o.getD z) H3) : tDGet2 td ty tx σ H Q := h
theorem e_isd {kvs : List (Key × V)} {C : Addr → Prop} (h1 : H p = some (.dK kvs)) (h : C p) : ∃ a, V.ref p = .ref a ∧ IsD H a ∧ C a := ⟨p, rfl, .inl ⟨kvs, .inl h1⟩, h⟩
theorem e_dget2 {kvs : List (Key × V)} {n : Int} {N : Option V → Prop} (h1 : H p = some (.dK kvs)) (h : N (valV kvs (Ke n))) : ∃ o, DGet H p (.int n) o ∧ N o := ⟨_, DGet.k (k := Ke n) h1, h⟩
theorem sz64 {n : Nat} (h : Nat.ble n 64 = true) : n ≤ sizeLine := Nat.le_trans (Nat.le_of_ble_eq_true h) (by rw [sizeLine_eq]; decide)
theorem r_star {te : TE} {t : TA} {k : List V → Hp → Prop} (h : te σ H fun x H1 => ∃ p xs, x = V.ref p ∧ (SqT K H1 p xs ∨ SqL K H1 p xs) ∧ t σ H1 fun ys H2 => k (xs ++ ys) H2) : StX.tStar K te t σ H k := h
theorem e_int1 {i : Int} {C : Int → Prop} (h : C i) : ∃ j, [V.int i] = [V.int j] ∧ C j := ⟨i, rfl, h⟩
theorem e_int2 {i j : Int} {C : Int → Int → Prop} (h : C i j) : ∃ i' j', [V.int i, V.int j] = [V.int i', V.int j'] ∧ C i' j' := ⟨i, j, rfl, h⟩
theorem e_two {C : V → V → Prop} (h : C x y) : ∃ v w, [x, y] = [v, w] ∧ C v w := ⟨x, y, rfl, h⟩
theorem e_lenL {xs : List V} {C : Addr → List V → Prop} (h1 : SqL K H p xs) (h : C p xs) : ∃ q ys, [V.ref p] = [V.ref q] ∧ (SqL K H q ys ∨ SqT K H q ys) ∧ C q ys := ⟨p, xs, rfl, .inl h1, h⟩
theorem e_lenT {xs : List V} {C : Addr → List V → Prop} (h1 : SqT K H p xs) (h : C p xs) : ∃ q ys, [V.ref p] = [V.ref q] ∧ (SqL K H q ys ∨ SqT K H q ys) ∧ C q ys := ⟨p, xs, rfl, .inr h1, h⟩
theorem r_popAt {xs : List V} {i : Int} {k : Nat} (h1 : H p = some (.lst xs)) (h2 : -(2 ^ 63) ≤ i ∧ i < 2 ^ 63) (h3 : seqIndex? i xs.length = some k) (h4 : xs[k]? = some y) (h : Hold (Q y (upd H p (.lst (xs.eraseIdx k))))) : rPopAt (.ref p) [.int i] H Q := ⟨p, xs, i, k, y, rfl, rfl, h1, h2.1, h2.2, h3, h4, h⟩
theorem r_dnew (h : ∀ p, H p = none → Q (.ref p) (upd H p (.dK []))) : tDNewK σ H Q := h
end Ct
end
section
set_option Elab.async false
set_option linter.all false
set_option maxRecDepth 100000
/-! Lists of pairs as data: ==, repr. -/
namespace Ct
open PySem L2
/-- a new list of pairs -/
def PL (H : Hp) (l : Addr) (ps : List P2) : Prop := ∃ xs, H l = some (.lst xs) ∧ Prs H xs ps
theorem PL.ext {H H' : Hp} {l : Addr} {ps : List P2} (h : PL H l ps) (e : Same H H') : PL H' l ps := let ⟨xs, a, b⟩ := h; ⟨xs, e _ _ a, b.ext e⟩
abbrev dP (p : P2) : PyData := PySem.W.Datum.toD p
def dL (ps : List P2) : PyData := .list (ps.map dP)
def dLL (qs : List (List P2)) : PyData := .list (qs.map dL)
variable {K : PySem.W.Frag} {H : Hp}
theorem IsP.dp {v : V} {p : P2} (h : IsP H v p) : Dp K H v (dP p) := by
  obtain ⟨t, rfl, ht⟩ := h
  exact .tup (SqT.of ht) (.cons (.int _) (.cons (.int _) .nil))
theorem Prs.dp : ∀ {vs : List V} {ps : List P2}, Prs H vs ps → DpAll K H vs (ps.map dP)
  | _, _, .nil => .nil
  | _, _, .cons h t => .cons h.dp (Prs.dp t)
theorem PL.dp {l : Addr} {ps : List P2} (h : PL H l ps) : Dp K H (.ref l) (dL ps) := by
  obtain ⟨xs, h1, h2⟩ := h
  exact .lst (SqL.of h1) h2.dp
theorem dL_eqv (ps qs : List P2) : PyData.eqv (dL ps) (dL qs) = decide (ps = qs) := PySem.W.Datum.eqv ps qs
theorem canP : ∀ ps : List P2, PyData.canLayAll0 (ps.map dP) = true
  | [] => rfl
  | p :: ps => by
    show (PyData.canLay0 (dP p) && PyData.canLayAll0 (ps.map dP)) = true
    rw [canP ps]
    rfl
theorem dL_depth (ps : List P2) : (dL ps).depth ≤ 2 := PySem.W.Datum.depth_le ps
theorem dL_shaped (ps : List P2) : SeqAt.shaped (dL ps) = true := by
  unfold SeqAt.shaped
  have h1 : (dL ps).canLay0 = true := by
    show PyData.canLayAll0 _ = true
    exact canP ps
  have h2 := dL_depth ps
  rw [h1, decide_eq_true (by omega)]
  rfl
/-- a pair of small numbers -/
def Sm (p : P2) : Prop := 0 ≤ p.1 ∧ p.1 < 64 ∧ 0 ≤ p.2 ∧ p.2 < 64
theorem small_log {i : Int} (h0 : 0 ≤ i) (h : i < 64) : i.natAbs.log2 < 6 := by
  by_cases e : i.natAbs = 0
  · rw [e]; decide
  · exact (Nat.log2_lt e).mpr (by omega)
theorem small_show {i : Int} (h0 : 0 ≤ i) (h : i < 64) : (PyData.shown (.int i)).length ≤ 8 := by
  have e := int_text_length_le (a := i) (k := 6) (by decide) (small_log h0 h)
  show (Str.ofString (toString i)).length ≤ 8
  rw [PySem.ofString_length]
  omega
theorem small_weight {i : Int} (h0 : 0 ≤ i) (h : i < 64) : (PyData.int i).weight ≤ 6 := by
  show (if i == 0 then 0 else i.natAbs.log2 + 1) ≤ 6
  have := small_log h0 h
  split <;> omega
theorem dP_weight {p : P2} (h : Sm p) : (dP p).weight ≤ 14 := by
  have h1 := small_weight h.1 h.2.1
  have h2 := small_weight h.2.2.1 h.2.2.2
  show (PyData.int p.1).weight + 1 + ((PyData.int p.2).weight + 1 + 0) ≤ 14
  omega
theorem dL_weight : ∀ {ps : List P2}, (∀ p ∈ ps, Sm p) → (dL ps).weight ≤ 15 * ps.length
  | [], _ => Nat.le_refl _
  | p :: ps, h => by
    have h1 := dP_weight (h p List.mem_cons_self)
    have h2 := dL_weight (ps := ps) fun q hq => h q (List.mem_cons_of_mem _ hq)
    have e : (dL (p :: ps)).weight = (dP p).weight + 1 + (dL ps).weight := rfl
    rw [e, List.length_cons]
    omega
theorem dP_short {p : P2} (h : Sm p) : PyData.leavesShort 8 (dP p) = true := by
  show (decide ((PyData.shown (.int p.1)).length ≤ 8) && (decide ((PyData.shown (.int p.2)).length ≤ 8) && true)) = true
  rw [decide_eq_true (small_show h.1 h.2.1), decide_eq_true (small_show h.2.2.1 h.2.2.2)]
  rfl
theorem dL_short : ∀ {ps : List P2}, (∀ p ∈ ps, Sm p) → PyData.leavesShort 8 (dL ps) = true
  | [], _ => rfl
  | p :: ps, h => by
    show (PyData.leavesShort 8 (dP p) && PyData.leavesShort 8 (dL ps)) = true
    rw [dP_short (h p List.mem_cons_self), dL_short (ps := ps) fun q hq => h q (List.mem_cons_of_mem _ hq)]
    rfl
theorem dP_showable {p : P2} (h : Sm p) : (dP p).showable = true := by
  show (decide (p.1.natAbs.log2 < 1920) && (decide (p.2.natAbs.log2 < 1920) && true)) = true
  have h1 := small_log h.1 h.2.1
  have h2 := small_log h.2.2.1 h.2.2.2
  rw [decide_eq_true (by omega), decide_eq_true (by omega)]
  rfl
theorem dL_showable : ∀ {ps : List P2}, (∀ p ∈ ps, Sm p) → (dL ps).showable = true
  | [], _ => rfl
  | p :: ps, h => by
    show ((dP p).showable && (dL ps).showable) = true
    rw [dP_showable (h p List.mem_cons_self), dL_showable (ps := ps) fun q hq => h q (List.mem_cons_of_mem _ hq)]
    rfl
theorem dL_noDict : ∀ (ps : List P2), (dL ps).hasDict = false
  | [] => rfl
  | p :: ps => by
    show ((dP p).hasDict || (dL ps).hasDict) = false
    rw [dL_noDict ps]
    rfl
/-- two lists of pairs in a list: fit for repr -/
def ShowsD (d : PyData) : Prop := d.showable = true ∧ d.hasDict = false ∧ d.depth ≤ 60 ∧ d.shown.length ≤ sizeLine
theorem two_shows {ps qs : List P2} (hp : ∀ p ∈ ps, Sm p) (hq : ∀ p ∈ qs, Sm p) (h1 : ps.length ≤ 1000) (h2 : qs.length ≤ 1000) : ShowsD (.list [dL ps, dL qs]) := by
  refine ⟨?_, ?_, ?_, PyData.shown_fits (B := 8) (by decide) (by decide) ?_ ?_⟩
  · show ((dL ps).showable && ((dL qs).showable && true)) = true
    rw [dL_showable hp, dL_showable hq]
    rfl
  · show ((dL ps).hasDict || ((dL qs).hasDict || false)) = false
    rw [dL_noDict, dL_noDict]
    rfl
  · show max (dL ps).depth (max (dL qs).depth 0) + 1 ≤ 60
    have e1 := dL_depth ps
    have e2 := dL_depth qs
    omega
  · show (PyData.leavesShort 8 (dL ps) && (PyData.leavesShort 8 (dL qs) && true)) = true
    rw [dL_short hp, dL_short hq]
    rfl
  · show (dL ps).weight + 1 + ((dL qs).weight + 1 + 0) ≤ 2 ^ 20
    have e1 := dL_weight hp
    have e2 := dL_weight hq
    omega
theorem two_dp {t l m : Addr} {ps qs : List P2} (h : H t = some (.lst [.ref l, .ref m])) (hl : PL H l ps) (hm : PL H m qs) : Dp K H (.ref t) (.list [dL ps, dL qs]) := .lst (SqL.of h) (.cons hl.dp (.cons hm.dp .nil))
theorem Prs.erase {H : Hp} : ∀ {vs : List V} {ps : List P2} (j : Nat), Prs H vs ps → Prs H (vs.eraseIdx j) (ps.eraseIdx j)
  | _, _, _, .nil => .nil
  | _, _, 0, .cons _ t => t
  | _, _, j + 1, .cons h t => .cons h (Prs.erase j t)
theorem erase_perm : ∀ {ls : List P2} {j : Nat} {p : P2}, ls[j]? = some p → (p :: ls.eraseIdx j).Perm ls
  | [], _, _, h => by cases h
  | x :: ls, 0, p, h => by
    cases h
    exact .refl _
  | x :: ls, j + 1, p, h => (List.Perm.swap x p _).trans (.cons x (erase_perm (ls := ls) (j := j) h))
theorem shuffle_perm {ls fs ps : List P2} {j : Nat} {p : P2} (h : ls[j]? = some p) (e : (ls ++ fs).Perm ps) : (ls.eraseIdx j ++ (fs ++ [p])).Perm ps := by
  refine List.Perm.trans ?_ e
  rw [← List.append_assoc]
  refine List.perm_append_comm.trans ?_
  show (p :: (ls.eraseIdx j ++ fs)).Perm (ls ++ fs)
  rw [← List.cons_append]
  exact (erase_perm h).append_right fs
/-- a change of what is new -/
theorem But.ins {f m : Addr} {H G G' : Hp} (b : But f H G) (n : H m = none) (c : But m G G') : But f H G' := fun x o hx e => c x o (ne_of_none e n) (b x o hx e)
end Ct
end
section
set_option Elab.async false
set_option linter.all false
set_option maxRecDepth 100000
/-! Comprehensions over a dict's keys, the dict under a lock. -/
namespace Ct
open PySem L2
variable {K : PySem.W.Frag} {H H1 H2 H3 : Hp} {σ : L2.St} {Q : VK} {D : Ends} {p q : Addr} {o u : HO} {v x y : V}
def LcR (g : TG) (tt : TT) (te : TE) (vs : List Nat) (σ : L2.St) (Q : VK) (J : It) (H1 : Hp) : Prop := ∀ D, H1 D = none → ∃ W : Nat → Nat → Hp → Prop, (∃ m, W 0 m (upd H1 D (.lst []))) ∧ ∀ i m H, W i m H →
  (J.stop i H ∧ Q (.ref D) H) ∨ (J.go i H ∧ ∃ Nx : Hp → Prop, (∀ H', Nx H' → ∃ m', m' < m ∧ W (i + 1) m' H') ∧ ∀ x H', J.yld i H x H' → g x (wipe σ vs) H' fun σ2 H2 => wipe σ2 vs = wipe σ vs ∧ tt σ2 H2 fun b H3 =>
    if b = true then te σ2 H3 fun y H4 => ∃ acc, H4 D = some (.lst acc) ∧ acc.length < sizeLine ∧ Nx (upd H4 D (.lst (acc ++ [y]))) else Nx H3)
def LcK (g : TG) (tt : TT) (te : TE) (vs : List Nat) (σ : L2.St) (Q : VK) (x : V) (H1 : Hp) : Prop := ∃ d o, x = .ref d ∧ ((∃ kvs, H1 d = some (.frz o (.dK kvs)) ∧ LcR g tt te vs σ Q (Itk d o kvs) H1) ∨ ∃ kvs, H1 d = some (.frz o (.dT kvs)) ∧ LcR g tt te vs σ Q (Itkt d o kvs) H1)
theorem r_lcK {td : TE} {g : TG} {tt : TT} {te : TE} {vs : List Nat} (h : td σ H fun x H1 => LcK g tt te vs σ Q x H1) : tLc (iKeys td) g tt te vs σ H Q := h
theorem lcK {d : Addr} {od : Obj} {kvs : List (Key × V)} {g : TG} {tt : TT} {te : TE} {vs : List Nat} (I : Nat → List V → Hp → Prop) (hd : H d = some (.frz od (.dK kvs))) (h0 : ∀ G, Same H G → I 0 [] G)
    (hs : ∀ i k v G D, kvs[i]? = some (k, v) → PvL H D I i G → g (kV k) (wipe σ vs) G fun σ2 H2 => wipe σ2 vs = wipe σ vs ∧ tt σ2 H2 fun b H3 =>
      if b = true then te σ2 H3 fun y H4 => ∃ acc, H4 D = some (.lst acc) ∧ acc.length < sizeLine ∧ PvL H D I (i + 1) (upd H4 D (.lst (acc ++ [y]))) else PvL H D I (i + 1) H3)
    (he : ∀ acc G D, Same H G → H D = none → G D = some (.lst acc) → acc.length ≤ kvs.length → I kvs.length acc G → Q (.ref D) G) : LcK g tt te vs σ Q (.ref d) H := by
  refine ⟨d, od, rfl, .inl ⟨kvs, hd, fun D hD => ?_⟩⟩
  refine lc_it walk_keys (Qd := fun G => Q (.ref D) G) (fun i G => PvL H D I i G) ?_ (fun i G _ ⟨_, _, _, s, _⟩ => s _ _ hd) (fun i x G G' hi p ⟨e, k, v, hk, ex⟩ => ?_) (fun G ⟨acc, h1, h2, h3, _, h5⟩ => he acc G D h3 hD h1 h2 h5)
  · have s := same_upd (o := .lst []) hD rfl
    exact ⟨[], upd_same, Nat.zero_le _, s, hD, h0 _ s⟩
  · subst e
    subst ex
    exact hs i k v G' D hk p
theorem r_lockE {t : TE} (h : ∃ d u, H d = some u ∧ Mut (some u) ∧ ∀ od, t σ (upd H d (.frz od u)) fun v H' => H' d = some (.frz od u) ∧ Q v (upd H' d u)) : tLockE t σ H Q := h
theorem e_dgetF {kvs : List (Key × V)} {n : Int} {od : Obj} {N : V → Prop} (h1 : H p = some (.frz od (.dK kvs))) (h2 : valV kvs (Ke n) = some v) (h : N v) : ∃ a v, V.ref p = .ref a ∧ DGet H a (.int n) (some v) ∧ N v := ⟨p, v, rfl, h2 ▸ .inl ⟨kvs, Ke n, .inr ⟨od, h1⟩, rfl, rfl⟩, h⟩
/-- locked, walked, unlocked: nothing old has changed -/
theorem lock_same {d : Addr} {od : Obj} {u : HO} {H G : Hp} (h : H d = some u) (s : Same (upd H d (.frz od u)) G) : Same H (upd G d u) := fun b o e => by
  by_cases c : b = d
  · subst c
    rw [upd_same, ← h, e]
  · rw [upd_ne c]
    exact s _ _ (by rw [upd_ne c]; exact e)
end Ct
end
section
set_option Elab.async false
set_option linter.all false
/-! Greatest claims of lists put together. -/
namespace Ct
open PySem L2
theorem mem_gcl2 {l : List P2} {x : P2} : x ∈ gcl l ↔ x.2 = mx l x.1 ∧ 0 < x.2 := by
  rw [mem_gcl]
  constructor
  · rintro ⟨_, h⟩; exact h
  · rintro ⟨h1, h2⟩
    refine ⟨?_, h1, h2⟩
    rcases mx_is l x.1 with z | ⟨p, hp, e, _⟩
    · omega
    · exact ⟨p, hp, e⟩
theorem gcl_of_mx {l m : List P2} (h : ∀ k, mx l k = mx m k) : gcl l = gcl m :=
  ris_ext (ris_pset _) (ris_pset _) fun x => by
    show x ∈ gcl l ↔ x ∈ gcl m
    rw [mem_gcl2, mem_gcl2, h]
theorem mx_le {l : List P2} {k b : Int} (h0 : 0 ≤ b) (h : ∀ p ∈ l, p.1 = k → p.2 ≤ b) : mx l k ≤ b := by
  rcases mx_is l k with z | ⟨p, hp, e, z⟩
  · omega
  · rw [← z]; exact h p hp e
theorem mx_ge' {l : List P2} {p : P2} {k : Int} (h : p ∈ l) (e : p.1 = k) : p.2 ≤ mx l k := e ▸ mx_ge h
/-- two lists that say the same -/
def Says (l m : List P2) : Prop := ∀ k, mx l k = mx m k
theorem Says.of_le {l m : List P2} (h1 : ∀ p ∈ l, p.2 ≤ mx m p.1) (h2 : ∀ p ∈ m, p.2 ≤ mx l p.1) : Says l m := fun k =>
  Int.le_antisymm (mx_le (mx_nn _ _) fun p hp e => e ▸ h1 p hp) (mx_le (mx_nn _ _) fun p hp e => e ▸ h2 p hp)
theorem mx_gcl (l : List P2) (k : Int) : mx (gcl l) k = mx l k := by
  refine Int.le_antisymm (mx_le (mx_nn _ _) fun p hp e => ?_) ?_
  · have := (mem_gcl2.mp hp).1
    rw [this, e]
    exact Int.le_refl _
  · by_cases c : mx l k = 0
    · rw [c]; exact mx_nn _ _
    · have h : ((k, mx l k) : P2) ∈ gcl l := mem_gcl2.mpr ⟨rfl, by have := mx_nn l k; show 0 < mx l k; omega⟩
      exact mx_ge' h rfl
theorem mx_app (a b : List P2) (k : Int) : mx (a ++ b) k = if mx a k > mx b k then mx a k else mx b k := by
  have ha : mx a k ≤ mx (a ++ b) k := mx_le_of (fun x hx => List.mem_append_left _ hx) k
  have hb : mx b k ≤ mx (a ++ b) k := mx_le_of (fun x hx => List.mem_append_right _ hx) k
  have hu : mx (a ++ b) k ≤ if mx a k > mx b k then mx a k else mx b k := mx_le (by have := mx_nn a k; have := mx_nn b k; split <;> omega) fun p hp e => by
    rcases List.mem_append.mp hp with z | z
    · have := mx_ge' z e
      split <;> omega
    · have := mx_ge' z e
      split <;> omega
  split at hu <;> omega
theorem gcl_app {a a' b b' : List P2} (h : Says a a') (h' : Says b b') : gcl (a ++ b) = gcl (a' ++ b') := gcl_of_mx fun k => by rw [mx_app, mx_app, h k, h' k]
theorem says_gcl (l : List P2) : Says (gcl l) l := mx_gcl l
theorem Says.refl (l : List P2) : Says l l := fun _ => rfl
theorem pset_app {a a' b b' : List P2} (h : ∀ x, x ∈ a ↔ x ∈ a') (h' : ∀ x, x ∈ b ↔ x ∈ b') : pset (a ++ b) = pset (a' ++ b') := pset_congr fun x => by
  rw [List.mem_append, List.mem_append, h, h']
/-- a field that is there is put without growth -/
theorem putF_len {f : Str} {v y : V} : ∀ {fs : List (Str × V)}, fs.lookup f = some v → (putF f y fs).length = fs.length
  | [], h => by cases h
  | (g, x) :: r, h => by
    show (if g = f then (g, y) :: r else (g, x) :: putF f y r).length = _
    by_cases c : g = f
    · rw [if_pos c]; rfl
    · rw [if_neg c, List.length_cons, List.length_cons]
      have hb : (f == g) = false := beq_eq_false_iff_ne.mpr (Ne.symm c)
      rw [List.lookup_cons, hb] at h
      rw [putF_len h]
end Ct
end
section
set_option Elab.async false
set_option linter.all false
set_option maxRecDepth 100000
set_option maxHeartbeats 4000000
/-! o.m(k = v, ..) of an own class, by name alone. -/
namespace Ct
open PySem PySem.Spec PyProof.Rows L2
def tMethK (C : Addr) (m : Str) (n : Nat) (sp : Sp) (gV : List V → List V → List V) (E : XK) (ta : TE) (tk : TA) : TE := fun σ H Q => ta σ H fun x H1 => ∃ a dx fs, x = .ref a ∧ H1 a = some (.ins C dx fs) ∧ fs.lookup m = none ∧
  tk σ H1 fun zs H2 => zs.length = n ∧ sp (gV [x] zs) H2 Q E
section
variable {X : Cx} {CX : CXT} {k : Nat} {f C : Addr} {fd : FuncData} {ps ks : List Str} {sp : Sp} {E : XK} {m : Str} {apos pos : Pos} {o : Expr} {kws : List Keyword} {ta : TE} {tk : TA} {g : List Value → List Value → List Value} {gV : List V → List V → List V}
theorem run_fnN {pins : List (Addr × Obj)} {σ : L2.St} {H : Hp} {s : Shared} {Q : VK} {us ws : List Value} {vs zs : List V} (F : FnOk X.prog X.w X.K X.mg X.base CX k f fd ps sp) (hr : Room k X.A) (hb : KBn X.K fd ps 1 ks g gV) (hx : Passes CX X E)
    (I : Inv X pins σ H s) (r : Vals vs us) (rz : Vals zs ws) (l1 : us.length = 1) (l2 : zs.length = ks.length) (h : sp (gV vs zs) H Q E) : wpAny (model X.prog X.w) X.A (call (.ref f) us (ks.zip ws)) (EP X pins σ Q) X.xe s := by
  have r2 := hb.rel r rz
  refine wpAny_call (codeAny_mono (F.run X.A X.stack s H ⟨us, ks.zip ws⟩ (g us ws) (gV vs zs) Q E hr I.env0 (hb.to s us ws I.kIn l1 (rz.length.symm.trans l2)) r2 h) fun r s' hq => ?_)
  cases r with
  | error e => exact hx pins σ H s e s' I hq
  | ok fl =>
    cases fl with
    | ret u => exact I.after hq
    | next => exact False.elim hq
    | brk => exact False.elim hq
    | cont => exact False.elim hq
theorem pe_methK0 {pl : Sem Bool} (he : PE X o ta) (c : Cls X.K C) (hm : Meth X.K C m f) (F : FnOk X.prog X.w X.K X.mg X.base CX k f fd ps sp) (hr : Room k X.A) (hb : KBn X.K fd ps 1 ks g gV) (hx : Passes CX X E) (hkw : PK X kws tk)
    (hall : (backToKw pos (keywordEach kws X.env)).all (·.1.isSome) = true := by rfl) (hks : (backToKw pos (keywordEach kws X.env)).filterMap (·.1) = ks := by rfl)
    (hpl : ((backTo pos (starEach [] X.env)).any (·.1) || (backToKw pos (keywordEach kws X.env)).any (·.1.isNone)) = false := by rfl)
    (ht : eval (.Call (.Attribute o m apos) [] kws pos) X.env = (do
      let ov ← eval o X.env
      standAt apos.atName
      let (f, first) ← holding [ov] (getMethod ov m pl)
      callWith pos f first (backTo pos (starEach [] X.env)) (backToKw pos (keywordEach kws X.env))) := by rfl) :
    PE X (.Call (.Attribute o m apos) [] kws pos) (tMethK C m ks.length sp gV E ta tk) := by
  refine ⟨fun pins s σ H Q I h => ?_⟩
  refine PySem.W.methodCall_KW (pl := pl) (thn (he.run pins s σ H _ I h) fun u s1 ⟨x, H1, I1, rx, a, dx, fs, ex, ea, l, q⟩ => ?_) ht
  subst ex
  obtain rfl : u = Value.ref a := rx
  refine getmeth_ok I1 ea c hm l ?_
  refine PySem.W.callWith_KW0 (first := [.ref a]) (h₀ := X.base) I.ok.mod.kin hm.kp hall ?_ hpl
  refine thn (hkw.run pos pins s1 σ H1 _ I1 q) fun ws s2 ⟨zs, H2, I2, rz, l2, q2⟩ => ⟨I2.kIn, ?_⟩
  rw [hks]
  exact run_fnN (us := [.ref a]) (vs := [.ref a]) F hr hb hx I2 (.cons rfl .nil) rz rfl l2 q2
end
end Ct
end
section
set_option Elab.async false
set_option linter.all false
set_option maxRecDepth 100000
/-! for over range(i, j); a comprehension over range(j); slices. -/
namespace Ct
open PySem L2
variable {K : PySem.W.Frag} {H H1 H2 H3 : Hp} {σ : L2.St} {Q : VK} {D : Ends} {p q : Addr} {o u : HO} {v x y : V}
def Rg2Go (vs : List V) (g : TG) (tb : TS) (D : Ends) (σ : L2.St) (H : Hp) : Prop := ∃ i j : Int, vs = [.int i, .int j] ∧ (-(2 ^ 62) ≤ i ∧ i < 2 ^ 62 ∧ -(2 ^ 62) ≤ j ∧ j < 2 ^ 62) ∧ ∃ W : Nat → Nat → L2.St → Hp → Prop, (∃ m, W 0 m σ H) ∧ ∀ n m σ H, W n m σ H →
  ((Itr i (j - i).toNat).stop n H ∧ D.nx σ H) ∨ ((Itr i (j - i).toNat).go n H ∧ ∃ N : L2.St → Hp → Prop, (∀ σ' H', N σ' H' → ∃ m', m' < m ∧ W (n + 1) m' σ' H') ∧ ∀ x H', (Itr i (j - i).toNat).yld n H x H' → g x σ H' fun σ2 H2 => tb { D with nx := N, ct := N, bk := D.nx } σ2 H2)
theorem r_foR2 {ta : TA} {g : TG} {tb : TS} (h : ta σ H fun vs H1 => Rg2Go vs g tb D σ H1) : tFor (iRng2 ta) g tb D σ H := h
theorem foR2 {i j : Int} {g : TG} {tb : TS} (hj : -(2 ^ 62) ≤ i ∧ i < 2 ^ 62 ∧ -(2 ^ 62) ≤ j ∧ j < 2 ^ 62) (Pv : Nat → L2.St → Hp → Prop) (h0 : Pv 0 σ H)
    (hs : ∀ n σ H, n < (j - i).toNat → Pv n σ H → g (.int (i + n)) σ H fun σ2 H2 => tb { D with nx := Pv (n + 1), ct := Pv (n + 1), bk := D.nx } σ2 H2) (hd : ∀ σ H, Pv (j - i).toNat σ H → D.nx σ H) : Rg2Go [.int i, .int j] g tb D σ H :=
  ⟨i, j, rfl, hj, for_range (lo := i) (n := (j - i).toNat) Pv h0 hs hd⟩
def LcRg (g : TG) (tt : TT) (te : TE) (ws : List Nat) (σ : L2.St) (Q : VK) (vs : List V) (H1 : Hp) : Prop := ∃ j : Int, vs = [.int j] ∧ -(2 ^ 62) ≤ j ∧ j < 2 ^ 62 ∧ LcR g tt te ws σ Q (Itr 0 j.toNat) H1
theorem r_lcR {ta : TA} {g : TG} {tt : TT} {te : TE} {ws : List Nat} (h : ta σ H fun vs H1 => LcRg g tt te ws σ Q vs H1) : tLc (iRng1 ta) g tt te ws σ H Q := h
theorem lcR {j : Int} {g : TG} {tt : TT} {te : TE} {ws : List Nat} (hj : -(2 ^ 62) ≤ j ∧ j < 2 ^ 62) (I : Nat → List V → Hp → Prop) (h0 : ∀ G, Same H G → I 0 [] G)
    (hs : ∀ (i : Nat) G D, i < j.toNat → PvL H D I i G → g (.int i) (wipe σ ws) G fun σ2 H2 => wipe σ2 ws = wipe σ ws ∧ tt σ2 H2 fun b H3 =>
      if b = true then te σ2 H3 fun y H4 => ∃ acc, H4 D = some (.lst acc) ∧ acc.length < sizeLine ∧ PvL H D I (i + 1) (upd H4 D (.lst (acc ++ [y]))) else PvL H D I (i + 1) H3)
    (he : ∀ acc G D, Same H G → H D = none → G D = some (.lst acc) → acc.length ≤ j.toNat → I j.toNat acc G → Q (.ref D) G) : LcRg g tt te ws σ Q [.int j] H := by
  refine ⟨j, rfl, hj.1, hj.2, fun D hD => ?_⟩
  refine lc_range (lo := 0) (n := j.toNat) (Qd := fun G => Q (.ref D) G) (fun i G => PvL H D I i G) ?_ (fun i G hi p => ?_) (fun G ⟨acc, h1, h2, h3, _, h5⟩ => he acc G D h3 hD h1 h2 h5)
  · have s := same_upd (o := .lst []) hD rfl
    exact ⟨[], upd_same, Nat.zero_le _, s, hD, h0 _ s⟩
  · rw [Int.zero_add]
    exact hs i G D hi p
end Ct
end
section
set_option Elab.async false
set_option linter.all false
set_option maxRecDepth 100000
namespace Ct
open PySem L2
def rnd (n : Nat) : List P2 := (List.range 64).map fun (i : Nat) => ((i : Int), ((i : Int) + (1 + (n : Int))) % 64)
def prs : Nat → List P2
  | 0 => []
  | n + 1 => prs n ++ rnd n
theorem rnd_len (n : Nat) : (rnd n).length = 64 := by
  unfold rnd
  rw [List.length_map, List.length_range]
theorem prs_len : ∀ n, (prs n).length = 64 * n
  | 0 => rfl
  | n + 1 => by
    show (prs n ++ rnd n).length = _
    rw [List.length_append, prs_len n, rnd_len]
    omega
theorem prs_nodup : (prs 6 ++ [(0, 63)]).Nodup := by decide +kernel
theorem prs_ok : (prs 6).all (fun p => !decide (p.1 = p.2) && (decide (0 ≤ p.1 ∧ p.1 < 64) && decide (0 ≤ p.2 ∧ p.2 < 64))) = true := by decide +kernel
theorem cover {l : List P2} {n m : Nat} (h : m ≤ n) (x : P2) : x ∈ l.take n ++ l.drop m ↔ x ∈ l := by
  rw [List.mem_append]
  constructor
  · rintro (z | z)
    · exact List.mem_of_mem_take z
    · exact List.mem_of_mem_drop z
  · intro z
    rw [← List.take_append_drop m l] at z
    rcases List.mem_append.mp z with u | u
    · exact .inl ((List.take_subset_take_left l h) u)
    · exact .inr u
theorem Prs.take {H : Hp} : ∀ {vs : List V} {ps : List P2} (n : Nat), Prs H vs ps → Prs H (vs.take n) (ps.take n)
  | _, _, 0, _ => by rw [List.take_zero, List.take_zero]; exact .nil
  | _, _, n + 1, .nil => .nil
  | _, _, n + 1, .cons h t => .cons h (Prs.take n t)
theorem Prs.drop {H : Hp} : ∀ {vs : List V} {ps : List P2} (n : Nat), Prs H vs ps → Prs H (vs.drop n) (ps.drop n)
  | _, _, 0, h => h
  | _, _, n + 1, .nil => .nil
  | _, _, n + 1, .cons _ t => Prs.drop n t
end Ct
end
section
set_option Elab.async false
set_option linter.all false
set_option maxRecDepth 100000
set_option maxHeartbeats 8000000
namespace Ct
open PySem PySem.Spec L2 StX

local macro_rules | `(tactic| wtm_at "hp") => `(tactic| first
  | assumption
  | exact (‹Same _ _›) _ _ (by wtm_at "hp")
  | exact (‹But _ _ _›) _ _ (by wtm_at "ne") (by wtm_at "hp"))
local macro_rules | `(tactic| wtm_at "hpL") => `(tactic| first | exact SqL.of (by wtm_at "hp") | assumption)
local macro_rules | `(tactic| wtm_at "hpT") => `(tactic| first | exact SqT.of (by wtm_at "hp") | assumption)
local macro_rules | `(tactic| wtm_at "ne") => `(tactic| first
  | assumption
  | exact Ne.symm (by assumption)
  | exact ne_lst_tup (by wtm_at "hp") (by wtm_at "hp")
  | exact ne_tup_lst (by wtm_at "hp") (by wtm_at "hp")
  | exact ne_of_none (by wtm_at "hp") (by assumption)
  | exact Ne.symm (ne_of_none (by wtm_at "hp") (by assumption)))
local macro_rules | `(tactic| wtm_at "c") => `(tactic| first
  | omega
  | (unfold CMul; omega)
  | (unfold CDiv; omega)
  | (unfold CPow; omega))
local macro_rules | `(tactic| wtm_at "sz") => `(tactic| first
  | exact sz64 rfl
  | exact (by decide)
  | (show _ ≤ sizeLine; rw [sizeLine_eq]; omega)
  | (show _ < sizeLine; rw [sizeLine_eq]; omega))
local macro_rules | `(tactic| wtm_at "go1") => `(tactic| first
  | with_reducible refine r_seq ?_
  | with_reducible refine r_op ?_
  | ((with_reducible refine' r_var ?rv ?_); (case rv => exact rfl))
  | with_reducible refine r_c ?_
  | with_reducible refine r_asg ?_
  | with_reducible refine r_name ?_
  | with_reducible refine r_i0 ?_
  | ((with_reducible refine' r_i ?rc ?_); (case rc => wtm_at "c"))
  | ((with_reducible refine' r_ixL ?r1 ?r2 ?_); (case r1 => wtm_at "hpL"); (case r2 => first | exact rfl | assumption))
  | ((with_reducible refine' r_ixT ?r1 ?r2 ?_); (case r1 => wtm_at "hpT"); (case r2 => first | exact rfl | assumption))
  | with_reducible refine r_consA ?_
  | with_reducible refine r_nilA ?_
  | with_reducible refine r_call ?_
  | with_reducible refine r_cb ?_
  | with_reducible refine r_test ?_
  | with_reducible refine r_exb ?_
  | ((with_reducible refine r_eq ?rq ?_); (case rq => exact rfl))
  | ((with_reducible refine r_ne ?rq ?_); (case rq => exact rfl))
  | with_reducible refine r_ret ?_
  | with_reducible refine r_if ?_
  | with_reducible refine r_next ?_
  | with_reducible refine r_drop ?_
  | with_reducible refine r_gsub ?_
  | ((with_reducible refine' r_setL ?r1 ?r2 ?_); (case r1 => wtm_at "hp"); (case r2 => exact rfl))
  | with_reducible refine r_b ?_
  | with_reducible refine r_and ?_
  | with_reducible refine r_or ?_
  | with_reducible refine r_not ?_
  | with_reducible refine r_andV ?_
  | with_reducible refine r_orV ?_
  | with_reducible refine r_notV ?_
  | with_reducible refine r_ifE ?_
  | with_reducible refine r_chain ?_
  | with_reducible refine r_u ?_
  | with_reducible refine r_un ?_
  | with_reducible refine r_fld ?_
  | with_reducible refine r_fldS ?_
  | with_reducible refine r_lst ?_
  | with_reducible refine r_tup ?_
  | with_reducible refine r_par ?_
  | with_reducible refine r_par3 ?_
  | with_reducible refine r_retN ?_
  | with_reducible refine r_gcons ?_
  | with_reducible refine r_gnil ?_
  | ((with_reducible refine' r_gtup ?r1 ?r2 ?_); (case r1 => wtm_at "hpT"); (case r2 => exact rfl))
  | with_reducible refine r_bm ?_
  | with_reducible refine r_bm0 ?_
  | with_reducible refine r_lcL ?_
  | with_reducible refine r_foL ?_
  | with_reducible refine r_foR ?_
  | with_reducible refine r_yes ?_
  | ((with_reducible refine' r_wipe ?rw ?_); (case rw => exact rfl))
  | ((with_reducible refine' r_tyL ?r1 ?_); (case r1 => wtm_at "hpL"))
  | ((with_reducible refine' r_append ?r1 ?r2 ?_); (case r1 => wtm_at "hp"); (case r2 => wtm_at "sz"))
  | with_reducible refine r_dput ?_
  | with_reducible refine r_dget ?_
  | with_reducible refine r_dget2 ?_
  | with_reducible refine r_dnew ?_
  | with_reducible refine iteT ?_
  | with_reducible refine iteF ?_
  | with_reducible refine iteNT ?_
  | with_reducible refine iteNF ?_)
local macro_rules | `(tactic| wtm_at "go") => `(tactic| repeat wtm_at "go1")

def top (i : Nat) : Stmt := PySem.Challenge.pw_cuptalk_k02_talks_put_together.main.body.getD i (.Pass ⟨0, 0, 0, 0⟩)
abbrev s_is_integer : Stmt := top 11
abbrev s_is_size : Stmt := top 12
abbrev s_is_player : Stmt := top 13
abbrev s_is_number : Stmt := top 14
abbrev s_is_pair : Stmt := top 15
abbrev s_is_result : Stmt := top 16
abbrev s_is_claim : Stmt := top 17
abbrev s_is_short_list : Stmt := top 18
abbrev s_check_size : Stmt := top 19
abbrev s_check_results : Stmt := top 20
abbrev s_check_claims : Stmt := top 21
abbrev s_greatest_claims : Stmt := top 25
abbrev s_Talk___init__ : Stmt := inClass (top 26) 0
abbrev s_Talk_size : Stmt := inClass (top 26) 1
abbrev s_Talk_results : Stmt := inClass (top 26) 2
abbrev s_Talk_claims : Stmt := inClass (top 26) 3
abbrev s_Talk___len__ : Stmt := inClass (top 26) 4
abbrev s_Talk___eq__ : Stmt := inClass (top 26) 5
abbrev s_check_player : Stmt := top 22
abbrev s_check_number : Stmt := top 23
abbrev s_Talk__with_more : Stmt := inClass (top 26) 10
abbrev s_Talk___add__ : Stmt := inClass (top 26) 7
abbrev s_Talk_with_result : Stmt := inClass (top 26) 8
abbrev s_Talk_with_claim : Stmt := inClass (top 26) 9
abbrev s_law_feed : Stmt := top 28
abbrev s_law_pick : Stmt := top 29
abbrev s_law_players : Stmt := top 31
abbrev s_law_pair : Stmt := top 32
abbrev s_law_items : Stmt := top 33
abbrev s_law_plain : Stmt := top 34
abbrev s_law_are : Stmt := top 35
abbrev s_law_more_right : Stmt := top 36
abbrev s_law_right : Stmt := top 37
abbrev s_law : Stmt := top 38
structure Ad where
  f_is_integer : Addr
  d_is_integer : FuncData
  f_is_size : Addr
  d_is_size : FuncData
  f_is_player : Addr
  d_is_player : FuncData
  f_is_number : Addr
  d_is_number : FuncData
  f_is_pair : Addr
  d_is_pair : FuncData
  f_is_result : Addr
  d_is_result : FuncData
  f_is_claim : Addr
  d_is_claim : FuncData
  f_is_short_list : Addr
  d_is_short_list : FuncData
  f_check_size : Addr
  d_check_size : FuncData
  f_check_results : Addr
  d_check_results : FuncData
  f_check_claims : Addr
  d_check_claims : FuncData
  f_greatest_claims : Addr
  d_greatest_claims : FuncData
  f_Talk___init__ : Addr
  d_Talk___init__ : FuncData
  f_Talk_size : Addr
  d_Talk_size : FuncData
  f_Talk_results : Addr
  d_Talk_results : FuncData
  f_Talk_claims : Addr
  d_Talk_claims : FuncData
  f_Talk___len__ : Addr
  d_Talk___len__ : FuncData
  f_Talk___eq__ : Addr
  d_Talk___eq__ : FuncData
  f_check_player : Addr
  d_check_player : FuncData
  f_check_number : Addr
  d_check_number : FuncData
  f_Talk__with_more : Addr
  d_Talk__with_more : FuncData
  f_Talk___add__ : Addr
  d_Talk___add__ : FuncData
  f_Talk_with_result : Addr
  d_Talk_with_result : FuncData
  f_Talk_with_claim : Addr
  d_Talk_with_claim : FuncData
  f_law_feed : Addr
  d_law_feed : FuncData
  f_law_pick : Addr
  d_law_pick : FuncData
  f_law_players : Addr
  d_law_players : FuncData
  f_law_pair : Addr
  d_law_pair : FuncData
  f_law_items : Addr
  d_law_items : FuncData
  f_law_plain : Addr
  d_law_plain : FuncData
  f_law_are : Addr
  d_law_are : FuncData
  f_law_more_right : Addr
  d_law_more_right : FuncData
  f_law_right : Addr
  d_law_right : FuncData
  f_law : Addr
  d_law : FuncData
  C_Talk : Addr
  p_Talk_size : Addr
  p_Talk_results : Addr
  p_Talk_claims : Addr
structure Txt (K : PySem.W.Frag) (mg : Str → Option Value) (a : Ad) : Prop where
  F_is_integer : Fun K "is_integer" "is_integer" s_is_integer a.f_is_integer a.d_is_integer
  b_is_integer : Binds K a.d_is_integer ["thing"] []
  m_is_integer : mg "is_integer" = some (.ref a.f_is_integer)
  F_is_size : Fun K "is_size" "is_size" s_is_size a.f_is_size a.d_is_size
  b_is_size : Binds K a.d_is_size ["thing"] []
  m_is_size : mg "is_size" = some (.ref a.f_is_size)
  F_is_player : Fun K "is_player" "is_player" s_is_player a.f_is_player a.d_is_player
  b_is_player : Binds K a.d_is_player ["thing", "size"] []
  m_is_player : mg "is_player" = some (.ref a.f_is_player)
  F_is_number : Fun K "is_number" "is_number" s_is_number a.f_is_number a.d_is_number
  b_is_number : Binds K a.d_is_number ["thing", "size"] []
  m_is_number : mg "is_number" = some (.ref a.f_is_number)
  F_is_pair : Fun K "is_pair" "is_pair" s_is_pair a.f_is_pair a.d_is_pair
  b_is_pair : Binds K a.d_is_pair ["thing"] []
  m_is_pair : mg "is_pair" = some (.ref a.f_is_pair)
  F_is_result : Fun K "is_result" "is_result" s_is_result a.f_is_result a.d_is_result
  b_is_result : Binds K a.d_is_result ["thing", "size"] []
  m_is_result : mg "is_result" = some (.ref a.f_is_result)
  F_is_claim : Fun K "is_claim" "is_claim" s_is_claim a.f_is_claim a.d_is_claim
  b_is_claim : Binds K a.d_is_claim ["thing", "size"] []
  m_is_claim : mg "is_claim" = some (.ref a.f_is_claim)
  F_is_short_list : Fun K "is_short_list" "is_short_list" s_is_short_list a.f_is_short_list a.d_is_short_list
  b_is_short_list : Binds K a.d_is_short_list ["thing"] []
  m_is_short_list : mg "is_short_list" = some (.ref a.f_is_short_list)
  F_check_size : Fun K "check_size" "check_size" s_check_size a.f_check_size a.d_check_size
  b_check_size : Binds K a.d_check_size ["size"] []
  m_check_size : mg "check_size" = some (.ref a.f_check_size)
  F_check_results : Fun K "check_results" "check_results" s_check_results a.f_check_results a.d_check_results
  b_check_results : Binds K a.d_check_results ["results", "size"] []
  m_check_results : mg "check_results" = some (.ref a.f_check_results)
  F_check_claims : Fun K "check_claims" "check_claims" s_check_claims a.f_check_claims a.d_check_claims
  b_check_claims : Binds K a.d_check_claims ["claims", "size"] []
  m_check_claims : mg "check_claims" = some (.ref a.f_check_claims)
  F_greatest_claims : Fun K "greatest_claims" "greatest_claims" s_greatest_claims a.f_greatest_claims a.d_greatest_claims
  b_greatest_claims : Binds K a.d_greatest_claims ["claims"] []
  m_greatest_claims : mg "greatest_claims" = some (.ref a.f_greatest_claims)
  F_Talk___init__ : Fun K "__init__" "Talk.__init__" s_Talk___init__ a.f_Talk___init__ a.d_Talk___init__
  b_Talk___init__ : Binds K a.d_Talk___init__ ["self", "size", "results", "claims"] []
  F_Talk_size : Fun K "size" "Talk.size" s_Talk_size a.f_Talk_size a.d_Talk_size
  b_Talk_size : Binds K a.d_Talk_size ["self"] []
  pr_Talk_size : PropOf K a.C_Talk "size" a.p_Talk_size a.f_Talk_size
  F_Talk_results : Fun K "results" "Talk.results" s_Talk_results a.f_Talk_results a.d_Talk_results
  b_Talk_results : Binds K a.d_Talk_results ["self"] []
  pr_Talk_results : PropOf K a.C_Talk "results" a.p_Talk_results a.f_Talk_results
  F_Talk_claims : Fun K "claims" "Talk.claims" s_Talk_claims a.f_Talk_claims a.d_Talk_claims
  b_Talk_claims : Binds K a.d_Talk_claims ["self"] []
  pr_Talk_claims : PropOf K a.C_Talk "claims" a.p_Talk_claims a.f_Talk_claims
  F_Talk___len__ : Fun K "__len__" "Talk.__len__" s_Talk___len__ a.f_Talk___len__ a.d_Talk___len__
  b_Talk___len__ : Binds K a.d_Talk___len__ ["self"] []
  me_Talk___len__ : Meth K a.C_Talk "__len__" a.f_Talk___len__
  F_Talk___eq__ : Fun K "__eq__" "Talk.__eq__" s_Talk___eq__ a.f_Talk___eq__ a.d_Talk___eq__
  b_Talk___eq__ : Binds K a.d_Talk___eq__ ["self", "other"] []
  me_Talk___eq__ : Meth K a.C_Talk "__eq__" a.f_Talk___eq__
  F_check_player : Fun K "check_player" "check_player" s_check_player a.f_check_player a.d_check_player
  b_check_player : Binds K a.d_check_player ["player", "size"] []
  m_check_player : mg "check_player" = some (.ref a.f_check_player)
  F_check_number : Fun K "check_number" "check_number" s_check_number a.f_check_number a.d_check_number
  b_check_number : Binds K a.d_check_number ["number", "size"] []
  m_check_number : mg "check_number" = some (.ref a.f_check_number)
  F_Talk__with_more : Fun K "_with_more" "Talk._with_more" s_Talk__with_more a.f_Talk__with_more a.d_Talk__with_more
  b_Talk__with_more : Binds K a.d_Talk__with_more ["self", "results", "claims"] []
  me_Talk__with_more : Meth K a.C_Talk "_with_more" a.f_Talk__with_more
  F_Talk___add__ : Fun K "__add__" "Talk.__add__" s_Talk___add__ a.f_Talk___add__ a.d_Talk___add__
  b_Talk___add__ : Binds K a.d_Talk___add__ ["self", "other"] []
  me_Talk___add__ : Meth K a.C_Talk "__add__" a.f_Talk___add__
  F_Talk_with_result : Fun K "with_result" "Talk.with_result" s_Talk_with_result a.f_Talk_with_result a.d_Talk_with_result
  b_Talk_with_result : Binds K a.d_Talk_with_result ["self", "one", "other"] []
  me_Talk_with_result : Meth K a.C_Talk "with_result" a.f_Talk_with_result
  F_Talk_with_claim : Fun K "with_claim" "Talk.with_claim" s_Talk_with_claim a.f_Talk_with_claim a.d_Talk_with_claim
  b_Talk_with_claim : Binds K a.d_Talk_with_claim ["self", "player", "number"] []
  me_Talk_with_claim : Meth K a.C_Talk "with_claim" a.f_Talk_with_claim
  F_law_feed : Fun K "_law_feed" "_law_feed" s_law_feed a.f_law_feed a.d_law_feed
  b_law_feed : Binds K a.d_law_feed ["script", "k"] []
  m_law_feed : mg "_law_feed" = some (.ref a.f_law_feed)
  F_law_pick : Fun K "_law_pick" "_law_pick" s_law_pick a.f_law_pick a.d_law_pick
  b_law_pick : Binds K a.d_law_pick ["feed", "wide"] []
  m_law_pick : mg "_law_pick" = some (.ref a.f_law_pick)
  F_law_players : Fun K "_law_players" "_law_players" s_law_players a.f_law_players a.d_law_players
  b_law_players : Binds K a.d_law_players ["wide"] []
  m_law_players : mg "_law_players" = some (.ref a.f_law_players)
  F_law_pair : Fun K "_law_pair" "_law_pair" s_law_pair a.f_law_pair a.d_law_pair
  b_law_pair : Binds K a.d_law_pair ["feed", "many"] []
  m_law_pair : mg "_law_pair" = some (.ref a.f_law_pair)
  F_law_items : Fun K "_law_items" "_law_items" s_law_items a.f_law_items a.d_law_items
  b_law_items : Binds K a.d_law_items ["feed", "wide", "most"] []
  m_law_items : mg "_law_items" = some (.ref a.f_law_items)
  F_law_plain : Fun K "_law_plain" "_law_plain" s_law_plain a.f_law_plain a.d_law_plain
  b_law_plain : Binds K a.d_law_plain ["found", "said"] []
  m_law_plain : mg "_law_plain" = some (.ref a.f_law_plain)
  F_law_are : Fun K "_law_are" "_law_are" s_law_are a.f_law_are a.d_law_are
  b_law_are : Binds K a.d_law_are ["talk_here", "wide", "due"] []
  m_law_are : mg "_law_are" = some (.ref a.f_law_are)
  F_law_more_right : Fun K "_law_more_right" "_law_more_right" s_law_more_right a.f_law_more_right a.d_law_more_right
  b_law_more_right : Binds K a.d_law_more_right ["feed", "wide", "found", "said"] []
  m_law_more_right : mg "_law_more_right" = some (.ref a.f_law_more_right)
  F_law_right : Fun K "_law_right" "_law_right" s_law_right a.f_law_right a.d_law_right
  b_law_right : Binds K a.d_law_right ["feed", "wide", "most"] []
  m_law_right : mg "_law_right" = some (.ref a.f_law_right)
  F_law : Fun K "law" "law" s_law a.f_law a.d_law
  b_law : Binds K a.d_law ["script"] []
  m_law : mg "law" = some (.ref a.f_law)
  cl_Talk : Cls K a.C_Talk
  mC_Talk : mg "Talk" = some (.ref a.C_Talk)
  is_Talk : Isi K a.C_Talk
  sf_Talk : PySem.W.selfFirst K a.C_Talk = true
  M_Talk : Mk K a.C_Talk a.f_Talk___init__
  c_LARGEST_SIZE : ∃ t, mg "LARGEST_SIZE" = some (.int 6 t)
  c_MOST_ITEMS : ∃ t, mg "MOST_ITEMS" = some (.int 200 t)
  n_Talk__claims : NoAttr K a.C_Talk "_claims"
  n_Talk__results : NoAttr K a.C_Talk "_results"
  n_Talk__size : NoAttr K a.C_Talk "_size"
  kb_Talk_with_claim_number_player : KBn K a.d_Talk_with_claim ["self", "player", "number"] 1 ["number", "player"] (fun us ws => pick [0, 2, 1] (us ++ ws)) (fun us ws => pick [0, 2, 1] (us ++ ws))
  kb_Talk_with_result_other_one : KBn K a.d_Talk_with_result ["self", "one", "other"] 1 ["other", "one"] (fun us ws => pick [0, 2, 1] (us ++ ws)) (fun us ws => pick [0, 2, 1] (us ++ ws))
  z_abs : mg "abs" = none
  z_all : mg "all" = none
  z_bool : mg "bool" = none
  z_int : mg "int" = none
  z_isinstance : mg "isinstance" = none
  z_len : mg "len" = none
  z_list : mg "list" = none
  z_max : mg "max" = none
  z_min : mg "min" = none
  z_range : mg "range" = none
  z_repr : mg "repr" = none
  z_set : mg "set" = none
  z_sorted : mg "sorted" = none
  z_tuple : mg "tuple" = none
/-! ### what the defs promise -/
theorem r_isi {K : PySem.W.Frag} {H : Hp} {Q : VK} {x : V} {n m : String} {b : Bool} (ht : TyX K H x (.type n)) (hk : kitB n m = some b) (h : Q (.bl b) H) : rIsi K [x, .ty m] H Q := ⟨x, .ty m, .type n, .type m, b, rfl, .ty m, ht, kit_ty hk, h⟩
def sp_is_integer : Sp := fun vs H Q _ => ∃ i : Int, vs = [.int i] ∧ Q (.bl true) H
def sp_is_size : Sp := fun vs H Q _ => ∃ i : Int, vs = [.int i] ∧ Q (.bl (decide (0 ≤ i ∧ i ≤ 6))) H
def sp_is_player : Sp := fun vs H Q _ => ∃ i k : Int, vs = [.int i, .int k] ∧ 0 ≤ k ∧ k ≤ 6 ∧ Q (.bl (decide (0 ≤ i ∧ i < 2 ^ k.toNat))) H
def sp_is_number : Sp := fun vs H Q _ => ∃ i k : Int, vs = [.int i, .int k] ∧ Q (.bl (decide (0 ≤ i ∧ i ≤ k))) H
def sp_is_pair : Sp := fun vs H Q _ => ∃ (v : V) (p : P2), vs = [v] ∧ IsP H v p ∧ Q (.bl true) H
section
variable {P : Program} {w : World} {K : PySem.W.Frag} {mg : Str → Option Value} {base : Heap} {a : Ad}
theorem isI {i : Int} {H : Hp} {Q : VK} {E : XK} (h : Q (.bl true) H) : sp_is_integer ([V.int i] ++ []) H Q E := ⟨i, rfl, h⟩
theorem sc_is_integer : FnScope ["thing"] ["thing"] (defScope s_is_integer) := ⟨rfl, rfl, rfl, by decide +kernel, rfl, by decide +kernel, by decide +kernel⟩
theorem ok_is_integer (T : Txt K mg a) : FnOk P w K mg base CX0 1 a.f_is_integer a.d_is_integer ["thing"] (sp_is_integer) := by
  refine T.F_is_integer.ok sc_is_integer (fun vs H Q E h => (by repeat (first | (obtain ⟨rfl, _⟩ := h; rfl) | obtain ⟨_, h⟩ := h))) (fun cdv A outer s H vs Q E hr h => ?_)
  have nd := sc_is_integer.nd
  have hu := hr.units
  have hu1 := hu_of hr
  obtain ⟨i, rfl, k⟩ := h
  refine ⟨_, (pss_one (ps_ret (pe_and (pe_callB call_isi (by exact rfl) T.z_isinstance (by decide +kernel) (pa_cons (pv 0) (pa_cons (pe_bltn (v := .ty "int") (by exact rfl) T.z_int (by decide +kernel) rfl) pa_nil))) (pe_one (pe_not (pe_callB call_isi (by exact rfl) T.z_isinstance (by decide +kernel) (pa_cons (pv 0) (pa_cons (pe_bltn (v := .ty "bool") (by exact rfl) T.z_bool (by decide +kernel) rfl) pa_nil)))))))), ?_⟩
  wtm_at "go"
  refine r_isi (b := true) (.base (.int i)) (by decide +kernel) ?_
  wtm_at "go"
  refine r_isi (b := false) (.base (.int i)) (by decide +kernel) ?_
  wtm_at "go"
  exact k
theorem sc_is_size : FnScope ["thing"] ["thing"] (defScope s_is_size) := ⟨rfl, rfl, rfl, by decide +kernel, rfl, by decide +kernel, by decide +kernel⟩
theorem ok_is_size (T : Txt K mg a) : FnOk P w K mg base CX0 2 a.f_is_size a.d_is_size ["thing"] (sp_is_size) := by
  refine T.F_is_size.ok sc_is_size (fun vs H Q E h => (by repeat (first | (obtain ⟨rfl, _⟩ := h; rfl) | obtain ⟨_, h⟩ := h))) (fun cdv A outer s H vs Q E hr h => ?_)
  have nd := sc_is_size.nd
  have hu := hr.units
  have hu1 := hu_of hr
  obtain ⟨i, rfl, k⟩ := h
  refine ⟨_, (pss_one (ps_ret (pe_and (pe_call (ok_is_integer T) (hr.mono (by decide)) (by exact rfl) T.m_is_integer T.F_is_integer.kp T.b_is_integer .nil pass0 (pa_cons (pv 0) pa_nil)) (pe_one (pe_chain op_le op_le pe_int (pv 0) (pe_glob (v := .int 6) (by exact rfl) T.c_LARGEST_SIZE.choose_spec ⟨_, rfl⟩)))))), ?_⟩
  wtm_at "go"
  refine isI ?_
  wtm_at "go"
  refine iteD (fun h1 => ?_) (fun h1 => ?_)
  · wtm_at "go"
    rw [show decide (0 ≤ i ∧ i ≤ 6) = decide (i ≤ 6) from by simp [h1]] at k
    exact k
  · rw [show decide (0 ≤ i ∧ i ≤ 6) = false from by simp [h1]] at k
    exact k
theorem sc_is_player : FnScope ["thing", "size"] ["thing", "size"] (defScope s_is_player) := ⟨rfl, rfl, rfl, by decide +kernel, rfl, by decide +kernel, by decide +kernel⟩
theorem ok_is_player (T : Txt K mg a) : FnOk P w K mg base CX0 2 a.f_is_player a.d_is_player ["thing", "size"] (sp_is_player) := by
  refine T.F_is_player.ok sc_is_player (fun vs H Q E h => (by repeat (first | (obtain ⟨rfl, _⟩ := h; rfl) | obtain ⟨_, h⟩ := h))) (fun cdv A outer s H vs Q E hr h => ?_)
  have nd := sc_is_player.nd
  have hu := hr.units
  have hu1 := hu_of hr
  obtain ⟨i, z, rfl, z0, z6, k⟩ := h
  refine ⟨_, (pss_one (ps_ret (pe_and (pe_call (ok_is_integer T) (hr.mono (by decide)) (by exact rfl) T.m_is_integer T.F_is_integer.kp T.b_is_integer .nil pass0 (pa_cons (pv 0) pa_nil)) (pe_one (pe_chain op_le op_lt pe_int (pv 0) (pe_op op_shl pe_int (pv 1))))))), ?_⟩
  wtm_at "go"
  refine isI ?_
  wtm_at "go"
  refine iteD (fun h1 => ?_) (fun h1 => ?_)
  · wtm_at "go"
    rw [show decide (0 ≤ i ∧ i < 2 ^ z.toNat) = decide (i < 1 * 2 ^ z.toNat) from by simp [h1]] at k
    exact k
  · rw [show decide (0 ≤ i ∧ i < 2 ^ z.toNat) = false from by simp [h1]] at k
    exact k
theorem sc_is_number : FnScope ["thing", "size"] ["thing", "size"] (defScope s_is_number) := ⟨rfl, rfl, rfl, by decide +kernel, rfl, by decide +kernel, by decide +kernel⟩
theorem ok_is_number (T : Txt K mg a) : FnOk P w K mg base CX0 2 a.f_is_number a.d_is_number ["thing", "size"] (sp_is_number) := by
  refine T.F_is_number.ok sc_is_number (fun vs H Q E h => (by repeat (first | (obtain ⟨rfl, _⟩ := h; rfl) | obtain ⟨_, h⟩ := h))) (fun cdv A outer s H vs Q E hr h => ?_)
  have nd := sc_is_number.nd
  have hu := hr.units
  have hu1 := hu_of hr
  obtain ⟨i, z, rfl, k⟩ := h
  refine ⟨_, (pss_one (ps_ret (pe_and (pe_call (ok_is_integer T) (hr.mono (by decide)) (by exact rfl) T.m_is_integer T.F_is_integer.kp T.b_is_integer .nil pass0 (pa_cons (pv 0) pa_nil)) (pe_one (pe_chain op_le op_le pe_int (pv 0) (pv 1)))))), ?_⟩
  wtm_at "go"
  refine isI ?_
  wtm_at "go"
  refine iteD (fun h1 => ?_) (fun h1 => ?_)
  · wtm_at "go"
    rw [show decide (0 ≤ i ∧ i ≤ z) = decide (i ≤ z) from by simp [h1]] at k
    exact k
  · rw [show decide (0 ≤ i ∧ i ≤ z) = false from by simp [h1]] at k
    exact k
theorem sc_is_pair : FnScope ["thing"] ["thing"] (defScope s_is_pair) := ⟨rfl, rfl, rfl, by decide +kernel, rfl, by decide +kernel, by decide +kernel⟩
theorem ok_is_pair (T : Txt K mg a) : FnOk P w K mg base CX0 2 a.f_is_pair a.d_is_pair ["thing"] (sp_is_pair) := by
  refine T.F_is_pair.ok sc_is_pair (fun vs H Q E h => (by repeat (first | (obtain ⟨rfl, _⟩ := h; rfl) | obtain ⟨_, h⟩ := h))) (fun cdv A outer s H vs Q E hr h => ?_)
  have nd := sc_is_pair.nd
  have hu := hr.units
  have hu1 := hu_of hr
  obtain ⟨v, p, rfl, ⟨t, rfl, ht⟩, k⟩ := h
  refine ⟨_, (pss_one (ps_ret (pe_and (pe_callB call_isi (by exact rfl) T.z_isinstance (by decide +kernel) (pa_cons (pv 0) (pa_cons (pe_bltn (v := .ty "tuple") (by exact rfl) T.z_tuple (by decide +kernel) rfl) pa_nil))) (pe_and (pe_cmpR op_eq (pe_callB call_len_seq (by exact rfl) T.z_len (by decide +kernel) (pa_cons (pv 0) pa_nil)) pe_int (nomark _)) (pe_and (pe_call (ok_is_integer T) (hr.mono (by decide)) (by exact rfl) T.m_is_integer T.F_is_integer.kp T.b_is_integer .nil pass0 (pa_cons (pe_ix ix_tup (pv 0) pe_int (fun _ _ => rfl)) pa_nil)) (pe_one (pe_call (ok_is_integer T) (hr.mono (by decide)) (by exact rfl) T.m_is_integer T.F_is_integer.kp T.b_is_integer .nil pass0 (pa_cons (pe_ix ix_tup (pv 0) pe_int (fun _ _ => rfl)) pa_nil)))))))), ?_⟩
  wtm_at "go"
  refine r_isi (b := true) (.base (.tup ht)) (by decide +kernel) ?_
  wtm_at "go"
  refine ⟨_, _, rfl, .inr (SqT.of (by wtm_at "hp")), ?_⟩
  wtm_at "go"
  refine iteYes (by simp) ?_
  wtm_at "go"
  refine isI ?_
  wtm_at "go"
  refine isI ?_
  wtm_at "go"
  exact k
def isRes (k : Int) (p : P2) : Bool := !decide (p.1 = p.2) && (decide (0 ≤ p.1 ∧ p.1 < 2 ^ k.toNat) && decide (0 ≤ p.2 ∧ p.2 < 2 ^ k.toNat))
def isCl (k : Int) (p : P2) : Bool := decide (0 ≤ p.1 ∧ p.1 < 2 ^ k.toNat) && decide (0 ≤ p.2 ∧ p.2 ≤ k)
def sp_is_result : Sp := fun vs H Q _ => ∃ (v : V) (p : P2) (k : Int), vs = [v, .int k] ∧ IsP H v p ∧ 0 ≤ k ∧ k ≤ 6 ∧ Q (.bl (isRes k p)) H
def sp_is_claim : Sp := fun vs H Q _ => ∃ (v : V) (p : P2) (k : Int), vs = [v, .int k] ∧ IsP H v p ∧ 0 ≤ k ∧ k ≤ 6 ∧ Q (.bl (isCl k p)) H
def sp_is_short_list : Sp := fun vs H Q _ => ∃ (l : Addr) (xs : List V), vs = [.ref l] ∧ H l = some (.lst xs) ∧ xs.length ≤ 200 ∧ Q (.bl true) H
theorem sc_is_result : FnScope ["thing", "size"] ["thing", "size"] (defScope s_is_result) := ⟨rfl, rfl, rfl, by decide +kernel, rfl, by decide +kernel, by decide +kernel⟩
theorem ok_is_result (T : Txt K mg a) : FnOk P w K mg base CX0 3 a.f_is_result a.d_is_result ["thing", "size"] (sp_is_result) := by
  refine T.F_is_result.ok sc_is_result (fun vs H Q E h => (by repeat (first | (obtain ⟨rfl, _⟩ := h; rfl) | obtain ⟨_, h⟩ := h))) (fun cdv A outer s H vs Q E hr h => ?_)
  have nd := sc_is_result.nd
  have hu := hr.units
  have hu1 := hu_of hr
  obtain ⟨v, p, z, rfl, ⟨t, rfl, ht⟩, z0, z6, k⟩ := h
  refine ⟨_, (pss_cons (ps_if (PW.pt (pw_or (pt_not (pt_val (pe_call (ok_is_pair T) (hr.mono (by decide)) (by exact rfl) T.m_is_pair T.F_is_pair.kp T.b_is_pair .nil pass0 (pa_cons (pv 0) pa_nil)))) (pw_or1 (pt_cmpR op_eq (pe_ix ix_tup (pv 0) pe_int (fun _ _ => rfl)) (pe_ix ix_tup (pv 0) pe_int (fun _ _ => rfl)) (nomark _))))) (pss_one (ps_ret pe_bl)) pss_nil)
      (pss_one (ps_ret (pe_and (pe_call (ok_is_player T) (hr.mono (by decide)) (by exact rfl) T.m_is_player T.F_is_player.kp T.b_is_player .nil pass0 (pa_cons (pe_ix ix_tup (pv 0) pe_int (fun _ _ => rfl)) (pa_cons (pv 1) pa_nil))) (pe_one (pe_call (ok_is_player T) (hr.mono (by decide)) (by exact rfl) T.m_is_player T.F_is_player.kp T.b_is_player .nil pass0 (pa_cons (pe_ix ix_tup (pv 0) pe_int (fun _ _ => rfl)) (pa_cons (pv 1) pa_nil)))))))), ?_⟩
  wtm_at "go"
  refine ⟨_, p, rfl, ⟨t, rfl, ht⟩, ?_⟩
  wtm_at "go"
  refine iteD (fun h1 => ?_) (fun h1 => ?_)
  · wtm_at "go"
    rw [show isRes z p = false from by simp [isRes, V.int.inj h1]] at k
    exact k
  · have h1 : ¬ p.1 = p.2 := fun e => h1 (by rw [e])
    wtm_at "go"
    refine ⟨_, _, rfl, z0, z6, ?_⟩
    wtm_at "go"
    refine iteB (fun h2 => ?_) (fun h2 => ?_)
    · wtm_at "go"
      refine ⟨_, _, rfl, z0, z6, ?_⟩
      wtm_at "go"
      rw [show isRes z p = decide (0 ≤ p.2 ∧ p.2 < 2 ^ z.toNat) from by unfold isRes; rw [h2]; simp [h1]] at k
      exact k
    · rw [show isRes z p = false from by unfold isRes; rw [h2]; simp] at k
      exact k
theorem sc_is_claim : FnScope ["thing", "size"] ["thing", "size"] (defScope s_is_claim) := ⟨rfl, rfl, rfl, by decide +kernel, rfl, by decide +kernel, by decide +kernel⟩
theorem ok_is_claim (T : Txt K mg a) : FnOk P w K mg base CX0 3 a.f_is_claim a.d_is_claim ["thing", "size"] (sp_is_claim) := by
  refine T.F_is_claim.ok sc_is_claim (fun vs H Q E h => (by repeat (first | (obtain ⟨rfl, _⟩ := h; rfl) | obtain ⟨_, h⟩ := h))) (fun cdv A outer s H vs Q E hr h => ?_)
  have nd := sc_is_claim.nd
  have hu := hr.units
  have hu1 := hu_of hr
  obtain ⟨v, p, z, rfl, ⟨t, rfl, ht⟩, z0, z6, k⟩ := h
  refine ⟨_, (pss_one (ps_ret (pe_and (pe_call (ok_is_pair T) (hr.mono (by decide)) (by exact rfl) T.m_is_pair T.F_is_pair.kp T.b_is_pair .nil pass0 (pa_cons (pv 0) pa_nil)) (pe_and (pe_call (ok_is_player T) (hr.mono (by decide)) (by exact rfl) T.m_is_player T.F_is_player.kp T.b_is_player .nil pass0 (pa_cons (pe_ix ix_tup (pv 0) pe_int (fun _ _ => rfl)) (pa_cons (pv 1) pa_nil))) (pe_one (pe_call (ok_is_number T) (hr.mono (by decide)) (by exact rfl) T.m_is_number T.F_is_number.kp T.b_is_number .nil pass0 (pa_cons (pe_ix ix_tup (pv 0) pe_int (fun _ _ => rfl)) (pa_cons (pv 1) pa_nil)))))))), ?_⟩
  wtm_at "go"
  refine ⟨_, p, rfl, ⟨t, rfl, ht⟩, ?_⟩
  wtm_at "go"
  refine ⟨_, _, rfl, z0, z6, ?_⟩
  wtm_at "go"
  refine iteB (fun h2 => ?_) (fun h2 => ?_)
  · wtm_at "go"
    refine ⟨_, _, rfl, ?_⟩
    wtm_at "go"
    rw [show isCl z p = decide (0 ≤ p.2 ∧ p.2 ≤ z) from by unfold isCl; rw [h2]; simp] at k
    exact k
  · rw [show isCl z p = false from by unfold isCl; rw [h2]; simp] at k
    exact k
theorem sc_is_short_list : FnScope ["thing"] ["thing"] (defScope s_is_short_list) := ⟨rfl, rfl, rfl, by decide +kernel, rfl, by decide +kernel, by decide +kernel⟩
theorem ok_is_short_list (T : Txt K mg a) : FnOk P w K mg base CX0 1 a.f_is_short_list a.d_is_short_list ["thing"] (sp_is_short_list) := by
  refine T.F_is_short_list.ok sc_is_short_list (fun vs H Q E h => (by repeat (first | (obtain ⟨rfl, _⟩ := h; rfl) | obtain ⟨_, h⟩ := h))) (fun cdv A outer s H vs Q E hr h => ?_)
  have nd := sc_is_short_list.nd
  have hu := hr.units
  have hu1 := hu_of hr
  obtain ⟨l, xs, rfl, hl, hx, k⟩ := h
  refine ⟨_, (pss_one (ps_ret (pe_and (pe_callB call_isi (by exact rfl) T.z_isinstance (by decide +kernel) (pa_cons (pv 0) (pa_cons (pe_bltn (v := .ty "list") (by exact rfl) T.z_list (by decide +kernel) rfl) pa_nil))) (pe_one (pe_cmpR op_le (pe_callB call_len_seq (by exact rfl) T.z_len (by decide +kernel) (pa_cons (pv 0) pa_nil)) (pe_glob (v := .int 200) (by exact rfl) T.c_MOST_ITEMS.choose_spec ⟨_, rfl⟩) (nomark _)))))), ?_⟩
  wtm_at "go"
  refine r_isi (b := true) (.base (.lst hl)) (by decide +kernel) ?_
  wtm_at "go"
  refine ⟨_, _, rfl, .inl (SqL.of (by wtm_at "hp")), ?_⟩
  wtm_at "go"
  have e : decide ((xs.length : Int) ≤ 200) = true := decide_eq_true (by omega)
  show Q (.bl (decide ((xs.length : Int) ≤ 200))) H
  rw [e]
  exact k
end
end Ct
end
section
set_option Elab.async false
set_option linter.all false
set_option maxRecDepth 100000
set_option maxHeartbeats 8000000
namespace Ct
open PySem PySem.Spec L2 StX

local macro_rules | `(tactic| wtm_at "hp") => `(tactic| first
  | assumption
  | exact (‹Same _ _›) _ _ (by wtm_at "hp")
  | exact (‹But _ _ _›) _ _ (by wtm_at "ne") (by wtm_at "hp"))
local macro_rules | `(tactic| wtm_at "hpL") => `(tactic| first | exact SqL.of (by wtm_at "hp") | assumption)
local macro_rules | `(tactic| wtm_at "hpT") => `(tactic| first | exact SqT.of (by wtm_at "hp") | assumption)
local macro_rules | `(tactic| wtm_at "ne") => `(tactic| first
  | assumption
  | exact Ne.symm (by assumption)
  | exact ne_lst_tup (by wtm_at "hp") (by wtm_at "hp")
  | exact ne_tup_lst (by wtm_at "hp") (by wtm_at "hp")
  | exact ne_of_none (by wtm_at "hp") (by assumption)
  | exact Ne.symm (ne_of_none (by wtm_at "hp") (by assumption)))
local macro_rules | `(tactic| wtm_at "c") => `(tactic| first
  | omega
  | (unfold CMul; omega)
  | (unfold CDiv; omega)
  | (unfold CPow; omega))
local macro_rules | `(tactic| wtm_at "sz") => `(tactic| first
  | exact sz64 rfl
  | exact (by decide)
  | (show _ ≤ sizeLine; rw [sizeLine_eq]; omega)
  | (show _ < sizeLine; rw [sizeLine_eq]; omega))
local macro_rules | `(tactic| wtm_at "go1") => `(tactic| first
  | with_reducible refine r_seq ?_
  | with_reducible refine r_op ?_
  | ((with_reducible refine' r_var ?rv ?_); (case rv => exact rfl))
  | with_reducible refine r_c ?_
  | with_reducible refine r_asg ?_
  | with_reducible refine r_name ?_
  | with_reducible refine r_i0 ?_
  | ((with_reducible refine' r_i ?rc ?_); (case rc => wtm_at "c"))
  | ((with_reducible refine' r_ixL ?r1 ?r2 ?_); (case r1 => wtm_at "hpL"); (case r2 => first | exact rfl | assumption))
  | ((with_reducible refine' r_ixT ?r1 ?r2 ?_); (case r1 => wtm_at "hpT"); (case r2 => first | exact rfl | assumption))
  | with_reducible refine r_consA ?_
  | with_reducible refine r_nilA ?_
  | with_reducible refine r_call ?_
  | with_reducible refine r_cb ?_
  | with_reducible refine r_test ?_
  | with_reducible refine r_exb ?_
  | ((with_reducible refine r_eq ?rq ?_); (case rq => exact rfl))
  | ((with_reducible refine r_ne ?rq ?_); (case rq => exact rfl))
  | with_reducible refine r_ret ?_
  | with_reducible refine r_if ?_
  | with_reducible refine r_next ?_
  | with_reducible refine r_drop ?_
  | with_reducible refine r_gsub ?_
  | ((with_reducible refine' r_setL ?r1 ?r2 ?_); (case r1 => wtm_at "hp"); (case r2 => exact rfl))
  | with_reducible refine r_b ?_
  | with_reducible refine r_and ?_
  | with_reducible refine r_or ?_
  | with_reducible refine r_not ?_
  | with_reducible refine r_andV ?_
  | with_reducible refine r_orV ?_
  | with_reducible refine r_notV ?_
  | with_reducible refine r_ifE ?_
  | with_reducible refine r_chain ?_
  | with_reducible refine r_u ?_
  | with_reducible refine r_un ?_
  | with_reducible refine r_fld ?_
  | with_reducible refine r_fldS ?_
  | with_reducible refine r_lst ?_
  | with_reducible refine r_tup ?_
  | with_reducible refine r_par ?_
  | with_reducible refine r_par3 ?_
  | with_reducible refine r_retN ?_
  | with_reducible refine r_gcons ?_
  | with_reducible refine r_gnil ?_
  | ((with_reducible refine' r_gtup ?r1 ?r2 ?_); (case r1 => wtm_at "hpT"); (case r2 => exact rfl))
  | with_reducible refine r_bm ?_
  | with_reducible refine r_bm0 ?_
  | with_reducible refine r_lcL ?_
  | with_reducible refine r_foL ?_
  | with_reducible refine r_foR ?_
  | with_reducible refine r_yes ?_
  | ((with_reducible refine' r_wipe ?rw ?_); (case rw => exact rfl))
  | ((with_reducible refine' r_tyL ?r1 ?_); (case r1 => wtm_at "hpL"))
  | ((with_reducible refine' r_append ?r1 ?r2 ?_); (case r1 => wtm_at "hp"); (case r2 => wtm_at "sz"))
  | with_reducible refine r_dput ?_
  | with_reducible refine r_dget ?_
  | with_reducible refine r_dget2 ?_
  | with_reducible refine r_dnew ?_
  | with_reducible refine iteT ?_
  | with_reducible refine iteF ?_
  | with_reducible refine iteNT ?_
  | with_reducible refine iteNF ?_)
local macro_rules | `(tactic| wtm_at "go") => `(tactic| repeat wtm_at "go1")

def sp_check_size : Sp := fun vs H Q _ => ∃ i : Int, vs = [.int i] ∧ 0 ≤ i ∧ i ≤ 6 ∧ Q .non H
def sp_check_results : Sp := fun vs H Q _ => ∃ (l : Addr) (xs : List V) (ps : List P2) (k : Int), vs = [.ref l, .int k] ∧ H l = some (.lst xs) ∧ Prs H xs ps ∧ ps.length ≤ 200 ∧ 0 ≤ k ∧ k ≤ 6 ∧ (∀ p ∈ ps, isRes k p = true) ∧ ∀ H', Same H H' → Q .non H'
def sp_check_claims : Sp := fun vs H Q _ => ∃ (l : Addr) (xs : List V) (ps : List P2) (k : Int), vs = [.ref l, .int k] ∧ H l = some (.lst xs) ∧ Prs H xs ps ∧ ps.length ≤ 200 ∧ 0 ≤ k ∧ k ≤ 6 ∧ (∀ p ∈ ps, isCl k p = true) ∧ ∀ H', Same H H' → Q .non H'
def sp_greatest_claims : Sp := fun vs H Q _ => ∃ (l : Addr) (ps : List P2), vs = [.ref l] ∧ PL H l ps ∧ ps.length ≤ 100000 ∧ ∀ H' r, Same H H' → H r = none → PL H' r (gcl ps) → Q (.ref r) H'
theorem take_snoc {α : Type} {l : List α} {i : Nat} {x : α} (h : l[i]? = some x) : l.take (i + 1) = l.take i ++ [x] := by
  rw [List.take_add_one, h]
  rfl
theorem ofKeys_snoc (l : List P2) (ks : List Int) (k : Int) : ofKeys l (ks ++ [k]) = ofKeys l ks ++ if mx l k > 0 then [(k, mx l k)] else [] := by
  unfold ofKeys
  rw [List.filter_append, List.map_append]
  congr 1
  by_cases h : mx l k > 0
  · rw [if_pos h, List.filter_cons_of_pos (by simpa using h)]; rfl
  · rw [if_neg h, List.filter_cons_of_neg (by simpa using h)]; rfl
theorem Same.free {H H' : Hp} {p : Addr} (s : Same H H') (h : H' p = none) : H p = none := by
  cases e : H p with
  | none => rfl
  | some u => rw [s _ _ e] at h; cases h
theorem line_big : (100000 : Nat) < sizeLine := by rw [sizeLine_eq]; decide
section
variable {P : Program} {w : World} {K : PySem.W.Frag} {mg : Str → Option Value} {base : Heap} {a : Ad}
theorem sc_check_size : FnScope ["size"] ["size"] (defScope s_check_size) := ⟨rfl, rfl, rfl, by decide +kernel, rfl, by decide +kernel, by decide +kernel⟩
theorem ok_check_size (T : Txt K mg a) : FnOk P w K mg base CX0 3 a.f_check_size a.d_check_size ["size"] (sp_check_size) := by
  refine T.F_check_size.ok sc_check_size (fun vs H Q E h => (by repeat (first | (obtain ⟨rfl, _⟩ := h; rfl) | obtain ⟨_, h⟩ := h))) (fun cdv A outer s H vs Q E hr h => ?_)
  have nd := sc_check_size.nd
  have hu := hr.units
  have hu1 := hu_of hr
  obtain ⟨i, rfl, h0, h6, k⟩ := h
  refine ⟨_, (pss_one (ps_if (pt_not (pt_val (pe_call (ok_is_size T) (hr.mono (by decide)) (by exact rfl) T.m_is_size T.F_is_size.kp T.b_is_size .nil pass0 (pa_cons (pv 0) pa_nil)))) (pss_one ps_never) pss_nil)), ?_⟩
  wtm_at "go"
  refine ⟨_, rfl, ?_⟩
  wtm_at "go"
  refine iteND (fun h => absurd ⟨h0, h6⟩ h) (fun _ => ?_)
  wtm_at "go"
  exact k
theorem rep_all (n : Nat) : (List.replicate n true).all id = true := by
  rw [List.all_eq_true]
  intro x hx
  exact (List.eq_of_mem_replicate hx)
theorem sc_check_results : FnScope ["results", "size", "item"] ["results", "size"] (defScope s_check_results) := ⟨rfl, rfl, rfl, by decide +kernel, rfl, by decide +kernel, by decide +kernel⟩
theorem ok_check_results (T : Txt K mg a) : FnOk P w K mg base CX0 4 a.f_check_results a.d_check_results ["results", "size"] (sp_check_results) := by
  refine T.F_check_results.ok sc_check_results (fun vs H Q E h => (by repeat (first | (obtain ⟨rfl, _⟩ := h; rfl) | obtain ⟨_, h⟩ := h))) (fun cdv A outer s H vs Q E hr h => ?_)
  have nd := sc_check_results.nd
  have hu := hr.units
  have hu1 := hu_of hr
  obtain ⟨l, xs, ps, z, rfl, hl, hp, hn, h0, h6, hv, k⟩ := h
  refine ⟨_, (pss_one (ps_if (PW.pt (pw_or (pt_not (pt_val (pe_call (ok_is_short_list T) (hr.mono (by decide)) (by exact rfl) T.m_is_short_list T.F_is_short_list.kp T.b_is_short_list .nil pass0 (pa_cons (pv 0) pa_nil)))) (pw_or1 (pt_not (pt_val (pe_callB (cr_all rfl) (by exact rfl) T.z_all (by decide +kernel) (pa_cons (pe_lc (own := [("item", 2)]) rfl nd (pi_list (pv 0)) (blkOk_by (own := [("item", 2)]) (N := ["results", "size", "item"]) (sc := defScope s_check_results) (by decide +kernel)) (fun _ _ _ _ _ => (pg_name (i := 2) nd rfl (Or.inl rfl))) (fun _ _ _ _ _ => pts_nil) (fun _ _ _ _ _ => (pe_call (ok_is_result T) (hr.mono (by decide)) (by exact rfl) T.m_is_result T.F_is_result.kp T.b_is_result .nil pass0 (pa_cons (pv 2) (pa_cons (pv 1) pa_nil))))) pa_nil))))))) (pss_one ps_never) pss_nil)), ?_⟩
  wtm_at "go"
  refine ⟨_, _, rfl, hl, by rw [hp.length]; exact hn, ?_⟩
  wtm_at "go"
  refine lcL (fun i acc G => acc = List.replicate i (V.bl true)) (SqL.of hl) (fun _ _ => rfl) (fun i x G D hi hx ⟨acc, hD, ha, s, nD, e⟩ => ?_) (fun acc G D s nD hD ha e => ?_)
  · wtm_at "go"
    obtain ⟨p, hp1, hp2⟩ := hp.get hx
    refine ⟨_, p, _, rfl, hp2.ext s, h0, h6, ?_⟩
    rw [hv p (List.mem_of_getElem? hp1)]
    have hlt := hp.length
    exact lcT hD ha (by have := line_big; omega) s nD (Same.refl _) fun _ _ _ => by
      show acc ++ [V.bl true] = List.replicate (i + 1) (V.bl true)
      rw [show acc = List.replicate i (V.bl true) from e, List.replicate_succ']
  · wtm_at "go"
    refine ⟨_, List.replicate xs.length true, rfl, SqL.of (by rw [hD, List.map_replicate]; exact congrArg (fun q => some (HO.lst q)) e), ?_⟩
    rw [rep_all]
    wtm_at "go"
    exact k _ s
theorem sc_check_claims : FnScope ["claims", "size", "item"] ["claims", "size"] (defScope s_check_claims) := ⟨rfl, rfl, rfl, by decide +kernel, rfl, by decide +kernel, by decide +kernel⟩
theorem ok_check_claims (T : Txt K mg a) : FnOk P w K mg base CX0 4 a.f_check_claims a.d_check_claims ["claims", "size"] (sp_check_claims) := by
  refine T.F_check_claims.ok sc_check_claims (fun vs H Q E h => (by repeat (first | (obtain ⟨rfl, _⟩ := h; rfl) | obtain ⟨_, h⟩ := h))) (fun cdv A outer s H vs Q E hr h => ?_)
  have nd := sc_check_claims.nd
  have hu := hr.units
  have hu1 := hu_of hr
  obtain ⟨l, xs, ps, z, rfl, hl, hp, hn, h0, h6, hv, k⟩ := h
  refine ⟨_, (pss_one (ps_if (PW.pt (pw_or (pt_not (pt_val (pe_call (ok_is_short_list T) (hr.mono (by decide)) (by exact rfl) T.m_is_short_list T.F_is_short_list.kp T.b_is_short_list .nil pass0 (pa_cons (pv 0) pa_nil)))) (pw_or1 (pt_not (pt_val (pe_callB (cr_all rfl) (by exact rfl) T.z_all (by decide +kernel) (pa_cons (pe_lc (own := [("item", 2)]) rfl nd (pi_list (pv 0)) (blkOk_by (own := [("item", 2)]) (N := ["claims", "size", "item"]) (sc := defScope s_check_claims) (by decide +kernel)) (fun _ _ _ _ _ => (pg_name (i := 2) nd rfl (Or.inl rfl))) (fun _ _ _ _ _ => pts_nil) (fun _ _ _ _ _ => (pe_call (ok_is_claim T) (hr.mono (by decide)) (by exact rfl) T.m_is_claim T.F_is_claim.kp T.b_is_claim .nil pass0 (pa_cons (pv 2) (pa_cons (pv 1) pa_nil))))) pa_nil))))))) (pss_one ps_never) pss_nil)), ?_⟩
  wtm_at "go"
  refine ⟨_, _, rfl, hl, by rw [hp.length]; exact hn, ?_⟩
  wtm_at "go"
  refine lcL (fun i acc G => acc = List.replicate i (V.bl true)) (SqL.of hl) (fun _ _ => rfl) (fun i x G D hi hx ⟨acc, hD, ha, s, nD, e⟩ => ?_) (fun acc G D s nD hD ha e => ?_)
  · wtm_at "go"
    obtain ⟨p, hp1, hp2⟩ := hp.get hx
    refine ⟨_, p, _, rfl, hp2.ext s, h0, h6, ?_⟩
    rw [hv p (List.mem_of_getElem? hp1)]
    have hlt := hp.length
    exact lcT hD ha (by have := line_big; omega) s nD (Same.refl _) fun _ _ _ => by
      show acc ++ [V.bl true] = List.replicate (i + 1) (V.bl true)
      rw [show acc = List.replicate i (V.bl true) from e, List.replicate_succ']
  · wtm_at "go"
    refine ⟨_, List.replicate xs.length true, rfl, SqL.of (by rw [hD, List.map_replicate]; exact congrArg (fun q => some (HO.lst q)) e), ?_⟩
    rw [rep_all]
    wtm_at "go"
    exact k _ s
theorem sc_greatest_claims : FnScope ["claims", "greatest", "player", "number"] ["claims"] (defScope s_greatest_claims) := ⟨rfl, rfl, rfl, by decide +kernel, rfl, by decide +kernel, by decide +kernel⟩
theorem ok_greatest_claims (T : Txt K mg a) : FnOk P w K mg base CX0 1 a.f_greatest_claims a.d_greatest_claims ["claims"] (sp_greatest_claims) := by
  refine T.F_greatest_claims.ok sc_greatest_claims (fun vs H Q E h => (by repeat (first | (obtain ⟨rfl, _⟩ := h; rfl) | obtain ⟨_, h⟩ := h))) (fun cdv A outer s H vs Q E hr h => ?_)
  have nd := sc_greatest_claims.nd
  have hu := hr.units
  have hu1 := hu_of hr
  obtain ⟨l, ps, rfl, ⟨xs, hl, hp⟩, hn, k⟩ := h
  refine ⟨_, (pss_cons (ps_set (i := 1) nd rfl (Or.inr rfl) pe_dnewK)
      (pss_cons (ps_for PassesOwn.never rfl (pi_list (pv 0)) (pg_tup rfl (pgs_cons (pg_name (i := 2) nd rfl (Or.inl rfl)) (pgs_cons (pg_name (i := 3) nd rfl (Or.inl rfl)) pgs_nil)))
      (pss_one (ps_dput hu1 (pv 1) (pv 2) (pe_callB (call_max2 rfl) (by exact rfl) T.z_max (by decide +kernel) (pa_cons (pv 3) (pa_cons (pe_dget2 hu1 (pv 1) (pv 2) pe_int ⟨rfl, rfl, rfl, rfl⟩) pa_nil))) rfl)))
      (pss_one (ps_ret (pe_lc (own := [("player", 2)]) rfl nd (pi_list (pe_callB (cr_sortD hu rfl) (by exact rfl) T.z_sorted (by decide +kernel) (pa_cons (pv 1) pa_nil))) (blkOk_by (own := [("player", 2)]) (N := ["claims", "greatest", "player", "number"]) (sc := defScope s_greatest_claims) (by decide +kernel)) (fun _ _ _ _ _ => (pg_name (i := 2) nd rfl (Or.inl rfl))) (fun _ _ _ _ _ => (pts_one (pt_cmpR op_gt (pe_dget hu1 (pv 1) (pv 2) (fun _ _ => rfl)) pe_int (nomark _)))) (fun _ _ _ _ _ => (pe_tup (pa_cons (pv 2) (pa_cons (pe_dget hu1 (pv 1) (pv 2) (fun _ _ => rfl)) pa_nil))))))))), ?_⟩
  wtm_at "go"
  refine fun d n_d => ?_
  generalize e_H1 : upd _ d _ = H1
  have s_H1 := same_upd n_d e_H1
  have h_d := upd_at e_H1
  clear e_H1
  wtm_at "go"
  refine foL (xs := xs) ((s_H1 _ _ hl |> SqL.of)) (fun i σ G => ∃ u v kvs, σ = [some (.ref l), some (.ref d), u, v] ∧ Same H G ∧ G d = some (.dK kvs) ∧ Best kvs (ps.take i)) ⟨_, _, _, rfl, s_H1, h_d, Best.nil⟩ (fun i σ G _ ⟨_, _, _, _, s, _⟩ => SqL.of (s _ _ hl)) (fun i x σ G hi hx ⟨u, v, kvs, e, s, hd, hb⟩ => ?_) (fun σ G ⟨u, v, kvs, e, s, hd, hb⟩ => ?_)
  · subst e
    obtain ⟨p, hp1, hp2⟩ := hp.get hx
    obtain ⟨t, rfl, ht⟩ := hp2.ext s
    wtm_at "go"
    refine e_isd hd ?_
    wtm_at "go"
    refine e_dget2 hd ?_
    rw [hb.val]
    wtm_at "go"
    refine ⟨_, _, rfl, ?_⟩
    wtm_at "go"
    have hlen := hb.len
    rw [List.length_take] at hlen
    have hlt := hp.length
    refine e_dput hd (by have := line_big; omega) (hold ?_)
    generalize e_G2 : upd G d _ = G2
    have b := but_upd e_G2
    have hd2 := upd_at e_G2
    refine ⟨_, _, _, rfl, b.same s n_d, hd2, ?_⟩
    rw [take_snoc hp1]
    exact hb.put p
  · subst e
    have htk : ps.take xs.length = ps := by rw [hp.length, List.take_length]
    rw [htk] at hb
    obtain ⟨ks, k1, k2, k3⟩ := hb.keys
    wtm_at "go"
    refine ⟨d, kvs, ks, rfl, .inl hd, k1, ?_⟩
    refine fun q n_q => ?_
    generalize e_G1 : upd _ q _ = G1
    have s_G1 := same_upd n_q e_G1
    have h_q := upd_at e_G1
    clear e_G1
    have hd1 := s_G1 _ _ hd
    refine lcL (fun i acc G' => Prs G' acc (ofKeys ps ((isort ks).take i))) (SqL.of h_q) (fun _ _ => .nil) (fun i x G' D hi hx ⟨acc, hD, ha, s2, nD, e⟩ => ?_) (fun acc G' D s2 nD hD ha e => ?_)
    · obtain ⟨n, hn1, rfl⟩ : ∃ n, (isort ks)[i]? = some n ∧ V.int n = x := by
        rw [List.getElem?_map] at hx
        cases z : (isort ks)[i]? with
        | none => rw [z] at hx; cases hx
        | some n => rw [z] at hx; exact ⟨n, rfl, Option.some.inj hx⟩
      have hmem : n ∈ ks := (isort_perm ks).mem_iff.mp (List.mem_of_getElem? hn1)
      have hg := hb.has n ((k3 n).mp hmem)
      have hd2 := s2 _ _ hd1
      wtm_at "go"
      refine e_dget hd2 hg ?_
      wtm_at "go"
      refine iteD (fun hpos => ?_) (fun hpos => ?_)
      · wtm_at "go"
        refine e_dget hd2 hg ?_
        wtm_at "go"
        refine ⟨by wtm_at "sz", fun t n_t => ?_⟩
        generalize e_G3 : upd _ t _ = G3
        have s_G3 := same_upd n_t e_G3
        have h_t := upd_at e_G3
        clear e_G3
        have hlk : ks.length ≤ ps.length := by
          have z1 := congrArg List.length k1
          rw [List.length_map, List.length_map] at z1
          rw [← z1]
          exact hb.len
        rw [List.length_map] at hi
        have hil := (isort_perm ks).length_eq
        exact lcT hD ha (by have := line_big; omega) s2 nD s_G3 fun H5 b5 hD5 => by
          show Prs H5 _ (ofKeys ps ((isort ks).take (i + 1)))
          rw [take_snoc hn1, ofKeys_snoc, if_pos hpos]
          exact Prs.app (b5.prs hD5 (Prs.ext e s_G3)) (.cons ⟨_, rfl, b5 _ _ (ne_tup_lst h_t hD5) h_t⟩ .nil)
      · exact lcN hD ha s2 nD (Same.refl _) (by
          show Prs G' _ (ofKeys ps ((isort ks).take (i + 1)))
          rw [take_snoc hn1, ofKeys_snoc, if_neg hpos, List.append_nil]
          exact e)
    · refine k G' D ((s.trans s_G1).trans s2) ((s.trans s_G1).free nD) ⟨acc, hD, ?_⟩
      rw [List.length_map, List.take_length, ofKeys_sorted k2 k3] at e
      exact e
end
end Ct
end
section
set_option Elab.async false
set_option linter.all false
set_option maxRecDepth 100000
set_option maxHeartbeats 8000000
namespace Ct
open PySem PySem.Spec L2 StX

local macro_rules | `(tactic| wtm_at "hp") => `(tactic| first
  | assumption
  | exact (‹Same _ _›) _ _ (by wtm_at "hp")
  | exact (‹But _ _ _›) _ _ (by wtm_at "ne") (by wtm_at "hp"))
local macro_rules | `(tactic| wtm_at "hpL") => `(tactic| first | exact SqL.of (by wtm_at "hp") | assumption)
local macro_rules | `(tactic| wtm_at "hpT") => `(tactic| first | exact SqT.of (by wtm_at "hp") | assumption)
local macro_rules | `(tactic| wtm_at "ne") => `(tactic| first
  | assumption
  | exact Ne.symm (by assumption)
  | exact ne_lst_tup (by wtm_at "hp") (by wtm_at "hp")
  | exact ne_tup_lst (by wtm_at "hp") (by wtm_at "hp")
  | exact ne_of_none (by wtm_at "hp") (by assumption)
  | exact Ne.symm (ne_of_none (by wtm_at "hp") (by assumption)))
local macro_rules | `(tactic| wtm_at "c") => `(tactic| first
  | omega
  | (unfold CMul; omega)
  | (unfold CDiv; omega)
  | (unfold CPow; omega))
local macro_rules | `(tactic| wtm_at "sz") => `(tactic| first
  | exact sz64 rfl
  | exact (by decide)
  | (show _ ≤ sizeLine; rw [sizeLine_eq]; omega)
  | (show _ < sizeLine; rw [sizeLine_eq]; omega))
local macro_rules | `(tactic| wtm_at "go1") => `(tactic| first
  | with_reducible refine r_seq ?_
  | with_reducible refine r_op ?_
  | ((with_reducible refine' r_var ?rv ?_); (case rv => exact rfl))
  | with_reducible refine r_c ?_
  | with_reducible refine r_asg ?_
  | with_reducible refine r_name ?_
  | with_reducible refine r_i0 ?_
  | ((with_reducible refine' r_i ?rc ?_); (case rc => wtm_at "c"))
  | ((with_reducible refine' r_ixL ?r1 ?r2 ?_); (case r1 => wtm_at "hpL"); (case r2 => first | exact rfl | assumption))
  | ((with_reducible refine' r_ixT ?r1 ?r2 ?_); (case r1 => wtm_at "hpT"); (case r2 => first | exact rfl | assumption))
  | with_reducible refine r_consA ?_
  | with_reducible refine r_nilA ?_
  | with_reducible refine r_call ?_
  | with_reducible refine r_cb ?_
  | with_reducible refine r_test ?_
  | with_reducible refine r_exb ?_
  | ((with_reducible refine r_eq ?rq ?_); (case rq => exact rfl))
  | ((with_reducible refine r_ne ?rq ?_); (case rq => exact rfl))
  | with_reducible refine r_ret ?_
  | with_reducible refine r_if ?_
  | with_reducible refine r_next ?_
  | with_reducible refine r_drop ?_
  | with_reducible refine r_gsub ?_
  | ((with_reducible refine' r_setL ?r1 ?r2 ?_); (case r1 => wtm_at "hp"); (case r2 => exact rfl))
  | with_reducible refine r_b ?_
  | with_reducible refine r_and ?_
  | with_reducible refine r_or ?_
  | with_reducible refine r_not ?_
  | with_reducible refine r_andV ?_
  | with_reducible refine r_orV ?_
  | with_reducible refine r_notV ?_
  | with_reducible refine r_ifE ?_
  | with_reducible refine r_chain ?_
  | with_reducible refine r_u ?_
  | with_reducible refine r_un ?_
  | with_reducible refine r_fld ?_
  | with_reducible refine r_fldS ?_
  | with_reducible refine r_lst ?_
  | with_reducible refine r_tup ?_
  | with_reducible refine r_par ?_
  | with_reducible refine r_par3 ?_
  | with_reducible refine r_retN ?_
  | with_reducible refine r_gcons ?_
  | with_reducible refine r_gnil ?_
  | ((with_reducible refine' r_gtup ?r1 ?r2 ?_); (case r1 => wtm_at "hpT"); (case r2 => exact rfl))
  | with_reducible refine r_bm ?_
  | with_reducible refine r_bm0 ?_
  | with_reducible refine r_lcL ?_
  | with_reducible refine r_foL ?_
  | with_reducible refine r_foR ?_
  | with_reducible refine r_yes ?_
  | ((with_reducible refine' r_wipe ?rw ?_); (case rw => exact rfl))
  | ((with_reducible refine' r_tyL ?r1 ?_); (case r1 => wtm_at "hpL"))
  | ((with_reducible refine' r_append ?r1 ?r2 ?_); (case r1 => wtm_at "hp"); (case r2 => wtm_at "sz"))
  | with_reducible refine r_dput ?_
  | with_reducible refine r_dget ?_
  | with_reducible refine r_dget2 ?_
  | with_reducible refine r_dnew ?_
  | with_reducible refine iteT ?_
  | with_reducible refine iteF ?_
  | with_reducible refine iteNT ?_
  | with_reducible refine iteNF ?_)
local macro_rules | `(tactic| wtm_at "go") => `(tactic| repeat wtm_at "go1")

/-- a talk at t: its fields and its two lists -/
structure TalkR (C : Addr) (H : Hp) (t r c : Addr) (w : Int) (rs cs : List P2) : Prop where
  at_ : ∃ dx fs, H t = some (.ins C dx fs) ∧ fs.lookup ("_size" : Str) = some (.int w) ∧ fs.lookup ("_results" : Str) = some (.ref r) ∧ fs.lookup ("_claims" : Str) = some (.ref c) ∧ fs.length < 1000 ∧ ∀ f : Str, f ≠ ("_size" : Str) → f ≠ ("_results" : Str) → f ≠ ("_claims" : Str) → fs.lookup f = none
  res : PL H r rs
  cla : PL H c cs
theorem TalkR.ext {C : Addr} {H H' : Hp} {t r c : Addr} {w : Int} {rs cs : List P2} (h : TalkR C H t r c w rs cs) (e : Same H H') : TalkR C H' t r c w rs cs :=
  ⟨let ⟨dx, fs, h1, h2⟩ := h.at_; ⟨dx, fs, e _ _ h1, h2⟩, h.res.ext e, h.cla.ext e⟩
theorem ne_ins_lst {H : Hp} {p q C dx : Addr} {fs : List (Str × V)} {xs : List V} (h : H p = some (.ins C dx fs)) (h' : H q = some (.lst xs)) : q ≠ p := ne_of h' h (by intro z; cases z)
theorem ne_ins_tup {H : Hp} {p q C dx : Addr} {fs : List (Str × V)} {xs : List V} (h : H p = some (.ins C dx fs)) (h' : H q = some (.tup xs)) : q ≠ p := ne_of h' h (by intro z; cases z)
theorem But.prsI {H H' : Hp} {t C dx : Addr} {fs : List (Str × V)} {xs : List V} {ps : List P2} (b : But t H H') (ht : H t = some (.ins C dx fs)) (h : Prs H xs ps) : Prs H' xs ps :=
  L2.Paired.mapP h fun _ _ ⟨u, e, hu⟩ => ⟨u, e, b _ _ (ne_ins_tup ht hu) hu⟩
theorem But.plI {H H' : Hp} {t l C dx : Addr} {fs : List (Str × V)} {ps : List P2} (b : But t H H') (ht : H t = some (.ins C dx fs)) (h : PL H l ps) : PL H' l ps :=
  let ⟨xs, h1, h2⟩ := h; ⟨xs, b _ _ (ne_ins_lst ht h1) h1, b.prsI ht h2⟩
def sp_Talk___init__ (a : Ad) : Sp := fun vs H Q _ => ∃ (t dx : Addr) (l m : Addr) (w : Int) (rs cs : List P2), vs = [.ref t, .int w, .ref l, .ref m] ∧ H t = some (.ins a.C_Talk dx []) ∧ PL H l rs ∧ PL H m cs ∧ rs.length ≤ 200 ∧ cs.length ≤ 200 ∧
  0 ≤ w ∧ w ≤ 6 ∧ (∀ p ∈ rs, isRes w p = true) ∧ (∀ p ∈ cs, isCl w p = true) ∧ ∀ H' r c, But t H H' → H r = none → H c = none → TalkR a.C_Talk H' t r c w (pset rs) (gcl cs) → Q .non H'
def sp_Talk_size (a : Ad) : Sp := fun vs H Q _ => ∃ (t r c : Addr) (w : Int) (rs cs : List P2), vs = [.ref t] ∧ TalkR a.C_Talk H t r c w rs cs ∧ Q (.int w) H
def sp_Talk_results (a : Ad) : Sp := fun vs H Q _ => ∃ (t r c : Addr) (w : Int) (rs cs : List P2), vs = [.ref t] ∧ TalkR a.C_Talk H t r c w rs cs ∧ ∀ H' x, Same H H' → H x = none → PL H' x rs → Q (.ref x) H'
def sp_Talk_claims (a : Ad) : Sp := fun vs H Q _ => ∃ (t r c : Addr) (w : Int) (rs cs : List P2), vs = [.ref t] ∧ TalkR a.C_Talk H t r c w rs cs ∧ ∀ H' x, Same H H' → H x = none → PL H' x cs → Q (.ref x) H'
def sp_Talk___len__ (a : Ad) : Sp := fun vs H Q _ => ∃ (t r c : Addr) (w : Int) (rs cs : List P2), vs = [.ref t] ∧ TalkR a.C_Talk H t r c w rs cs ∧ rs.length + cs.length ≤ 100000 ∧ ∀ H', Same H H' → Q (.int (rs.length + cs.length : Nat)) H'
def sp_Talk___eq__ (a : Ad) : Sp := fun vs H Q _ => ∃ (t r c : Addr) (w : Int) (rs cs : List P2) (t' r' c' : Addr) (w' : Int) (rs' cs' : List P2), vs = [.ref t, .ref t'] ∧ TalkR a.C_Talk H t r c w rs cs ∧ TalkR a.C_Talk H t' r' c' w' rs' cs' ∧
  rs.length ≤ 10000 ∧ cs.length ≤ 10000 ∧ rs'.length ≤ 10000 ∧ cs'.length ≤ 10000 ∧ Q (.bl (decide (w = w') && decide (rs = rs') && decide (cs = cs'))) H
section
variable {P : Program} {w : World} {K : PySem.W.Frag} {mg : Str → Option Value} {base : Heap} {a : Ad}
theorem sc_Talk___init__ : FnScope ["self", "size", "results", "claims"] ["self", "size", "results", "claims"] (defScope s_Talk___init__) := ⟨rfl, rfl, rfl, by decide +kernel, rfl, by decide +kernel, by decide +kernel⟩
theorem ok_Talk___init__ (T : Txt K mg a) : FnOk P w K mg base CX0 5 a.f_Talk___init__ a.d_Talk___init__ ["self", "size", "results", "claims"] (sp_Talk___init__ a) := by
  refine T.F_Talk___init__.ok sc_Talk___init__ (fun vs H Q E h => (by repeat (first | (obtain ⟨rfl, _⟩ := h; rfl) | obtain ⟨_, h⟩ := h))) (fun cdv A outer s H vs Q E hr h => ?_)
  have nd := sc_Talk___init__.nd
  have hu := hr.units
  have hu1 := hu_of hr
  obtain ⟨t, dx, l, m, w, rs, cs, rfl, ht, hr', hc', hrn, hcn, h0, h6, hrv, hcv, k⟩ := h
  refine ⟨_, (pss_cons (ps_expr (pe_call (ok_check_size T) (hr.mono (by decide)) (by exact rfl) T.m_check_size T.F_check_size.kp T.b_check_size .nil pass0 (pa_cons (pv 1) pa_nil)))
      (pss_cons (ps_expr (pe_call (ok_check_results T) (hr.mono (by decide)) (by exact rfl) T.m_check_results T.F_check_results.kp T.b_check_results .nil pass0 (pa_cons (pv 2) (pa_cons (pv 1) pa_nil))))
      (pss_cons (ps_expr (pe_call (ok_check_claims T) (hr.mono (by decide)) (by exact rfl) T.m_check_claims T.F_check_claims.kp T.b_check_claims .nil pass0 (pa_cons (pv 3) (pa_cons (pv 1) pa_nil))))
      (pss_cons (ps_fld (pv 0) (pv 1) rfl)
      (pss_cons (ps_fld (pv 0) (pe_callB (cr_sortS hu rfl) (by exact rfl) T.z_sorted (by decide +kernel) (pa_cons (pe_callTy (cr_setP rfl hu) (by exact rfl) T.z_set (by decide +kernel) (pa_cons (pv 2) pa_nil)) pa_nil)) rfl)
      (pss_one (ps_fld (pv 0) (pe_call (ok_greatest_claims T) (hr.mono (by decide)) (by exact rfl) T.m_greatest_claims T.F_greatest_claims.kp T.b_greatest_claims .nil pass0 (pa_cons (pv 3) pa_nil)) rfl))))))), ?_⟩
  wtm_at "go"
  refine ⟨w, rfl, h0, h6, ?_⟩
  wtm_at "go"
  obtain ⟨xs, hl, hp⟩ := hr'
  refine ⟨l, xs, rs, w, rfl, hl, hp, hrn, h0, h6, hrv, fun H1 s1 => ?_⟩
  wtm_at "go"
  obtain ⟨ys, hm, hpm⟩ := hc'
  refine ⟨m, ys, cs, w, rfl, s1 _ _ hm, hpm.ext s1, hcn, h0, h6, hcv, fun H2 s2 => ?_⟩
  have s := s1.trans s2
  have ht2 := s _ _ ht
  wtm_at "go"
  refine ⟨t, _, dx, [], rfl, ht2, T.cl_Talk, T.n_Talk__size, Nat.le_of_ble_eq_true rfl, ?_⟩
  refine hold ?_
  generalize e_H3 : upd _ t _ = H3
  have b_H3 := but_upd e_H3
  have h_H3 := upd_at e_H3
  clear e_H3
  have l3 : PL H3 l rs := b_H3.plI ht2 ⟨xs, s _ _ hl, hp.ext s⟩
  have m3 : PL H3 m cs := b_H3.plI ht2 ⟨ys, s _ _ hm, hpm.ext s⟩
  have b3 : But t H H3 := (Same.but s).trans b_H3
  obtain ⟨xs3, hl3, hp3⟩ := l3
  wtm_at "go"
  refine ⟨l, xs3, rs, rfl, .of hl3, hp3, by omega, fun d o nd' sp => ?_⟩
  generalize e_H4 : upd _ d _ = H4 at sp ⊢
  have s4 := same_upd nd' e_H4
  wtm_at "go"
  refine ⟨d, rs, rfl, sp, fun r zs nr hz => ?_⟩
  generalize e_H5 : upd _ r _ = H5
  have s5 := same_upd nr e_H5
  have h_r := upd_at e_H5
  have hz5 := hz.ext s5
  wtm_at "go"
  have ht5 := s5 _ _ (s4 _ _ h_H3)
  refine ⟨t, _, dx, _, rfl, ht5, T.cl_Talk, T.n_Talk__results, Nat.le_of_ble_eq_true rfl, ?_⟩
  refine hold ?_
  generalize e_H6 : upd _ t _ = H6
  have b_H6 := but_upd e_H6
  have h_H6 := upd_at e_H6
  clear e_H6
  have b6 : But t H H6 := (b3.trans (Same.but (s4.trans s5))).trans b_H6
  have r6 : PL H6 r (pset rs) := b_H6.plI ht5 ⟨zs, h_r, hz5⟩
  have m6 : PL H6 m cs := b_H6.plI ht5 (m3.ext (s4.trans s5))
  wtm_at "go"
  refine ⟨m, cs, rfl, m6, by omega, fun H7 c s7 nc hc7 => ?_⟩
  wtm_at "go"
  have ht7 := s7 _ _ h_H6
  refine ⟨t, _, dx, _, rfl, ht7, T.cl_Talk, T.n_Talk__claims, Nat.le_of_ble_eq_true rfl, ?_⟩
  refine hold ?_
  generalize e_H8 : upd _ t _ = H8
  have b_H8 := but_upd e_H8
  have h_H8 := upd_at e_H8
  clear e_H8
  wtm_at "go"
  have b8 : But t H H8 := (b6.trans (Same.but s7)).trans b_H8
  refine k H8 r c b8 (b3.free h_H3 (s4.free nr)) (b6.free h_H6 nc) ⟨⟨dx, _, h_H8, rfl, rfl, rfl, Nat.le_of_ble_eq_true rfl, fun f n1 n2 n3 => ?_⟩, b_H8.plI ht7 (r6.ext s7), b_H8.plI ht7 hc7⟩
  rw [lookup_putF, if_neg n3, lookup_putF, if_neg n2, lookup_putF, if_neg n1]
  rfl
theorem sc_Talk_size : FnScope ["self"] ["self"] (defScope s_Talk_size) := ⟨rfl, rfl, rfl, by decide +kernel, rfl, by decide +kernel, by decide +kernel⟩
theorem ok_Talk_size (T : Txt K mg a) : FnOk P w K mg base CX0 1 a.f_Talk_size a.d_Talk_size ["self"] (sp_Talk_size a) := by
  refine T.F_Talk_size.ok sc_Talk_size (fun vs H Q E h => (by repeat (first | (obtain ⟨rfl, _⟩ := h; rfl) | obtain ⟨_, h⟩ := h))) (fun cdv A outer s H vs Q E hr h => ?_)
  have nd := sc_Talk_size.nd
  have hu := hr.units
  have hu1 := hu_of hr
  obtain ⟨t, r, c, w, rs, cs, rfl, ⟨⟨dx, fs, h1, h2, h3, h4, h5, h6⟩, hr1, hc1⟩, k⟩ := h
  refine ⟨_, (pss_one (ps_ret (pe_fld (pv 0) rfl))), ?_⟩
  wtm_at "go"
  refine ⟨t, _, dx, fs, _, rfl, h1, T.cl_Talk, T.n_Talk__size, h2, ?_⟩
  wtm_at "go"
  exact k
theorem sc_Talk_results : FnScope ["self"] ["self"] (defScope s_Talk_results) := ⟨rfl, rfl, rfl, by decide +kernel, rfl, by decide +kernel, by decide +kernel⟩
theorem ok_Talk_results (T : Txt K mg a) : FnOk P w K mg base CX0 1 a.f_Talk_results a.d_Talk_results ["self"] (sp_Talk_results a) := by
  refine T.F_Talk_results.ok sc_Talk_results (fun vs H Q E h => (by repeat (first | (obtain ⟨rfl, _⟩ := h; rfl) | obtain ⟨_, h⟩ := h))) (fun cdv A outer s H vs Q E hr h => ?_)
  have nd := sc_Talk_results.nd
  have hu := hr.units
  have hu1 := hu_of hr
  obtain ⟨t, r, c, w, rs, cs, rfl, ⟨⟨dx, fs, h1, h2, h3, h4, h5, h6⟩, ⟨xs, hx, hp⟩, hc1⟩, k⟩ := h
  refine ⟨_, (pss_one (ps_ret (pe_callTy call_list_of (by exact rfl) T.z_list (by decide +kernel) (pa_cons (pe_fld (pv 0) rfl) pa_nil)))), ?_⟩
  wtm_at "go"
  refine ⟨t, _, dx, fs, _, rfl, h1, T.cl_Talk, T.n_Talk__results, h3, ?_⟩
  wtm_at "go"
  refine ⟨_, _, rfl, .inl (SqL.of (by wtm_at "hp")), ?_⟩
  refine fun q n_q => ?_
  generalize e_H1 : upd _ q _ = H1
  have s_H1 := same_upd n_q e_H1
  have h_q := upd_at e_H1
  clear e_H1
  wtm_at "go"
  exact k H1 q s_H1 n_q ⟨xs, h_q, hp.ext s_H1⟩
theorem sc_Talk_claims : FnScope ["self"] ["self"] (defScope s_Talk_claims) := ⟨rfl, rfl, rfl, by decide +kernel, rfl, by decide +kernel, by decide +kernel⟩
theorem ok_Talk_claims (T : Txt K mg a) : FnOk P w K mg base CX0 1 a.f_Talk_claims a.d_Talk_claims ["self"] (sp_Talk_claims a) := by
  refine T.F_Talk_claims.ok sc_Talk_claims (fun vs H Q E h => (by repeat (first | (obtain ⟨rfl, _⟩ := h; rfl) | obtain ⟨_, h⟩ := h))) (fun cdv A outer s H vs Q E hr h => ?_)
  have nd := sc_Talk_claims.nd
  have hu := hr.units
  have hu1 := hu_of hr
  obtain ⟨t, r, c, w, rs, cs, rfl, ⟨⟨dx, fs, h1, h2, h3, h4, h5, h6⟩, hr1, ⟨xs, hx, hp⟩⟩, k⟩ := h
  refine ⟨_, (pss_one (ps_ret (pe_callTy call_list_of (by exact rfl) T.z_list (by decide +kernel) (pa_cons (pe_fld (pv 0) rfl) pa_nil)))), ?_⟩
  wtm_at "go"
  refine ⟨t, _, dx, fs, _, rfl, h1, T.cl_Talk, T.n_Talk__claims, h4, ?_⟩
  wtm_at "go"
  refine ⟨_, _, rfl, .inl (SqL.of (by wtm_at "hp")), ?_⟩
  refine fun q n_q => ?_
  generalize e_H1 : upd _ q _ = H1
  have s_H1 := same_upd n_q e_H1
  have h_q := upd_at e_H1
  clear e_H1
  wtm_at "go"
  exact k H1 q s_H1 n_q ⟨xs, h_q, hp.ext s_H1⟩
theorem sc_Talk___len__ : FnScope ["self"] ["self"] (defScope s_Talk___len__) := ⟨rfl, rfl, rfl, by decide +kernel, rfl, by decide +kernel, by decide +kernel⟩
theorem ok_Talk___len__ (T : Txt K mg a) : FnOk P w K mg base CX0 1 a.f_Talk___len__ a.d_Talk___len__ ["self"] (sp_Talk___len__ a) := by
  refine T.F_Talk___len__.ok sc_Talk___len__ (fun vs H Q E h => (by repeat (first | (obtain ⟨rfl, _⟩ := h; rfl) | obtain ⟨_, h⟩ := h))) (fun cdv A outer s H vs Q E hr h => ?_)
  have nd := sc_Talk___len__.nd
  have hu := hr.units
  have hu1 := hu_of hr
  obtain ⟨t, r, c, w, rs, cs, rfl, ⟨⟨dx, fs, h1, h2, h3, h4, h5, h6⟩, ⟨xs, hx, hp⟩, ⟨ys, hy, hq⟩⟩, hn, k⟩ := h
  refine ⟨_, (pss_one (ps_ret (pe_callB call_len_seq (by exact rfl) T.z_len (by decide +kernel) (pa_cons (pe_lst (pa_star (pe_fld (pv 0) rfl) (pa_star (pe_fld (pv 0) rfl) pa_nil))) pa_nil)))), ?_⟩
  wtm_at "go"
  refine r_star ?_
  wtm_at "go"
  refine ⟨t, _, dx, fs, _, rfl, h1, T.cl_Talk, T.n_Talk__results, h3, ?_⟩
  refine ⟨_, _, rfl, .inr (SqL.of hx), ?_⟩
  refine r_star ?_
  wtm_at "go"
  refine ⟨t, _, dx, fs, _, rfl, h1, T.cl_Talk, T.n_Talk__claims, h4, ?_⟩
  refine ⟨_, _, rfl, .inr (SqL.of hy), ?_⟩
  wtm_at "go"
  have e1 := hp.length
  have e2 := hq.length
  have e3 : (xs ++ (ys ++ [])).length = rs.length + cs.length := by rw [List.length_append, List.append_nil, e1, e2]
  refine ⟨by rw [e3]; have := line_big; omega, fun q n_q => ?_⟩
  generalize e_H1 : upd _ q _ = H1
  have s_H1 := same_upd n_q e_H1
  have h_q := upd_at e_H1
  clear e_H1
  wtm_at "go"
  refine ⟨_, _, rfl, .inl (SqL.of (by wtm_at "hp")), ?_⟩
  rw [e3]
  wtm_at "go"
  exact k H1 s_H1
theorem sc_Talk___eq__ : FnScope ["self", "other"] ["self", "other"] (defScope s_Talk___eq__) := ⟨rfl, rfl, rfl, by decide +kernel, rfl, by decide +kernel, by decide +kernel⟩
theorem ok_Talk___eq__ (T : Txt K mg a) : FnOk P w K mg base CX0 1 a.f_Talk___eq__ a.d_Talk___eq__ ["self", "other"] (sp_Talk___eq__ a) := by
  refine T.F_Talk___eq__.ok sc_Talk___eq__ (fun vs H Q E h => (by repeat (first | (obtain ⟨rfl, _⟩ := h; rfl) | obtain ⟨_, h⟩ := h))) (fun cdv A outer s H vs Q E hr h => ?_)
  have nd := sc_Talk___eq__.nd
  have hu := hr.units
  have hu1 := hu_of hr
  obtain ⟨t, r, c, w, rs, cs, t', r', c', w', rs', cs', rfl, ht, ht', z1, z2, z3, z4, k⟩ := h
  have pr := ht.res.dp (K := K)
  have pc := ht.cla.dp (K := K)
  have pr' := ht'.res.dp (K := K)
  have pc' := ht'.cla.dp (K := K)
  obtain ⟨⟨dx, fs, h1, h2, h3, h4, h5, h6⟩, _, _⟩ := ht
  obtain ⟨⟨dx', fs', h1', h2', h3', h4', h5', h6'⟩, _, _⟩ := ht'
  refine ⟨_, (pss_one (ps_ret (pe_and (pe_callB call_isi (by exact rfl) T.z_isinstance (by decide +kernel) (pa_cons (pv 1) (pa_cons (pe_glob (v := .ref a.C_Talk) (by exact rfl) T.mC_Talk rfl) pa_nil))) (pe_and (pe_cmpR op_eq (pe_fld (pv 0) rfl) (pe_fld (pv 1) rfl) (nomark _)) (pe_and (pe_cmpR (op_eqD hu) (pe_fld (pv 0) rfl) (pe_fld (pv 1) rfl) (nomark _)) (pe_one (pe_cmpR (op_eqD hu) (pe_fld (pv 0) rfl) (pe_fld (pv 1) rfl) (nomark _)))))))), ?_⟩
  wtm_at "go"
  refine ⟨_, _, _, _, _, rfl, .own _, T.is_Talk.ty T.cl_Talk h1', Isi.kit _, ?_⟩
  wtm_at "go"
  refine ⟨t, _, dx, fs, _, rfl, h1, T.cl_Talk, T.n_Talk__size, h2, ?_⟩
  wtm_at "go"
  refine ⟨t', _, dx', fs', _, rfl, h1', T.cl_Talk, T.n_Talk__size, h2', ?_⟩
  wtm_at "go"
  refine iteD (fun e1 => ?_) (fun e1 => ?_)
  · have e1' := V.int.inj e1
    wtm_at "go"
    refine ⟨t, _, dx, fs, _, rfl, h1, T.cl_Talk, T.n_Talk__results, h3, ?_⟩
    wtm_at "go"
    refine ⟨t', _, dx', fs', _, rfl, h1', T.cl_Talk, T.n_Talk__results, h3', ?_⟩
    refine ⟨_, _, pr, pr', dL_shaped _, dL_shaped _, ?_⟩
    rw [dL_eqv]
    wtm_at "go"
    refine iteD (fun e2 => ?_) (fun e2 => ?_)
    · wtm_at "go"
      refine ⟨t, _, dx, fs, _, rfl, h1, T.cl_Talk, T.n_Talk__claims, h4, ?_⟩
      wtm_at "go"
      refine ⟨t', _, dx', fs', _, rfl, h1', T.cl_Talk, T.n_Talk__claims, h4', ?_⟩
      refine ⟨_, _, pc, pc', dL_shaped _, dL_shaped _, ?_⟩
      rw [dL_eqv]
      rw [decide_eq_true e1', decide_eq_true e2] at k
      exact k
    · rw [decide_eq_true e1', decide_eq_false e2] at k
      exact k
  · have e1' : ¬ w = w' := fun z => e1 (congrArg V.int z)
    rw [decide_eq_false e1'] at k
    exact k
end
end Ct
end
section
set_option Elab.async false
set_option linter.all false
set_option maxRecDepth 100000
set_option maxHeartbeats 8000000
namespace Ct
open PySem PySem.Spec L2 StX

local macro_rules | `(tactic| wtm_at "hp") => `(tactic| first
  | assumption
  | exact (‹Same _ _›) _ _ (by wtm_at "hp")
  | exact (‹But _ _ _›) _ _ (by wtm_at "ne") (by wtm_at "hp"))
local macro_rules | `(tactic| wtm_at "hpL") => `(tactic| first | exact SqL.of (by wtm_at "hp") | assumption)
local macro_rules | `(tactic| wtm_at "hpT") => `(tactic| first | exact SqT.of (by wtm_at "hp") | assumption)
local macro_rules | `(tactic| wtm_at "ne") => `(tactic| first
  | assumption
  | exact Ne.symm (by assumption)
  | exact ne_lst_tup (by wtm_at "hp") (by wtm_at "hp")
  | exact ne_tup_lst (by wtm_at "hp") (by wtm_at "hp")
  | exact ne_of_none (by wtm_at "hp") (by assumption)
  | exact Ne.symm (ne_of_none (by wtm_at "hp") (by assumption)))
local macro_rules | `(tactic| wtm_at "c") => `(tactic| first
  | omega
  | (unfold CMul; omega)
  | (unfold CDiv; omega)
  | (unfold CPow; omega))
local macro_rules | `(tactic| wtm_at "sz") => `(tactic| first
  | exact sz64 rfl
  | exact (by decide)
  | (show _ ≤ sizeLine; rw [sizeLine_eq]; omega)
  | (show _ < sizeLine; rw [sizeLine_eq]; omega))
local macro_rules | `(tactic| wtm_at "go1") => `(tactic| first
  | with_reducible refine r_seq ?_
  | with_reducible refine r_op ?_
  | ((with_reducible refine' r_var ?rv ?_); (case rv => exact rfl))
  | with_reducible refine r_c ?_
  | with_reducible refine r_asg ?_
  | with_reducible refine r_name ?_
  | with_reducible refine r_i0 ?_
  | ((with_reducible refine' r_i ?rc ?_); (case rc => wtm_at "c"))
  | ((with_reducible refine' r_ixL ?r1 ?r2 ?_); (case r1 => wtm_at "hpL"); (case r2 => first | exact rfl | assumption))
  | ((with_reducible refine' r_ixT ?r1 ?r2 ?_); (case r1 => wtm_at "hpT"); (case r2 => first | exact rfl | assumption))
  | with_reducible refine r_consA ?_
  | with_reducible refine r_nilA ?_
  | with_reducible refine r_call ?_
  | with_reducible refine r_cb ?_
  | with_reducible refine r_test ?_
  | with_reducible refine r_exb ?_
  | ((with_reducible refine r_eq ?rq ?_); (case rq => exact rfl))
  | ((with_reducible refine r_ne ?rq ?_); (case rq => exact rfl))
  | with_reducible refine r_ret ?_
  | with_reducible refine r_if ?_
  | with_reducible refine r_next ?_
  | with_reducible refine r_drop ?_
  | with_reducible refine r_gsub ?_
  | ((with_reducible refine' r_setL ?r1 ?r2 ?_); (case r1 => wtm_at "hp"); (case r2 => exact rfl))
  | with_reducible refine r_b ?_
  | with_reducible refine r_and ?_
  | with_reducible refine r_or ?_
  | with_reducible refine r_not ?_
  | with_reducible refine r_andV ?_
  | with_reducible refine r_orV ?_
  | with_reducible refine r_notV ?_
  | with_reducible refine r_ifE ?_
  | with_reducible refine r_chain ?_
  | with_reducible refine r_u ?_
  | with_reducible refine r_un ?_
  | with_reducible refine r_fld ?_
  | with_reducible refine r_fldS ?_
  | with_reducible refine r_lst ?_
  | with_reducible refine r_tup ?_
  | with_reducible refine r_par ?_
  | with_reducible refine r_par3 ?_
  | with_reducible refine r_retN ?_
  | with_reducible refine r_gcons ?_
  | with_reducible refine r_gnil ?_
  | ((with_reducible refine' r_gtup ?r1 ?r2 ?_); (case r1 => wtm_at "hpT"); (case r2 => exact rfl))
  | with_reducible refine r_bm ?_
  | with_reducible refine r_bm0 ?_
  | with_reducible refine r_lcL ?_
  | with_reducible refine r_foL ?_
  | with_reducible refine r_foR ?_
  | with_reducible refine r_yes ?_
  | ((with_reducible refine' r_wipe ?rw ?_); (case rw => exact rfl))
  | ((with_reducible refine' r_tyL ?r1 ?_); (case r1 => wtm_at "hpL"))
  | ((with_reducible refine' r_append ?r1 ?r2 ?_); (case r1 => wtm_at "hp"); (case r2 => wtm_at "sz"))
  | with_reducible refine r_dput ?_
  | with_reducible refine r_dget ?_
  | with_reducible refine r_dget2 ?_
  | with_reducible refine r_dnew ?_
  | with_reducible refine iteT ?_
  | with_reducible refine iteF ?_
  | with_reducible refine iteNT ?_
  | with_reducible refine iteNF ?_)
local macro_rules | `(tactic| wtm_at "go") => `(tactic| repeat wtm_at "go1")


local macro_rules | `(tactic| wtm_at "go1") => `(tactic| first
  | with_reducible refine e_int1 ?_
  | with_reducible refine e_int2 ?_
  | with_reducible refine e_two ?_
  | ((with_reducible refine' e_lenL ?r1 ?_); (case r1 => wtm_at "hpL"))
  | ((with_reducible refine' e_lenT ?r1 ?_); (case r1 => wtm_at "hpT")))

/-- the feed: three ints -/
def FeedAt (H : Hp) (f : Addr) : Prop := ∃ a b c : Int, H f = some (.lst [.int a, .int b, .int c])
theorem FeedAt.ext {H H' : Hp} {f : Addr} (h : FeedAt H f) (e : Same H H') : FeedAt H' f := let ⟨a, b, c, h⟩ := h; ⟨a, b, c, e _ _ h⟩
theorem FeedAt.ex {H : Hp} {f : Addr} (h : FeedAt H f) : H f ≠ none := by
  obtain ⟨a, b, c, h⟩ := h
  rw [h]
  exact fun z => nomatch z
theorem FeedAt.free {H H' : Hp} {f q : Addr} (h : FeedAt H' f) (b : But f H H') (n : H' q = none) : H q = none := let ⟨_, _, _, h⟩ := h; b.free h n
theorem FeedAt.talkless {H H' : Hp} {f m : Addr} (h : FeedAt H f) (b : But m H H') (n : f ≠ m) : FeedAt H' f := let ⟨x, y, z, h⟩ := h; ⟨x, y, z, b _ _ n h⟩
/-- a feed is no list of pairs, nor a talk, nor a tuple -/
theorem FeedAt.neP {H : Hp} {f l : Addr} {xs : List V} {ps : List P2} (h : FeedAt H f) (hl : H l = some (.lst xs)) (hp : Prs H xs ps) : l ≠ f := by
  obtain ⟨a, b, c, h⟩ := h
  intro e
  subst e
  rw [hl] at h
  cases h
  cases hp with
  | cons q _ => obtain ⟨t, e, _⟩ := q; cases e
theorem FeedAt.pl {H H' : Hp} {f l : Addr} {ps : List P2} (h : FeedAt H f) (b : But f H H') (hl : PL H l ps) : PL H' l ps := by
  obtain ⟨xs, h1, h2⟩ := hl
  have n := h.neP h1 h2
  obtain ⟨x, y, z, hf⟩ := h
  exact ⟨xs, b _ _ n h1, b.prs hf h2⟩
theorem FeedAt.talk {H H' : Hp} {f t r c C : Addr} {w : Int} {rs cs : List P2} (h : FeedAt H f) (b : But f H H') (ht : TalkR C H t r c w rs cs) : TalkR C H' t r c w rs cs := by
  obtain ⟨⟨dx, fs, h1, h2⟩, hr, hc⟩ := ht
  refine ⟨⟨dx, fs, b _ _ ?_ h1, h2⟩, h.pl b hr, h.pl b hc⟩
  obtain ⟨x, y, z, hf⟩ := h
  exact Ne.symm (ne_ins_lst h1 hf)
def sp_law_pick : Sp := fun vs H Q _ => ∃ (f : Addr) (w : Int), vs = [.ref f, .int w] ∧ FeedAt H f ∧ 1 ≤ w ∧ w < 1000000 ∧ ∀ (H' : Hp) (d : Int), 0 ≤ d → d < w → But f H H' → FeedAt H' f → Q (.int d) H'
def sp_law_feed (K : PySem.W.Frag) : Sp := fun vs H Q _ => ∃ (l : Addr) (ns : List Int) (k : Int), vs = [.ref l, .int k] ∧ SqL K H l (ns.map V.int) ∧ 0 ≤ k ∧ k < 1000000 ∧ ns.length ≤ 63 ∧ ∀ (H' : Hp) (f : Addr), Same H H' → H f = none → FeedAt H' f → Q (.ref f) H'
def sp_law_shuffled : Sp := fun vs H Q _ => ∃ (f l : Addr) (ps : List P2), vs = [.ref f, .ref l] ∧ FeedAt H f ∧ PL H l ps ∧ ps.length ≤ 10000 ∧ ∀ (H' : Hp) (r : Addr) (qs : List P2), But f H H' → H r = none → FeedAt H' f → PL H' r qs → qs.Perm ps → Q (.ref r) H'
def sp_law_players : Sp := fun vs H Q _ => ∃ (w : Int), vs = [.int w] ∧ 0 ≤ w ∧ w ≤ 6 ∧ ∀ (H' : Hp), Same H H' → Q (.int (2 ^ w.toNat)) H'
def sp_law_pair : Sp := fun vs H Q _ => ∃ (f : Addr) (m : Int), vs = [.ref f, .int m] ∧ FeedAt H f ∧ 2 ≤ m ∧ m ≤ 64 ∧ ∀ (H' : Hp) (t : Addr) (p : P2), But f H H' → H t = none → FeedAt H' f → IsP H' (.ref t) p → 0 ≤ p.1 → p.1 < m → 0 ≤ p.2 → p.2 < m → p.1 ≠ p.2 → Q (.ref t) H'
section
variable {P : Program} {w : World} {K : PySem.W.Frag} {mg : Str → Option Value} {base : Heap} {a : Ad}
section
local macro_rules | `(tactic| wtm_at "go1") => `(tactic| ((with_reducible refine' r_modB ?rc ?_); (case rc => omega); intro m m0 m1))
theorem sc_law_pick : FnScope ["feed", "wide", "digit", "mixed"] ["feed", "wide"] (defScope s_law_pick) := ⟨rfl, rfl, rfl, by decide +kernel, rfl, by decide +kernel, by decide +kernel⟩
theorem ok_law_pick (T : Txt K mg a) : FnOk P w K mg base CX0 1 a.f_law_pick a.d_law_pick ["feed", "wide"] (sp_law_pick) := by
  refine T.F_law_pick.ok sc_law_pick (fun vs H Q E h => (by repeat (first | (obtain ⟨rfl, _⟩ := h; rfl) | obtain ⟨_, h⟩ := h))) (fun cdv A outer s H vs Q E hr h => ?_)
  have nd := sc_law_pick.nd
  have hu := hr.units
  have hu1 := hu_of hr
  obtain ⟨f, w, rfl, ⟨x, y, z, hf⟩, hw, hw2, k⟩ := h
  refine ⟨_, (pss_cons (ps_if (pt_cmpR op_gt (pe_ix ix_list (pv 0) pe_int (fun _ _ => rfl)) pe_int (nomark _)) (pss_cons (ps_set (i := 2) nd rfl (Or.inl rfl) (pe_op op_mod (pe_ix ix_list (pv 0) pe_int (fun _ _ => rfl)) (pv 1)))
      (pss_cons (ps_asg (pe_op op_fdiv (pe_ix ix_list (pv 0) pe_int (fun _ _ => rfl)) (pv 1)) (pg_sub (pv 0) pe_int set_list))
      (pss_one (ps_ret (pv 2))))) pss_nil)
      (pss_cons (ps_asg (pe_op op_add (pe_ix ix_list (pv 0) pe_int (fun _ _ => rfl)) pe_int) (pg_sub (pv 0) pe_int set_list))
      (pss_cons (ps_set (i := 3) nd rfl (Or.inl rfl) (pe_op op_mod (pe_op op_add (pe_ix ix_list (pv 0) pe_int (fun _ _ => rfl)) (pe_op op_mul pe_int (pe_ix ix_list (pv 0) pe_int (fun _ _ => rfl)))) pe_int))
      (pss_cons (ps_set (i := 3) nd rfl (Or.inl rfl) (pe_op op_mod (pe_op op_add (pe_op op_add (pe_op op_mul (pv 3) (pv 3)) (pe_op op_mul (pe_op op_mul pe_int (pe_ix ix_list (pv 0) pe_int (fun _ _ => rfl))) (pv 3))) pe_int) pe_int))
      (pss_cons (ps_set (i := 3) nd rfl (Or.inl rfl) (pe_op op_mod (pe_op op_add (pe_op op_add (pe_op op_pow (pv 3) pe_int) (pe_ix ix_list (pv 0) pe_int (fun _ _ => rfl))) (pe_op op_mul pe_int (pe_ix ix_list (pv 0) pe_int (fun _ _ => rfl)))) pe_int))
      (pss_one (ps_ret (pe_op op_mod (pe_op op_fdiv (pv 3) pe_int) (pv 1))))))))), ?_⟩
  wtm_at "go"
  refine iteD (fun ha => ?_) (fun ha => ?_)
  · wtm_at "go"
    refine hold ?_
    generalize e_H1 : upd _ f _ = H1
    have b_H1 := but_upd e_H1
    have h_H1 := upd_at e_H1
    clear e_H1
    wtm_at "go"
    exact k H1 _ (by assumption) (by assumption) b_H1 ⟨_, _, _, h_H1⟩
  · wtm_at "go"
    refine hold ?_
    generalize e_H1 : upd _ f _ = H1
    have b_H1 := but_upd e_H1
    have h_H1 := upd_at e_H1
    clear e_H1
    wtm_at "go"
    exact k H1 _ (by assumption) (by assumption) b_H1 ⟨_, _, _, h_H1⟩
end
theorem sc_law_feed : FnScope ["script", "k", "start"] ["script", "k"] (defScope s_law_feed) := ⟨rfl, rfl, rfl, by decide +kernel, rfl, by decide +kernel, by decide +kernel⟩
theorem ok_law_feed (T : Txt K mg a) : FnOk P w K mg base CX0 1 a.f_law_feed a.d_law_feed ["script", "k"] ((sp_law_feed K)) := by
  refine T.F_law_feed.ok sc_law_feed (fun vs H Q E h => (by repeat (first | (obtain ⟨rfl, _⟩ := h; rfl) | obtain ⟨_, h⟩ := h))) (fun cdv A outer s H vs Q E hr h => ?_)
  have nd := sc_law_feed.nd
  have hu := hr.units
  have hu1 := hu_of hr
  obtain ⟨l, ns, z, rfl, hl, h0, h6, hn, k⟩ := h
  refine ⟨_, (pss_cons (ps_set (i := 2) nd rfl (Or.inl rfl) pe_int)
      (pss_cons (ps_if (pt_cmpR op_lt (pv 1) (pe_callB call_len_seq (by exact rfl) T.z_len (by decide +kernel) (pa_cons (pv 0) pa_nil)) (nomark _)) (pss_one (ps_set (i := 2) nd rfl (Or.inl rfl) (pe_ix ix_list (pv 0) (pv 1) (fun _ _ => rfl)))) pss_nil)
      (pss_one (ps_ret (pe_lst (pa_cons (pe_callB (call_max2 rfl) (by exact rfl) T.z_max (by decide +kernel) (pa_cons pe_int (pa_cons (pe_op op_sub (pe_callB call_abs (by exact rfl) T.z_abs (by decide +kernel) (pa_cons (pv 2) pa_nil)) (pe_op op_pow pe_int pe_int)) pa_nil))) (pa_cons (pe_op op_mod (pe_op op_add (pe_op op_add (pe_op op_mul (pv 2) pe_int) (pe_op op_mul pe_int (pv 1))) pe_int) pe_int) (pa_cons pe_int pa_nil)))))))), ?_⟩
  wtm_at "go"
  refine iteD (fun hz => ?_) (fun hz => ?_)
  · obtain ⟨j, rfl⟩ : ∃ j : Nat, z = (j : Int) := ⟨z.toNat, by omega⟩
    have hj : j < ns.length := by rw [List.length_map] at hz; omega
    have hv := atI_cell hj
    wtm_at "go"
    refine ⟨by wtm_at "sz", fun f n_f => ?_⟩
    generalize e_H1 : upd _ f _ = H1
    have s_H1 := same_upd n_f e_H1
    have h_f := upd_at e_H1
    clear e_H1
    wtm_at "go"
    exact k H1 f s_H1 n_f ⟨_, _, _, h_f⟩
  · wtm_at "go"
    refine ⟨by wtm_at "sz", fun f n_f => ?_⟩
    generalize e_H1 : upd _ f _ = H1
    have s_H1 := same_upd n_f e_H1
    have h_f := upd_at e_H1
    clear e_H1
    wtm_at "go"
    exact k H1 f s_H1 n_f ⟨_, _, _, h_f⟩
theorem sc_law_players : FnScope ["wide"] ["wide"] (defScope s_law_players) := ⟨rfl, rfl, rfl, by decide +kernel, rfl, by decide +kernel, by decide +kernel⟩
theorem ok_law_players (T : Txt K mg a) : FnOk P w K mg base CX0 1 a.f_law_players a.d_law_players ["wide"] (sp_law_players) := by
  refine T.F_law_players.ok sc_law_players (fun vs H Q E h => (by repeat (first | (obtain ⟨rfl, _⟩ := h; rfl) | obtain ⟨_, h⟩ := h))) (fun cdv A outer s H vs Q E hr h => ?_)
  have nd := sc_law_players.nd
  have hu := hr.units
  have hu1 := hu_of hr
  obtain ⟨z, rfl, h0, h6, k⟩ := h
  refine ⟨_, (pss_one (ps_ret (pe_ix ix_list (pe_lst (pa_cons pe_int (pa_cons pe_int (pa_cons pe_int (pa_cons pe_int (pa_cons pe_int (pa_cons pe_int (pa_cons pe_int pa_nil)))))))) (pv 0) (fun _ _ => rfl)))), ?_⟩
  wtm_at "go"
  refine ⟨by wtm_at "sz", fun q n_q => ?_⟩
  generalize e_H1 : upd _ q _ = H1
  have s_H1 := same_upd n_q e_H1
  have h_q := upd_at e_H1
  clear e_H1
  have hz : z = 0 ∨ z = 1 ∨ z = 2 ∨ z = 3 ∨ z = 4 ∨ z = 5 ∨ z = 6 := by omega
  rcases hz with rfl | rfl | rfl | rfl | rfl | rfl | rfl <;> (wtm_at "go"; exact k H1 s_H1)
theorem sc_law_pair : FnScope ["feed", "many", "first"] ["feed", "many"] (defScope s_law_pair) := ⟨rfl, rfl, rfl, by decide +kernel, rfl, by decide +kernel, by decide +kernel⟩
theorem ok_law_pair (T : Txt K mg a) : FnOk P w K mg base CX0 2 a.f_law_pair a.d_law_pair ["feed", "many"] (sp_law_pair) := by
  refine T.F_law_pair.ok sc_law_pair (fun vs H Q E h => (by repeat (first | (obtain ⟨rfl, _⟩ := h; rfl) | obtain ⟨_, h⟩ := h))) (fun cdv A outer s H vs Q E hr h => ?_)
  have nd := sc_law_pair.nd
  have hu := hr.units
  have hu1 := hu_of hr
  obtain ⟨f, m, rfl, hf, h2, h64, k⟩ := h
  refine ⟨_, (pss_cons (ps_set (i := 2) nd rfl (Or.inl rfl) (pe_call (ok_law_pick T) (hr.mono (by decide)) (by exact rfl) T.m_law_pick T.F_law_pick.kp T.b_law_pick .nil pass0 (pa_cons (pv 0) (pa_cons (pv 1) pa_nil))))
      (pss_one (ps_ret (pe_tup (pa_cons (pv 2) (pa_cons (pe_op op_mod (pe_op op_add (pe_op op_add (pv 2) pe_int) (pe_call (ok_law_pick T) (hr.mono (by decide)) (by exact rfl) T.m_law_pick T.F_law_pick.kp T.b_law_pick .nil pass0 (pa_cons (pv 0) (pa_cons (pe_op op_sub (pv 1) pe_int) pa_nil)))) (pv 1)) pa_nil)))))), ?_⟩
  wtm_at "go"
  refine ⟨f, m, rfl, hf, by omega, by omega, fun H1 d d0 d1 b1 f1 => ?_⟩
  wtm_at "go"
  refine ⟨f, m - 1, rfl, f1, by omega, by omega, fun H2 e e0 e1 b2 f2 => ?_⟩
  wtm_at "go"
  have m0 : 0 ≤ (d + 1 + e) % m := Int.emod_nonneg _ (by omega)
  have m1 : (d + 1 + e) % m < m := Int.emod_lt_of_pos _ (by omega)
  have m2 : d ≠ (d + 1 + e) % m := by
    by_cases c : d + 1 + e < m
    · rw [Int.emod_eq_of_lt (by omega) c]; omega
    · have q : (d + 1 + e) % m = (d + 1 + e - m) % m := by rw [← Int.add_emod_right (d + 1 + e - m) m, Int.sub_add_cancel]
      rw [q, Int.emod_eq_of_lt (by omega) (by omega)]; omega
  refine ⟨by wtm_at "sz", fun t n_t => ?_⟩
  generalize e_H3 : upd _ t _ = H3
  have s_H3 := same_upd n_t e_H3
  have h_t := upd_at e_H3
  clear e_H3
  wtm_at "go"
  refine k H3 t (d, (d + 1 + e) % m) ((b1.trans b2).trans (Same.but s_H3)) ?_ (f2.ext s_H3) ⟨t, rfl, h_t⟩ d0 d1 m0 m1 m2
  exact f2.free (b1.trans b2) n_t
end
end Ct
end
section
set_option Elab.async false
set_option linter.all false
set_option maxRecDepth 100000
set_option maxHeartbeats 8000000
namespace Ct
open PySem PySem.Spec L2 StX

local macro_rules | `(tactic| wtm_at "hp") => `(tactic| first
  | assumption
  | exact (‹Same _ _›) _ _ (by wtm_at "hp")
  | exact (‹But _ _ _›) _ _ (by wtm_at "ne") (by wtm_at "hp"))
local macro_rules | `(tactic| wtm_at "hpL") => `(tactic| first | exact SqL.of (by wtm_at "hp") | assumption)
local macro_rules | `(tactic| wtm_at "hpT") => `(tactic| first | exact SqT.of (by wtm_at "hp") | assumption)
local macro_rules | `(tactic| wtm_at "ne") => `(tactic| first
  | assumption
  | exact Ne.symm (by assumption)
  | exact ne_lst_tup (by wtm_at "hp") (by wtm_at "hp")
  | exact ne_tup_lst (by wtm_at "hp") (by wtm_at "hp")
  | exact ne_of_none (by wtm_at "hp") (by assumption)
  | exact Ne.symm (ne_of_none (by wtm_at "hp") (by assumption)))
local macro_rules | `(tactic| wtm_at "c") => `(tactic| first
  | omega
  | (unfold CMul; omega)
  | (unfold CDiv; omega)
  | (unfold CPow; omega))
local macro_rules | `(tactic| wtm_at "sz") => `(tactic| first
  | exact sz64 rfl
  | exact (by decide)
  | (show _ ≤ sizeLine; rw [sizeLine_eq]; omega)
  | (show _ < sizeLine; rw [sizeLine_eq]; omega))
local macro_rules | `(tactic| wtm_at "go1") => `(tactic| first
  | with_reducible refine r_seq ?_
  | with_reducible refine r_op ?_
  | ((with_reducible refine' r_var ?rv ?_); (case rv => exact rfl))
  | with_reducible refine r_c ?_
  | with_reducible refine r_asg ?_
  | with_reducible refine r_name ?_
  | with_reducible refine r_i0 ?_
  | ((with_reducible refine' r_i ?rc ?_); (case rc => wtm_at "c"))
  | ((with_reducible refine' r_ixL ?r1 ?r2 ?_); (case r1 => wtm_at "hpL"); (case r2 => first | exact rfl | assumption))
  | ((with_reducible refine' r_ixT ?r1 ?r2 ?_); (case r1 => wtm_at "hpT"); (case r2 => first | exact rfl | assumption))
  | with_reducible refine r_consA ?_
  | with_reducible refine r_nilA ?_
  | with_reducible refine r_call ?_
  | with_reducible refine r_cb ?_
  | with_reducible refine r_test ?_
  | with_reducible refine r_exb ?_
  | ((with_reducible refine r_eq ?rq ?_); (case rq => exact rfl))
  | ((with_reducible refine r_ne ?rq ?_); (case rq => exact rfl))
  | with_reducible refine r_ret ?_
  | with_reducible refine r_if ?_
  | with_reducible refine r_next ?_
  | with_reducible refine r_drop ?_
  | with_reducible refine r_gsub ?_
  | ((with_reducible refine' r_setL ?r1 ?r2 ?_); (case r1 => wtm_at "hp"); (case r2 => exact rfl))
  | with_reducible refine r_b ?_
  | with_reducible refine r_and ?_
  | with_reducible refine r_or ?_
  | with_reducible refine r_not ?_
  | with_reducible refine r_andV ?_
  | with_reducible refine r_orV ?_
  | with_reducible refine r_notV ?_
  | with_reducible refine r_ifE ?_
  | with_reducible refine r_chain ?_
  | with_reducible refine r_u ?_
  | with_reducible refine r_un ?_
  | with_reducible refine r_fld ?_
  | with_reducible refine r_fldS ?_
  | with_reducible refine r_lst ?_
  | with_reducible refine r_tup ?_
  | with_reducible refine r_par ?_
  | with_reducible refine r_par3 ?_
  | with_reducible refine r_retN ?_
  | with_reducible refine r_gcons ?_
  | with_reducible refine r_gnil ?_
  | ((with_reducible refine' r_gtup ?r1 ?r2 ?_); (case r1 => wtm_at "hpT"); (case r2 => exact rfl))
  | with_reducible refine r_bm ?_
  | with_reducible refine r_bm0 ?_
  | with_reducible refine r_lcL ?_
  | with_reducible refine r_foL ?_
  | with_reducible refine r_foR ?_
  | with_reducible refine r_yes ?_
  | ((with_reducible refine' r_wipe ?rw ?_); (case rw => exact rfl))
  | ((with_reducible refine' r_tyL ?r1 ?_); (case r1 => wtm_at "hpL"))
  | ((with_reducible refine' r_append ?r1 ?r2 ?_); (case r1 => wtm_at "hp"); (case r2 => wtm_at "sz"))
  | with_reducible refine r_dput ?_
  | with_reducible refine r_dget ?_
  | with_reducible refine r_dget2 ?_
  | with_reducible refine r_dnew ?_
  | with_reducible refine iteT ?_
  | with_reducible refine iteF ?_
  | with_reducible refine iteNT ?_
  | with_reducible refine iteNF ?_)
local macro_rules | `(tactic| wtm_at "go") => `(tactic| repeat wtm_at "go1")


local macro_rules | `(tactic| wtm_at "go1") => `(tactic| first
  | with_reducible refine e_int1 ?_
  | with_reducible refine e_int2 ?_
  | with_reducible refine e_two ?_
  | ((with_reducible refine' e_lenL ?r1 ?_); (case r1 => wtm_at "hpL"))
  | ((with_reducible refine' e_lenT ?r1 ?_); (case r1 => wtm_at "hpT")))

local macro_rules | `(tactic| wtm_at "go1") => `(tactic| first
  | with_reducible refine r_lcK ?_
  | with_reducible refine r_lockE ?_)
def sp_law_items : Sp := fun vs H Q _ => ∃ (f : Addr) (w most : Int), vs = [.ref f, .int w, .int most] ∧ FeedAt H f ∧ 0 ≤ w ∧ w ≤ 6 ∧ 1 ≤ most ∧ most ≤ 200 ∧
  ∀ (H' : Hp) (t l m : Addr) (rs cs : List P2), But f H H' → FeedAt H' f → H t = none → H l = none → H m = none → H' t = some (.lst [.ref l, .ref m]) → PL H' l rs → PL H' m cs → l ≠ m → t ≠ l → t ≠ m → rs.length ≤ 200 → cs.length ≤ 200 →
    (∀ p ∈ rs, isRes w p = true) → (∀ p ∈ cs, isCl w p = true) → Q (.ref t) H'
def sp_law_plain : Sp := fun vs H Q _ => ∃ (l m : Addr) (rs cs : List P2), vs = [.ref l, .ref m] ∧ PL H l rs ∧ PL H m cs ∧ rs.length ≤ 1000 ∧ cs.length ≤ 1000 ∧
  ∀ (H' : Hp) (t r c : Addr), Same H H' → H t = none → H' t = some (.lst [.ref r, .ref c]) → PL H' r (pset rs) → PL H' c (gcl cs) → Q (.ref t) H'
/-- results and claims while they are made -/
structure ItI (H G : Hp) (f l m : Addr) (w : Int) (i j : Nat) (fs cs : List P2) : Prop where
  b : But f H G
  fd : FeedAt G f
  hl : PL G l fs
  hm : PL G m cs
  n1 : fs.length ≤ i
  n2 : cs.length ≤ j
  v1 : ∀ p ∈ fs, isRes w p = true
  v2 : ∀ p ∈ cs, isCl w p = true
theorem ItI.same {H G G' : Hp} {f l m : Addr} {w : Int} {i j : Nat} {fs cs : List P2} (I : ItI H G f l m w i j fs cs) (s : Same G G') : ItI H G' f l m w i j fs cs :=
  ⟨But.trans I.b (Same.but s), I.fd.ext s, I.hl.ext s, I.hm.ext s, I.n1, I.n2, I.v1, I.v2⟩
theorem ItI.but {H G G' : Hp} {f l m : Addr} {w : Int} {i j : Nat} {fs cs : List P2} (I : ItI H G f l m w i j fs cs) (b : But f G G') (h : FeedAt G' f) : ItI H G' f l m w i j fs cs :=
  ⟨But.trans I.b b, h, I.fd.pl b I.hl, I.fd.pl b I.hm, I.n1, I.n2, I.v1, I.v2⟩
theorem ItI.up {H G : Hp} {f l m : Addr} {w : Int} {i j i' j' : Nat} {fs cs : List P2} (I : ItI H G f l m w i j fs cs) (h : i ≤ i') (h' : j ≤ j') : ItI H G f l m w i' j' fs cs :=
  ⟨I.b, I.fd, I.hl, I.hm, Nat.le_trans I.n1 h, Nat.le_trans I.n2 h', I.v1, I.v2⟩
theorem PL.other {G G' : Hp} {l m : Addr} {cs : List P2} {xs : List V} (h : PL G m cs) (b : But l G G') (n : m ≠ l) (hl : G l = some (.lst xs)) : PL G' m cs := let ⟨ys, h1, h2⟩ := h; ⟨ys, b _ _ n h1, b.prs hl h2⟩
theorem ItI.add1 {H G G' : Hp} {f l m : Addr} {w : Int} {i j : Nat} {fs cs : List P2} {fv : List V} {v : V} {p : P2} (I : ItI H G f l m w i j fs cs) (n : H l = none) (hne : l ≠ m) (hl : G l = some (.lst fv)) (hp : Prs G fv fs) (hv : IsP G v p) (r : isRes w p = true)
    (b : But l G G') (h' : G' l = some (.lst (fv ++ [v]))) : ItI H G' f l m w (i + 1) j (fs ++ [p]) cs :=
  ⟨But.ins I.b n b, I.fd.talkless b (Ne.symm (I.fd.neP hl hp)), ⟨_, h', Prs.app (b.prs hl hp) (.cons (b.ip hl hv) .nil)⟩, I.hm.other b hne.symm hl, by rw [List.length_append]; exact Nat.succ_le_succ I.n1, I.n2,
    fun q hq => by
      rcases List.mem_append.mp hq with z | z
      · exact I.v1 q z
      · rw [List.mem_singleton.mp z]; exact r, I.v2⟩
theorem ItI.add2 {H G G' : Hp} {f l m : Addr} {w : Int} {i j : Nat} {fs cs : List P2} {fv : List V} {v : V} {p : P2} (I : ItI H G f l m w i j fs cs) (n : H m = none) (hne : l ≠ m) (hl : G m = some (.lst fv)) (hp : Prs G fv cs) (hv : IsP G v p) (r : isCl w p = true)
    (b : But m G G') (h' : G' m = some (.lst (fv ++ [v]))) : ItI H G' f l m w i (j + 1) fs (cs ++ [p]) :=
  ⟨But.ins I.b n b, I.fd.talkless b (Ne.symm (I.fd.neP hl hp)), I.hl.other b hne hl, ⟨_, h', Prs.app (b.prs hl hp) (.cons (b.ip hl hv) .nil)⟩, I.n1, by rw [List.length_append]; exact Nat.succ_le_succ I.n2, I.v1,
    fun q hq => by
      rcases List.mem_append.mp hq with z | z
      · exact I.v2 q z
      · rw [List.mem_singleton.mp z]; exact r⟩
theorem isRes_of {w M : Int} {p : P2} (hM : (2 : Int) ^ w.toNat = M) (h0 : 0 ≤ p.1) (h1 : p.1 < M) (h2 : 0 ≤ p.2) (h3 : p.2 < M) (h4 : p.1 ≠ p.2) : isRes w p = true := by
  unfold isRes
  rw [hM, decide_eq_false h4, decide_eq_true ⟨h0, h1⟩, decide_eq_true ⟨h2, h3⟩]
  rfl
theorem isCl_of {w M : Int} {p : P2} (hM : (2 : Int) ^ w.toNat = M) (h0 : 0 ≤ p.1) (h1 : p.1 < M) (h2 : 0 ≤ p.2) (h3 : p.2 ≤ w) : isCl w p = true := by
  unfold isCl
  rw [hM, decide_eq_true ⟨h0, h1⟩, decide_eq_true ⟨h2, h3⟩]
  rfl
theorem pow_bnd {w : Int} (h0 : 0 ≤ w) (h6 : w ≤ 6) : 1 ≤ (2 : Int) ^ w.toNat ∧ (2 : Int) ^ w.toNat ≤ 64 := by
  have hw : w = 0 ∨ w = 1 ∨ w = 2 ∨ w = 3 ∨ w = 4 ∨ w = 5 ∨ w = 6 := by omega
  rcases hw with rfl | rfl | rfl | rfl | rfl | rfl | rfl <;> decide
theorem three_at {x y z d N : Int} (d0 : 0 ≤ d) (d1 : d < 3) (hx : 0 ≤ x ∧ x ≤ N) (hy : 0 ≤ y ∧ y ≤ N) (hz : 0 ≤ z ∧ z ≤ N) : ∃ n, atI [V.int x, V.int y, V.int z] d = some (V.int n) ∧ 0 ≤ n ∧ n ≤ N := by
  have hd : d = 0 ∨ d = 1 ∨ d = 2 := by omega
  rcases hd with rfl | rfl | rfl
  · exact ⟨x, rfl, hx⟩
  · exact ⟨y, rfl, hy⟩
  · exact ⟨z, rfl, hz⟩
section
variable {P : Program} {w : World} {K : PySem.W.Frag} {mg : Str → Option Value} {base : Heap} {a : Ad}
theorem sc_law_plain : FnScope ["found", "said", "best", "x", "many"] ["found", "said"] (defScope s_law_plain) := ⟨rfl, rfl, rfl, by decide +kernel, rfl, by decide +kernel, by decide +kernel⟩
theorem ok_law_plain (T : Txt K mg a) : FnOk P w K mg base CX0 1 a.f_law_plain a.d_law_plain ["found", "said"] (sp_law_plain) := by
  refine T.F_law_plain.ok sc_law_plain (fun vs H Q E h => (by repeat (first | (obtain ⟨rfl, _⟩ := h; rfl) | obtain ⟨_, h⟩ := h))) (fun cdv A outer s H vs Q E hr h => ?_)
  have nd := sc_law_plain.nd
  have hu := hr.units
  have hu1 := hu_of hr
  obtain ⟨l, m, rs, cs, rfl, hl, ⟨xs, hm, hp⟩, hn1, hn2, k⟩ := h
  refine ⟨_, (pss_cons (ps_set (i := 2) nd rfl (Or.inr rfl) pe_dnewK)
      (pss_cons (ps_for PassesOwn.never rfl (pi_list (pv 1)) (pg_tup rfl (pgs_cons (pg_name (i := 3) nd rfl (Or.inl rfl)) (pgs_cons (pg_name (i := 4) nd rfl (Or.inl rfl)) pgs_nil)))
      (pss_one (ps_dput hu1 (pv 2) (pv 3) (pe_callB (call_max2 rfl) (by exact rfl) T.z_max (by decide +kernel) (pa_cons (pv 4) (pa_cons (pe_dget2 hu1 (pv 2) (pv 3) pe_int ⟨rfl, rfl, rfl, rfl⟩) pa_nil))) rfl)))
      (pss_one (ps_ret (pe_lst (pa_cons (pe_callB (cr_sortS hu rfl) (by exact rfl) T.z_sorted (by decide +kernel) (pa_cons (pe_callTy (cr_setP rfl hu) (by exact rfl) T.z_set (by decide +kernel) (pa_cons (pv 0) pa_nil)) pa_nil)) (pa_cons (pe_callB (cr_sortP hu) (by exact rfl) T.z_sorted (by decide +kernel) (pa_cons (pe_lock (pe_lc (own := [("x", 3)]) rfl nd (pi_keys (pv 2)) (blkOk_by (own := [("x", 3)]) (N := ["found", "said", "best", "x", "many"]) (sc := defScope s_law_plain) (by decide +kernel)) (fun _ _ _ _ _ => (pg_name (i := 3) nd rfl (Or.inl rfl))) (fun _ _ _ _ _ => (pts_one (pt_cmpR op_gt (pe_dget hu1 (pv 2) (pv 3) (fun _ _ => rfl)) pe_int (nomark _)))) (fun _ _ _ _ _ => (pe_tup (pa_cons (pv 3) (pa_cons (pe_dget hu1 (pv 2) (pv 3) (fun _ _ => rfl)) pa_nil)))))) pa_nil)) pa_nil))))))), ?_⟩
  wtm_at "go"
  refine fun d n_d => ?_
  generalize e_H1 : upd _ d _ = H1
  have s_H1 := same_upd n_d e_H1
  have h_d := upd_at e_H1
  clear e_H1
  wtm_at "go"
  refine foL (xs := xs) ((s_H1 _ _ hm |> SqL.of)) (fun i σ G => ∃ u v kvs, σ = [some (.ref l), some (.ref m), some (.ref d), u, v] ∧ Same H G ∧ G d = some (.dK kvs) ∧ Best kvs (cs.take i)) ⟨_, _, _, rfl, s_H1, h_d, Best.nil⟩ (fun i σ G _ ⟨_, _, _, _, s, _⟩ => SqL.of (s _ _ hm)) (fun i x σ G hi hx ⟨u, v, kvs, e, s, hd, hb⟩ => ?_) (fun σ G ⟨u, v, kvs, e, s, hd, hb⟩ => ?_)
  · subst e
    obtain ⟨p, hp1, hp2⟩ := hp.get hx
    obtain ⟨t, rfl, ht⟩ := hp2.ext s
    wtm_at "go"
    refine e_isd hd ?_
    wtm_at "go"
    refine e_dget2 hd ?_
    rw [hb.val]
    wtm_at "go"
    have hlen := hb.len
    rw [List.length_take] at hlen
    have hlt := hp.length
    refine e_dput hd (by have := line_big; omega) (hold ?_)
    generalize e_G2 : upd G d _ = G2
    have b := but_upd e_G2
    have hd2 := upd_at e_G2
    refine ⟨_, _, _, rfl, b.same s n_d, hd2, ?_⟩
    rw [take_snoc hp1]
    exact hb.put p
  · subst e
    have htk : cs.take xs.length = cs := by rw [hp.length, List.take_length]
    rw [htk] at hb
    obtain ⟨ks, k1, k2, k3⟩ := hb.keys
    wtm_at "go"
    obtain ⟨ys, hl1, hp1⟩ := hl.ext s
    refine ⟨l, ys, rs, rfl, .of hl1, hp1, by omega, fun e o ne' sp => ?_⟩
    generalize e_H2 : upd _ e _ = H2 at sp ⊢
    have s2 := same_upd ne' e_H2
    wtm_at "go"
    refine ⟨e, rs, rfl, sp, fun r zs nr hz => ?_⟩
    generalize e_H3 : upd _ r _ = H3
    have s3 := same_upd nr e_H3
    have h_r := upd_at e_H3
    have hz3 := hz.ext s3
    wtm_at "go"
    have hd3 := s3 _ _ (s2 _ _ hd)
    refine ⟨d, _, hd3, trivial, fun od => ?_⟩
    generalize e_H4 : upd _ d _ = H4
    have hd4 := upd_at e_H4
    wtm_at "go"
    have hks : kvs.length = ks.length := by
      have z1 := congrArg List.length k1
      rwa [List.length_map, List.length_map] at z1
    have hkl := hb.len
    refine lcK (fun i acc G' => Prs G' acc (ofKeys cs (ks.take i))) hd4 (fun _ _ => .nil) (fun i k' v' G' D hx ⟨acc, hD, ha, s5, nD, e5⟩ => ?_) (fun acc G' D s5 nD hD ha e5 => ?_)
    · obtain ⟨n, hn1, rfl⟩ : ∃ n, ks[i]? = some n ∧ k' = Ke n := by
        have z1 := congrArg (fun q => q[i]?) k1
        simp only [List.getElem?_map, hx, Option.map_some] at z1
        cases z : ks[i]? with
        | none => rw [z] at z1; cases z1
        | some n => rw [z] at z1; exact ⟨n, rfl, Option.some.inj z1⟩
      have hi : i < kvs.length := (List.getElem?_eq_some_iff.mp hx).1
      have hg := hb.has n ((k3 n).mp (List.mem_of_getElem? hn1))
      have hd5 := s5 _ _ hd4
      show gName 3 (V.int n) _ _ _
      wtm_at "go"
      refine e_dgetF hd5 hg ?_
      wtm_at "go"
      refine iteD (fun hpos => ?_) (fun hpos => ?_)
      · wtm_at "go"
        refine e_dgetF hd5 hg ?_
        wtm_at "go"
        refine ⟨by wtm_at "sz", fun t n_t => ?_⟩
        generalize e_G3 : upd _ t _ = G3
        have s_G3 := same_upd n_t e_G3
        have h_t := upd_at e_G3
        clear e_G3
        exact lcT hD ha (by have := line_big; omega) s5 nD s_G3 fun H5 b5 hD5 => by
          show Prs H5 _ (ofKeys cs (ks.take (i + 1)))
          rw [take_snoc hn1, ofKeys_snoc, if_pos hpos]
          exact Prs.app (b5.prs hD5 (Prs.ext e5 s_G3)) (.cons ⟨_, rfl, b5 _ _ (ne_tup_lst h_t hD5) h_t⟩ .nil)
      · exact lcN hD ha s5 nD (Same.refl _) (by
          show Prs G' _ (ofKeys cs (ks.take (i + 1)))
          rw [take_snoc hn1, ofKeys_snoc, if_neg hpos, List.append_nil]
          exact e5)
    · rw [hks, List.take_length] at e5
      rw [← e_H4] at s5 nD
      have s6 := lock_same hd3 s5
      refine ⟨s5 _ _ upd_same, ?_⟩
      generalize e_H6 : upd _ d _ = H6 at s6 ⊢
      have b6 := but_upd e_H6
      have hdd : G' d = some (.frz od (.dK kvs)) := s5 _ _ upd_same
      have hnD : D ≠ d := fun z => by rw [z, hdd] at hD; cases hD
      have hD6 := b6 _ _ hnD hD
      have e6 : Prs H6 acc (ofKeys cs ks) := L2.Paired.mapP e5 fun _ _ ⟨u, z1, z2⟩ => ⟨u, z1, b6 _ _ (fun z => by rw [z, hdd] at z2; cases z2) z2⟩
      wtm_at "go"
      refine ⟨D, acc, _, rfl, .of hD6, e6, fun c ws nc hws => ?_⟩
      rw [ofKeys_psort k2 k3] at hws
      generalize e_H7 : upd _ c _ = H7
      have s7 := same_upd nc e_H7
      have h_c := upd_at e_H7
      wtm_at "go"
      refine ⟨by wtm_at "sz", fun t n_t => ?_⟩
      generalize e_H8 : upd _ t _ = H8
      have s_H8 := same_upd n_t e_H8
      have h_t := upd_at e_H8
      clear e_H8
      wtm_at "go"
      have sAll := (((s.trans s2).trans s3).trans s6).trans s7
      exact k H8 t r c (sAll.trans s_H8) (sAll.free n_t) h_t (PL.ext ⟨zs, h_r, hz3⟩ ((s6.trans s7).trans s_H8)) (PL.ext ⟨ws, h_c, hws.ext s7⟩ s_H8)
theorem sc_law_items : FnScope ["feed", "wide", "most", "many", "found", "said", "turn", "again"] ["feed", "wide", "most"] (defScope s_law_items) := ⟨rfl, rfl, rfl, by decide +kernel, rfl, by decide +kernel, by decide +kernel⟩
theorem ok_law_items (T : Txt K mg a) : FnOk P w K mg base CX0 3 a.f_law_items a.d_law_items ["feed", "wide", "most"] (sp_law_items) := by
  refine T.F_law_items.ok sc_law_items (fun vs H Q E h => (by repeat (first | (obtain ⟨rfl, _⟩ := h; rfl) | obtain ⟨_, h⟩ := h))) (fun cdv A outer s H vs Q E hr h => ?_)
  have nd := sc_law_items.nd
  have hu := hr.units
  have hu1 := hu_of hr
  obtain ⟨f, w, most, rfl, hf, h0, h6, hm1, hm2, k⟩ := h
  refine ⟨_, (pss_cons (ps_par3 (i := 3) (j := 4) (l := 5) (by exact rfl) nd rfl rfl rfl (by decide) (by decide) (by decide) rfl rfl rfl (pa_cons (pe_call (ok_law_players T) (hr.mono (by decide)) (by exact rfl) T.m_law_players T.F_law_players.kp T.b_law_players .nil pass0 (pa_cons (pv 1) pa_nil)) (pa_cons (pe_lst pa_nil) (pa_cons (pe_lst pa_nil) pa_nil))) (by exact rfl))
      (pss_cons (ps_for PassesOwn.never rfl (pi_range1 (by exact rfl) T.z_range (pa_cons (pe_ix ix_list (pe_lst (pa_cons (pe_call (ok_law_pick T) (hr.mono (by decide)) (by exact rfl) T.m_law_pick T.F_law_pick.kp T.b_law_pick .nil pass0 (pa_cons (pv 0) (pa_cons (pe_op op_add (pv 2) pe_int) pa_nil))) (pa_cons (pv 2) (pa_cons (pe_call (ok_law_pick T) (hr.mono (by decide)) (by exact rfl) T.m_law_pick T.F_law_pick.kp T.b_law_pick .nil pass0 (pa_cons (pv 0) (pa_cons (pe_callB (call_min2 rfl) (by exact rfl) T.z_min (by decide +kernel) (pa_cons pe_int (pa_cons (pe_op op_add (pv 2) pe_int) pa_nil))) pa_nil))) pa_nil)))) (pe_call (ok_law_pick T) (hr.mono (by decide)) (by exact rfl) T.m_law_pick T.F_law_pick.kp T.b_law_pick .nil pass0 (pa_cons (pv 0) (pa_cons pe_int pa_nil))) (fun _ _ => rfl)) pa_nil)) (pg_name (i := 6) nd rfl (Or.inl rfl))
      (pss_one (ps_if (pt_cmpR op_gt (pv 3) pe_int (nomark _)) (pss_cons (ps_set (i := 7) nd rfl (Or.inl rfl) (pe_and (pe_cmpR (op_neD hu) (pv 4) (pe_lst pa_nil) (nomark _)) (pe_one (pe_cmpR op_eq (pe_call (ok_law_pick T) (hr.mono (by decide)) (by exact rfl) T.m_law_pick T.F_law_pick.kp T.b_law_pick .nil pass0 (pa_cons (pv 0) (pa_cons pe_int pa_nil))) pe_int (nomark _)))))
      (pss_one (ps_expr (pe_bm PySem.F.plainAttrs_list PySem.F.slot_list_append PySem.F.type_list_append mt_append (pv 4) (pa_cons (pe_ifExp (pt_val (pv 7)) (pe_ix ix_list (pv 4) (pe_call (ok_law_pick T) (hr.mono (by decide)) (by exact rfl) T.m_law_pick T.F_law_pick.kp T.b_law_pick .nil pass0 (pa_cons (pv 0) (pa_cons (pe_callB call_len_seq (by exact rfl) T.z_len (by decide +kernel) (pa_cons (pv 4) pa_nil)) pa_nil))) (fun _ _ => rfl)) (pe_call (ok_law_pair T) (hr.mono (by decide)) (by exact rfl) T.m_law_pair T.F_law_pair.kp T.b_law_pair .nil pass0 (pa_cons (pv 0) (pa_cons (pv 3) pa_nil)))) pa_nil))))) pss_nil)))
      (pss_cons (ps_for PassesOwn.never rfl (pi_range1 (by exact rfl) T.z_range (pa_cons (pe_ix ix_list (pe_lst (pa_cons (pe_call (ok_law_pick T) (hr.mono (by decide)) (by exact rfl) T.m_law_pick T.F_law_pick.kp T.b_law_pick .nil pass0 (pa_cons (pv 0) (pa_cons (pe_op op_add (pv 2) pe_int) pa_nil))) (pa_cons (pv 2) (pa_cons (pe_call (ok_law_pick T) (hr.mono (by decide)) (by exact rfl) T.m_law_pick T.F_law_pick.kp T.b_law_pick .nil pass0 (pa_cons (pv 0) (pa_cons (pe_callB (call_min2 rfl) (by exact rfl) T.z_min (by decide +kernel) (pa_cons pe_int (pa_cons (pe_op op_add (pv 2) pe_int) pa_nil))) pa_nil))) pa_nil)))) (pe_call (ok_law_pick T) (hr.mono (by decide)) (by exact rfl) T.m_law_pick T.F_law_pick.kp T.b_law_pick .nil pass0 (pa_cons (pv 0) (pa_cons pe_int pa_nil))) (fun _ _ => rfl)) pa_nil)) (pg_name (i := 6) nd rfl (Or.inl rfl))
      (pss_one (ps_expr (pe_bm PySem.F.plainAttrs_list PySem.F.slot_list_append PySem.F.type_list_append mt_append (pv 5) (pa_cons (pe_tup (pa_cons (pe_call (ok_law_pick T) (hr.mono (by decide)) (by exact rfl) T.m_law_pick T.F_law_pick.kp T.b_law_pick .nil pass0 (pa_cons (pv 0) (pa_cons (pv 3) pa_nil))) (pa_cons (pe_call (ok_law_pick T) (hr.mono (by decide)) (by exact rfl) T.m_law_pick T.F_law_pick.kp T.b_law_pick .nil pass0 (pa_cons (pv 0) (pa_cons (pe_op op_add (pv 1) pe_int) pa_nil))) pa_nil))) pa_nil)))))
      (pss_one (ps_ret (pe_lst (pa_cons (pv 4) (pa_cons (pv 5) pa_nil)))))))), ?_⟩
  wtm_at "go"
  refine ⟨w, rfl, h0, h6, fun H1 s1 => ?_⟩
  wtm_at "go"
  refine ⟨by wtm_at "sz", fun l n_l => ?_⟩
  generalize e_H2 : upd _ l _ = H2
  have s_H2 := same_upd n_l e_H2
  have h_l := upd_at e_H2
  clear e_H2
  wtm_at "go"
  refine ⟨by wtm_at "sz", fun m n_m => ?_⟩
  generalize e_H3 : upd _ m _ = H3
  have s_H3 := same_upd n_m e_H3
  have h_m := upd_at e_H3
  clear e_H3
  wtm_at "go"
  refine ⟨_, _, _, rfl, ?_⟩
  wtm_at "go"
  have sAll := (s1.trans s_H2).trans s_H3
  have f3 := hf.ext sAll
  have hMb := pow_bnd h0 h6
  generalize hM : (2 : Int) ^ w.toNat = M at hMb ⊢
  obtain ⟨M0, M64⟩ := hMb
  have hlm : l ≠ m := ne_of_none h_l n_m
  have nl := s1.free n_l
  have nm := (s1.trans s_H2).free n_m
  have I3 : ItI H H3 f l m w 0 0 [] [] := ⟨Same.but sAll, f3, ⟨[], s_H3 _ _ h_l, .nil⟩, ⟨[], h_m, .nil⟩, Nat.le_refl _, Nat.le_refl _, (fun p h => by cases h), (fun p h => by cases h)⟩
  have hmin : 1 ≤ (if most + 1 < 6 then most + 1 else 6) ∧ (if most + 1 < 6 then most + 1 else 6) ≤ most + 1 := by split <;> omega
  refine ⟨f, _, rfl, I3.fd, by omega, by omega, fun H4 d1 d10 d11 b4 f4 => ?_⟩
  have I4 := I3.but b4 f4
  wtm_at "go"
  refine ⟨f, _, rfl, I4.fd, hmin.1, by omega, fun H5 d2 d20 d21 b5 f5 => ?_⟩
  have I5 := I4.but b5 f5
  wtm_at "go"
  refine ⟨by wtm_at "sz", fun q n_q => ?_⟩
  generalize e_H6 : upd _ q _ = H6
  have s_H6 := same_upd n_q e_H6
  have h_q := upd_at e_H6
  clear e_H6
  have I6 := I5.same s_H6
  wtm_at "go"
  refine ⟨f, _, rfl, I6.fd, by omega, by omega, fun H7 d3 d30 d31 b7 f7 => ?_⟩
  have I7 := I6.but b7 f7
  have hqf : q ≠ f := by
    obtain ⟨_, _, _, z⟩ := I5.fd
    exact Ne.symm (ne_of_none z n_q)
  have h_q7 := b7 _ _ hqf h_q
  obtain ⟨n, hn, n0, n200⟩ := three_at (x := d1) (y := most) (z := d2) (N := 200) d30 d31 (by omega) (by omega) (by omega)
  wtm_at "go"
  refine foR ⟨by omega, by omega⟩ (fun i σ G => ∃ u v fs, σ = [some (.ref f), some (.int w), some (.int most), some (.int M), some (.ref l), some (.ref m), u, v] ∧ ItI H G f l m w i 0 fs []) ⟨_, _, [], rfl, I7⟩ (fun i σ G hi ⟨u, v, fs, e, I⟩ => ?_) (fun σ G ⟨u, v, fs, e, I⟩ => ?_)
  · subst e
    wtm_at "go"
    refine iteD (fun hM1 => ?_) (fun hM1 => ?_)
    · obtain ⟨fv, hl, p1⟩ := I.hl
      have hfl := I.n1
      wtm_at "go"
      refine ⟨by wtm_at "sz", fun q1 n_q1 => ?_⟩
      generalize e_G1 : upd _ q1 _ = G1
      have s_G1 := same_upd n_q1 e_G1
      have h_q1 := upd_at e_G1
      clear e_G1
      have I1 := I.same s_G1
      refine ⟨dL fs, dL [], PL.dp ⟨fv, s_G1 _ _ hl, p1.ext s_G1⟩, PL.dp ⟨[], h_q1, .nil⟩, dL_shaped _, dL_shaped _, ?_⟩
      rw [dL_eqv]
      wtm_at "go"
      refine iteND (fun hne => ?_) (fun he => ?_)
      · wtm_at "go"
        refine ⟨f, 6, rfl, I1.fd, by omega, by omega, fun G2 d d0 dd b2 f2 => ?_⟩
        have I2 := I1.but b2 f2
        obtain ⟨fv2, hl2, p2⟩ := I2.hl
        wtm_at "go"
        refine iteD (fun hd0 => ?_) (fun hd0 => ?_)
        · wtm_at "go"
          have hpos : 0 < fs.length := List.length_pos_iff.mpr hne
          have hl2n := p2.length
          refine ⟨f, _, rfl, I2.fd, by omega, by omega, fun G3 e e0 e1 b3 f3 => ?_⟩
          have I3' := I2.but b3 f3
          obtain ⟨fv3, hl3, p3⟩ := I3'.hl
          have hl3n := p3.length
          obtain ⟨j, rfl⟩ : ∃ j : Nat, e = (j : Int) := ⟨e.toNat, by omega⟩
          have hj : j < fv3.length := by omega
          obtain ⟨p, hp1, hp2⟩ := p3.get (List.getElem?_eq_getElem hj)
          have hv := atI_nat (List.getElem?_eq_getElem hj)
          wtm_at "go"
          try refine r_append hl3 (by rw [p3.length]; have := line_big; omega) ?_
          refine hold ?_
          generalize e_G4 : upd _ l _ = G4
          have b_G4 := but_upd e_G4
          have h_G4 := upd_at e_G4
          clear e_G4
          wtm_at "go"
          exact ⟨_, _, fs ++ [p], rfl, I3'.add1 nl hlm hl3 p3 hp2 (I2.v1 p (List.mem_of_getElem? hp1)) b_G4 h_G4⟩
        · wtm_at "go"
          refine ⟨f, M, rfl, I2.fd, by omega, by omega, fun G3 t p b3 nt f3 hp q0 q1 q2 q3 q4 => ?_⟩
          have I3' := I2.but b3 f3
          obtain ⟨fv3, hl3, p3⟩ := I3'.hl
          wtm_at "go"
          try refine r_append hl3 (by rw [p3.length]; have := line_big; omega) ?_
          refine hold ?_
          generalize e_G4 : upd _ l _ = G4
          have b_G4 := but_upd e_G4
          have h_G4 := upd_at e_G4
          clear e_G4
          wtm_at "go"
          exact ⟨_, _, fs ++ [p], rfl, I3'.add1 nl hlm hl3 p3 hp (isRes_of hM q0 q1 q2 q3 q4) b_G4 h_G4⟩
      · have hl1 := s_G1 _ _ hl
        wtm_at "go"
        refine ⟨f, M, rfl, I1.fd, by omega, by omega, fun G3 t p b3 nt f3 hp q0 q1 q2 q3 q4 => ?_⟩
        have I3' := I1.but b3 f3
        obtain ⟨fv3, hl3, p3⟩ := I3'.hl
        wtm_at "go"
        try refine r_append hl3 (by rw [p3.length]; have := line_big; omega) ?_
        refine hold ?_
        generalize e_G4 : upd _ l _ = G4
        have b_G4 := but_upd e_G4
        have h_G4 := upd_at e_G4
        clear e_G4
        wtm_at "go"
        exact ⟨_, _, fs ++ [p], rfl, I3'.add1 nl hlm hl3 p3 hp (isRes_of hM q0 q1 q2 q3 q4) b_G4 h_G4⟩
    · wtm_at "go"
      exact ⟨_, _, fs, rfl, I.up (Nat.le_succ _) (Nat.le_refl _)⟩
  · subst e
    wtm_at "go"
    have n1 := I.n1
    refine ⟨f, _, rfl, I.fd, by omega, by omega, fun H4 d1 d10 d11 b4 f4 => ?_⟩
    have I4 := I.but b4 f4
    wtm_at "go"
    refine ⟨f, _, rfl, I4.fd, hmin.1, by omega, fun H5 d2 d20 d21 b5 f5 => ?_⟩
    have I5 := I4.but b5 f5
    wtm_at "go"
    refine ⟨by wtm_at "sz", fun qq n_qq => ?_⟩
    generalize e_H6 : upd _ qq _ = H6
    have s_H6 := same_upd n_qq e_H6
    have h_qq := upd_at e_H6
    clear e_H6
    have I6 := I5.same s_H6
    wtm_at "go"
    refine ⟨f, _, rfl, I6.fd, by omega, by omega, fun H7 d3 d30 d31 b7 f7 => ?_⟩
    have I7 := I6.but b7 f7
    have hqf2 : qq ≠ f := by
      obtain ⟨_, _, _, z⟩ := I5.fd
      exact Ne.symm (ne_of_none z n_qq)
    have h_q8 := b7 _ _ hqf2 h_qq
    obtain ⟨n', hn', n0', n200'⟩ := three_at (x := d1) (y := most) (z := d2) (N := 200) d30 d31 (by omega) (by omega) (by omega)
    wtm_at "go"
    refine foR ⟨by omega, by omega⟩ (fun i σ G => ∃ u v cs, σ = [some (.ref f), some (.int w), some (.int most), some (.int M), some (.ref l), some (.ref m), u, v] ∧ ItI H G f l m w n.toNat i fs cs) ⟨_, _, [], rfl, I7⟩ (fun i σ G hi ⟨u, v, cs, e, J⟩ => ?_) (fun σ G ⟨u, v, cs, e, J⟩ => ?_)
    · subst e
      obtain ⟨cv, hc, pc⟩ := J.hm
      have hcn := J.n2
      wtm_at "go"
      refine ⟨f, M, rfl, J.fd, by omega, by omega, fun G2 d d0 dd b2 f2 => ?_⟩
      have J2 := J.but b2 f2
      wtm_at "go"
      refine ⟨f, _, rfl, J2.fd, by omega, by omega, fun G3 e e0 ed b3 f3 => ?_⟩
      have J3 := J2.but b3 f3
      wtm_at "go"
      refine ⟨by wtm_at "sz", fun t n_t => ?_⟩
      generalize e_G4 : upd _ t _ = G4
      have s_G4 := same_upd n_t e_G4
      have h_t := upd_at e_G4
      clear e_G4
      have J4 := J3.same s_G4
      obtain ⟨cv4, hc4, pc4⟩ := J4.hm
      wtm_at "go"
      try refine r_append hc4 (by rw [pc4.length]; have := line_big; omega) ?_
      refine hold ?_
      generalize e_G5 : upd _ m _ = G5
      have b_G5 := but_upd e_G5
      have h_G5 := upd_at e_G5
      clear e_G5
      wtm_at "go"
      exact ⟨_, _, cs ++ [(d, e)], rfl, J4.add2 nm hlm hc4 pc4 ⟨t, rfl, h_t⟩ (isCl_of hM d0 dd e0 (by omega)) b_G5 h_G5⟩
    · subst e
      wtm_at "go"
      refine ⟨by wtm_at "sz", fun t n_t => ?_⟩
      generalize e_G2 : upd _ t _ = G2
      have s_G2 := same_upd n_t e_G2
      have h_t := upd_at e_G2
      clear e_G2
      have J2 := J.same s_G2
      obtain ⟨_, z1, _⟩ := J.hl
      obtain ⟨_, z2, _⟩ := J.hm
      wtm_at "go"
      have c1 := J.n1
      have c2 := J.n2
      exact k G2 t l m fs cs J2.b J2.fd (J.fd.free J.b n_t) nl nm h_t J2.hl J2.hm hlm (Ne.symm (ne_of_none z1 n_t)) (Ne.symm (ne_of_none z2 n_t)) (by omega) (by omega) J.v1 J.v2
end
end Ct
end
section
set_option Elab.async false
set_option linter.all false
set_option maxRecDepth 100000
set_option maxHeartbeats 16000000
namespace Ct
open PySem PySem.Spec L2 StX

local macro_rules | `(tactic| wtm_at "hp") => `(tactic| first
  | assumption
  | exact (‹Same _ _›) _ _ (by wtm_at "hp")
  | exact (‹But _ _ _›) _ _ (by wtm_at "ne") (by wtm_at "hp"))
local macro_rules | `(tactic| wtm_at "hpL") => `(tactic| first | exact SqL.of (by wtm_at "hp") | assumption)
local macro_rules | `(tactic| wtm_at "hpT") => `(tactic| first | exact SqT.of (by wtm_at "hp") | assumption)
local macro_rules | `(tactic| wtm_at "ne") => `(tactic| first
  | assumption
  | exact Ne.symm (by assumption)
  | exact ne_lst_tup (by wtm_at "hp") (by wtm_at "hp")
  | exact ne_tup_lst (by wtm_at "hp") (by wtm_at "hp")
  | exact ne_of_none (by wtm_at "hp") (by assumption)
  | exact Ne.symm (ne_of_none (by wtm_at "hp") (by assumption)))
local macro_rules | `(tactic| wtm_at "c") => `(tactic| first
  | omega
  | (unfold CMul; omega)
  | (unfold CDiv; omega)
  | (unfold CPow; omega))
local macro_rules | `(tactic| wtm_at "sz") => `(tactic| first
  | exact sz64 rfl
  | exact (by decide)
  | (show _ ≤ sizeLine; rw [sizeLine_eq]; omega)
  | (show _ < sizeLine; rw [sizeLine_eq]; omega))
local macro_rules | `(tactic| wtm_at "go1") => `(tactic| first
  | with_reducible refine r_seq ?_
  | with_reducible refine r_op ?_
  | ((with_reducible refine' r_var ?rv ?_); (case rv => exact rfl))
  | with_reducible refine r_c ?_
  | with_reducible refine r_asg ?_
  | with_reducible refine r_name ?_
  | with_reducible refine r_i0 ?_
  | ((with_reducible refine' r_i ?rc ?_); (case rc => wtm_at "c"))
  | ((with_reducible refine' r_ixL ?r1 ?r2 ?_); (case r1 => wtm_at "hpL"); (case r2 => first | exact rfl | assumption))
  | ((with_reducible refine' r_ixT ?r1 ?r2 ?_); (case r1 => wtm_at "hpT"); (case r2 => first | exact rfl | assumption))
  | with_reducible refine r_consA ?_
  | with_reducible refine r_nilA ?_
  | with_reducible refine r_call ?_
  | with_reducible refine r_cb ?_
  | with_reducible refine r_test ?_
  | with_reducible refine r_exb ?_
  | ((with_reducible refine r_eq ?rq ?_); (case rq => exact rfl))
  | ((with_reducible refine r_ne ?rq ?_); (case rq => exact rfl))
  | with_reducible refine r_ret ?_
  | with_reducible refine r_if ?_
  | with_reducible refine r_next ?_
  | with_reducible refine r_drop ?_
  | with_reducible refine r_gsub ?_
  | ((with_reducible refine' r_setL ?r1 ?r2 ?_); (case r1 => wtm_at "hp"); (case r2 => exact rfl))
  | with_reducible refine r_b ?_
  | with_reducible refine r_and ?_
  | with_reducible refine r_or ?_
  | with_reducible refine r_not ?_
  | with_reducible refine r_andV ?_
  | with_reducible refine r_orV ?_
  | with_reducible refine r_notV ?_
  | with_reducible refine r_ifE ?_
  | with_reducible refine r_chain ?_
  | with_reducible refine r_u ?_
  | with_reducible refine r_un ?_
  | with_reducible refine r_fld ?_
  | with_reducible refine r_fldS ?_
  | with_reducible refine r_lst ?_
  | with_reducible refine r_tup ?_
  | with_reducible refine r_par ?_
  | with_reducible refine r_par3 ?_
  | with_reducible refine r_retN ?_
  | with_reducible refine r_gcons ?_
  | with_reducible refine r_gnil ?_
  | ((with_reducible refine' r_gtup ?r1 ?r2 ?_); (case r1 => wtm_at "hpT"); (case r2 => exact rfl))
  | with_reducible refine r_bm ?_
  | with_reducible refine r_bm0 ?_
  | with_reducible refine r_lcL ?_
  | with_reducible refine r_foL ?_
  | with_reducible refine r_foR ?_
  | with_reducible refine r_yes ?_
  | ((with_reducible refine' r_wipe ?rw ?_); (case rw => exact rfl))
  | ((with_reducible refine' r_tyL ?r1 ?_); (case r1 => wtm_at "hpL"))
  | ((with_reducible refine' r_append ?r1 ?r2 ?_); (case r1 => wtm_at "hp"); (case r2 => wtm_at "sz"))
  | with_reducible refine r_dput ?_
  | with_reducible refine r_dget ?_
  | with_reducible refine r_dget2 ?_
  | with_reducible refine r_dnew ?_
  | with_reducible refine iteT ?_
  | with_reducible refine iteF ?_
  | with_reducible refine iteNT ?_
  | with_reducible refine iteNF ?_)
local macro_rules | `(tactic| wtm_at "go") => `(tactic| repeat wtm_at "go1")


local macro_rules | `(tactic| wtm_at "go1") => `(tactic| first
  | with_reducible refine e_int1 ?_
  | with_reducible refine e_int2 ?_
  | with_reducible refine e_two ?_
  | ((with_reducible refine' e_lenL ?r1 ?_); (case r1 => wtm_at "hpL"))
  | ((with_reducible refine' e_lenT ?r1 ?_); (case r1 => wtm_at "hpT")))

theorem sm_of_isRes {w : Int} {p : P2} (h0 : 0 ≤ w) (h6 : w ≤ 6) (h : isRes w p = true) : Sm p := by
  unfold isRes at h
  have hb := pow_bnd h0 h6
  simp only [Bool.and_eq_true, decide_eq_true_eq] at h
  obtain ⟨_, ⟨a, b⟩, c, d⟩ := h
  exact ⟨a, by omega, c, by omega⟩
theorem sm_of_isCl {w : Int} {p : P2} (h0 : 0 ≤ w) (h6 : w ≤ 6) (h : isCl w p = true) : Sm p := by
  unfold isCl at h
  have hb := pow_bnd h0 h6
  simp only [Bool.and_eq_true, decide_eq_true_eq] at h
  obtain ⟨⟨a, b⟩, c, d⟩ := h
  exact ⟨a, by omega, c, by omega⟩
theorem sm_pset {rs : List P2} (h : ∀ p ∈ rs, Sm p) : ∀ p ∈ pset rs, Sm p := fun p hp => h p (mem_pset.mp hp)
theorem sm_gcl {cs : List P2} (h : ∀ p ∈ cs, Sm p) : ∀ p ∈ gcl cs, Sm p := fun p hp => by
  obtain ⟨⟨q, hq, e⟩, h1, h2⟩ := mem_gcl.mp hp
  rcases mx_is cs p.1 with z | ⟨u, hu, z1, z2⟩
  · omega
  · have := h u hu
    rw [← h1, ] at z2
    exact ⟨by rw [← z1]; exact this.1, by rw [← z1]; exact this.2.1, by rw [← z2]; exact this.2.2.1, by rw [← z2]; exact this.2.2.2⟩
/-- an object and its dict, made and filled -/
theorem made_same {H H' : Hp} {x dx : Addr} {o o' : HO} (hx : H x = none) (hd : H dx = none) (b : But x (upd (upd H dx o) x o') H') : Same H H' := fun c u e => by
  have n1 := ne_of_none e hx
  have n2 := ne_of_none e hd
  exact b _ _ n1 (by rw [upd_ne n1, upd_ne n2]; exact e)
theorem made_free {H : Hp} {x dx r : Addr} {o o' : HO} (hx : H x = none) (hd : H dx = none) (h : (upd (upd H dx o) x o') r = none) : H r = none := by
  cases e : H r with
  | none => rfl
  | some u =>
    rw [upd_ne (ne_of_none e hx), upd_ne (ne_of_none e hd), e] at h
    cases h
theorem made_up {H : Hp} {x dx : Addr} {o o' : HO} (hx : H x = none) (hd : H dx = none) : Same H (upd (upd H dx o) x o') := fun c u e => by
  rw [upd_ne (ne_of_none e hx), upd_ne (ne_of_none e hd)]
  exact e
theorem TalkR.other {C : Addr} {G G' : Hp} {t r c x : Addr} {w : Int} {rs cs : List P2} {xs : List V} (h : TalkR C G t r c w rs cs) (b : But x G G') (hx : G x = some (.lst xs)) (n1 : r ≠ x) (n2 : c ≠ x) : TalkR C G' t r c w rs cs := by
  obtain ⟨⟨dx, fs, h1, h2⟩, hr, hc⟩ := h
  exact ⟨⟨dx, fs, b _ _ (Ne.symm (ne_ins_lst h1 hx)) h1, h2⟩, hr.other b n1 hx, hc.other b n2 hx⟩
theorem FeedAt.ne2 {H : Hp} {f p x : Addr} {r : List V} (h : FeedAt H f) (e : H p = some (.lst (.ref x :: r))) : p ≠ f := by
  obtain ⟨a, b, c, h⟩ := h
  intro z
  subst z
  rw [e] at h
  cases h
theorem r_make {C : Addr} {sp : Sp} {dvs : List V} {E : XK} {t : TA} {σ : L2.St} {H : Hp} {Q : VK} (h : t σ H fun vs H1 => ∀ x dx, H1 x = none → H1 dx = none → dx ≠ x →
  sp (.ref x :: (vs ++ dvs)) (upd (upd H1 dx (.own x)) x (.ins C dx [])) (fun v H2 => v = .non ∧ Q (.ref x) H2) E) : tMake C sp dvs E t σ H Q := h
theorem r_makeK {C : Addr} {n m : Nat} {sp : Sp} {g : List V → List V → List V} {E : XK} {t tk : TA} {σ : L2.St} {H : Hp} {Q : VK} (h : t σ H fun vs H1 => tk σ H1 fun zs H2 => vs.length = n ∧ zs.length = m ∧ ∀ x dx, H2 x = none → H2 dx = none → dx ≠ x →
  sp (g (.ref x :: vs) zs) (upd (upd H2 dx (.own x)) x (.ins C dx [])) (fun v H3 => v = .non ∧ Q (.ref x) H3) E) : tMakeK C n m sp g E t tk σ H Q := h
theorem r_prop {C : Addr} {sp : Sp} {dvs : List V} {E : XK} {ta : TE} {σ : L2.St} {H : Hp} {Q : VK} (h : ta σ H fun x H1 => ∃ a dx fs, x = .ref a ∧ H1 a = some (.ins C dx fs) ∧ sp (.ref a :: dvs) H1 Q E) : tProp C sp dvs E ta σ H Q := h
theorem r_revL {K : PySem.W.Frag} {te : TE} {σ : L2.St} {H : Hp} {Q : VK} (h : te σ H fun x H1 => ∃ a xs, x = .ref a ∧ SqL K H1 a xs ∧ ∀ p, H1 p = none → Q (.ref p) (upd H1 p (.lst xs.reverse))) : tRevL K te σ H Q := h
theorem r_clear {p : Addr} {xs : List V} {H : Hp} {Q : VK} (h1 : H p = some (.lst xs)) (h : Hold (Q .non (upd H p (.lst [])))) : rClear (.ref p) [] H Q := ⟨p, xs, rfl, rfl, h1, h⟩
theorem r_meth {C : Addr} {m : Str} {sp : Sp} {dvs : List V} {E : XK} {ta : TE} {t : TA} {σ : L2.St} {H : Hp} {Q : VK} (h : ta σ H fun x H1 => ∃ a dx fs, x = .ref a ∧ H1 a = some (.ins C dx fs) ∧ fs.lookup m = none ∧ t σ H1 fun vs H2 => sp (x :: (vs ++ dvs)) H2 Q E) : tMeth C m sp dvs E ta t σ H Q := h
theorem r_methK {C : Addr} {m : Str} {n : Nat} {sp : Sp} {g : List V → List V → List V} {E : XK} {ta : TE} {t : TA} {σ : L2.St} {H : Hp} {Q : VK} (h : ta σ H fun x H1 => ∃ a dx fs, x = .ref a ∧ H1 a = some (.ins C dx fs) ∧ fs.lookup m = none ∧ t σ H1 fun zs H2 => zs.length = n ∧ sp (g [x] zs) H2 Q E) : tMethK C m n sp g E ta t σ H Q := h

local macro_rules | `(tactic| wtm_at "go1") => `(tactic| first
  | with_reducible refine r_make ?_
  | with_reducible refine r_makeK ?_
  | with_reducible refine r_prop ?_
  | with_reducible refine r_revL ?_
  | with_reducible refine r_star ?_
  | with_reducible refine r_meth ?_
  | with_reducible refine r_methK ?_
  | ((with_reducible refine' r_clear ?r1 ?_); (case r1 => wtm_at "hp")))

def sp_check_player : Sp := fun vs H Q _ => ∃ i k : Int, vs = [.int i, .int k] ∧ 0 ≤ k ∧ k ≤ 6 ∧ 0 ≤ i ∧ i < 2 ^ k.toNat ∧ Q .non H
def sp_check_number : Sp := fun vs H Q _ => ∃ i k : Int, vs = [.int i, .int k] ∧ 0 ≤ i ∧ i ≤ k ∧ Q .non H
def sp_Talk__with_more (a : Ad) : Sp := fun vs H Q _ => ∃ (t r c : Addr) (w : Int) (rs cs : List P2) (l m : Addr) (ls ms : List P2), vs = [.ref t, .ref l, .ref m] ∧ TalkR a.C_Talk H t r c w rs cs ∧ PL H l ls ∧ PL H m ms ∧ 0 ≤ w ∧ w ≤ 6 ∧
  rs.length + ls.length ≤ 1200 ∧ cs.length + ms.length ≤ 10000 ∧ ∀ H' t' r' c', Same H H' → H t' = none → TalkR a.C_Talk H' t' r' c' w (pset (rs ++ ls)) (gcl (cs ++ ms)) → Q (.ref t') H'
def sp_Talk___add__ (a : Ad) : Sp := fun vs H Q _ => ∃ (t r c : Addr) (w : Int) (rs cs : List P2) (u r1 c1 : Addr) (ls ms : List P2), vs = [.ref t, .ref u] ∧ TalkR a.C_Talk H t r c w rs cs ∧ TalkR a.C_Talk H u r1 c1 w ls ms ∧ 0 ≤ w ∧ w ≤ 6 ∧
  rs.length + ls.length ≤ 1200 ∧ cs.length + ms.length ≤ 10000 ∧ ∀ H' t' r' c', Same H H' → H t' = none → TalkR a.C_Talk H' t' r' c' w (pset (rs ++ ls)) (gcl (cs ++ ms)) → Q (.ref t') H'
def sp_Talk_with_result (a : Ad) : Sp := fun vs H Q _ => ∃ (t r c : Addr) (w : Int) (rs cs : List P2) (x y : Int), vs = [.ref t, .int x, .int y] ∧ TalkR a.C_Talk H t r c w rs cs ∧ 0 ≤ w ∧ w ≤ 6 ∧ isRes w (x, y) = true ∧
  rs.length ≤ 1100 ∧ cs.length ≤ 5000 ∧ ∀ H' t' r' c', Same H H' → H t' = none → TalkR a.C_Talk H' t' r' c' w (pset (rs ++ [(x, y)])) (gcl (cs ++ [])) → Q (.ref t') H'
def sp_Talk_with_claim (a : Ad) : Sp := fun vs H Q _ => ∃ (t r c : Addr) (w : Int) (rs cs : List P2) (x y : Int), vs = [.ref t, .int x, .int y] ∧ TalkR a.C_Talk H t r c w rs cs ∧ 0 ≤ w ∧ w ≤ 6 ∧ isCl w (x, y) = true ∧
  rs.length ≤ 1100 ∧ cs.length ≤ 5000 ∧ ∀ H' t' r' c', Same H H' → H t' = none → TalkR a.C_Talk H' t' r' c' w (pset (rs ++ [])) (gcl (cs ++ [(x, y)])) → Q (.ref t') H'
section
variable {P : Program} {w : World} {K : PySem.W.Frag} {mg : Str → Option Value} {base : Heap} {a : Ad}
theorem sc_check_player : FnScope ["player", "size"] ["player", "size"] (defScope s_check_player) := ⟨rfl, rfl, rfl, by decide +kernel, rfl, by decide +kernel, by decide +kernel⟩
theorem ok_check_player (T : Txt K mg a) : FnOk P w K mg base CX0 3 a.f_check_player a.d_check_player ["player", "size"] (sp_check_player) := by
  refine T.F_check_player.ok sc_check_player (fun vs H Q E h => (by repeat (first | (obtain ⟨rfl, _⟩ := h; rfl) | obtain ⟨_, h⟩ := h))) (fun cdv A outer s H vs Q E hr h => ?_)
  have nd := sc_check_player.nd
  have hu := hr.units
  have hu1 := hu_of hr
  obtain ⟨i, z, rfl, h0, h6, h1, h2, k⟩ := h
  refine ⟨_, (pss_one (ps_if (pt_not (pt_val (pe_call (ok_is_player T) (hr.mono (by decide)) (by exact rfl) T.m_is_player T.F_is_player.kp T.b_is_player .nil pass0 (pa_cons (pv 0) (pa_cons (pv 1) pa_nil))))) (pss_one ps_never) pss_nil)), ?_⟩
  wtm_at "go"
  refine ⟨_, _, rfl, h0, h6, ?_⟩
  wtm_at "go"
  refine iteND (fun h => absurd ⟨h1, h2⟩ h) (fun _ => ?_)
  wtm_at "go"
  exact k
theorem sc_check_number : FnScope ["number", "size"] ["number", "size"] (defScope s_check_number) := ⟨rfl, rfl, rfl, by decide +kernel, rfl, by decide +kernel, by decide +kernel⟩
theorem ok_check_number (T : Txt K mg a) : FnOk P w K mg base CX0 3 a.f_check_number a.d_check_number ["number", "size"] (sp_check_number) := by
  refine T.F_check_number.ok sc_check_number (fun vs H Q E h => (by repeat (first | (obtain ⟨rfl, _⟩ := h; rfl) | obtain ⟨_, h⟩ := h))) (fun cdv A outer s H vs Q E hr h => ?_)
  have nd := sc_check_number.nd
  have hu := hr.units
  have hu1 := hu_of hr
  obtain ⟨i, z, rfl, h1, h2, k⟩ := h
  refine ⟨_, (pss_one (ps_if (pt_not (pt_val (pe_call (ok_is_number T) (hr.mono (by decide)) (by exact rfl) T.m_is_number T.F_is_number.kp T.b_is_number .nil pass0 (pa_cons (pv 0) (pa_cons (pv 1) pa_nil))))) (pss_one ps_never) pss_nil)), ?_⟩
  wtm_at "go"
  refine ⟨_, _, rfl, ?_⟩
  wtm_at "go"
  refine iteND (fun h => absurd ⟨h1, h2⟩ h) (fun _ => ?_)
  wtm_at "go"
  exact k
theorem sc_Talk__with_more : FnScope ["self", "results", "claims", "talk"] ["self", "results", "claims"] (defScope s_Talk__with_more) := ⟨rfl, rfl, rfl, by decide +kernel, rfl, by decide +kernel, by decide +kernel⟩
theorem ok_Talk__with_more (T : Txt K mg a) : FnOk P w K mg base CX0 7 a.f_Talk__with_more a.d_Talk__with_more ["self", "results", "claims"] (sp_Talk__with_more a) := by
  refine T.F_Talk__with_more.ok sc_Talk__with_more (fun vs H Q E h => (by repeat (first | (obtain ⟨rfl, _⟩ := h; rfl) | obtain ⟨_, h⟩ := h))) (fun cdv A outer s H vs Q E hr h => ?_)
  have nd := sc_Talk__with_more.nd
  have hu := hr.units
  have hu1 := hu_of hr
  obtain ⟨t, r, c, w, rs, cs, l, m, ls, ms, rfl, ht, hl, hm, h0, h6, hn1, hn2, k⟩ := h
  refine ⟨_, (pss_cons (ps_set (i := 3) nd rfl (Or.inl rfl) (pe_make T.M_Talk (ok_Talk___init__ T) (hr.mono (by decide)) (by exact rfl) T.mC_Talk T.b_Talk___init__ .nil pass0 (pa_cons (pe_fld (pv 0) rfl) (pa_cons (pe_lst pa_nil) (pa_cons (pe_lst pa_nil) pa_nil)))))
      (pss_cons (ps_fld (pv 3) (pe_callB (cr_sortS hu rfl) (by exact rfl) T.z_sorted (by decide +kernel) (pa_cons (pe_callTy (cr_setP rfl hu) (by exact rfl) T.z_set (by decide +kernel) (pa_cons (pe_lst (pa_star (pe_fld (pv 0) rfl) (pa_star (pv 1) pa_nil))) pa_nil)) pa_nil)) rfl)
      (pss_cons (ps_fld (pv 3) (pe_call (ok_greatest_claims T) (hr.mono (by decide)) (by exact rfl) T.m_greatest_claims T.F_greatest_claims.kp T.b_greatest_claims .nil pass0 (pa_cons (pe_lst (pa_star (pe_fld (pv 0) rfl) (pa_star (pv 2) pa_nil))) pa_nil)) rfl)
      (pss_one (ps_ret (pv 3)))))), ?_⟩
  obtain ⟨dx, fs, e1, e2, e3, e4, e5, e6⟩ := id ht.at_
  wtm_at "go"
  refine ⟨t, _, dx, fs, _, rfl, e1, T.cl_Talk, T.n_Talk__size, e2, ?_⟩
  wtm_at "go"
  refine ⟨by wtm_at "sz", fun q0 n_q0 => ?_⟩
  generalize e_H1 : upd _ q0 _ = H1
  have s_H1 := same_upd n_q0 e_H1
  have h_q0 := upd_at e_H1
  clear e_H1
  wtm_at "go"
  refine ⟨by wtm_at "sz", fun q1 n_q1 => ?_⟩
  generalize e_H2 : upd _ q1 _ = H2
  have s_H2 := same_upd n_q1 e_H2
  have h_q1 := upd_at e_H2
  clear e_H2
  wtm_at "go"
  refine fun tt dx' nt nd _ => ?_
  have up := made_up (o := .own tt) (o' := .ins a.C_Talk dx' []) nt nd
  refine ⟨tt, dx', q0, q1, w, [], [], rfl, upd_same, PL.ext ⟨[], s_H2 _ _ h_q0, .nil⟩ up, PL.ext ⟨[], h_q1, .nil⟩ up, by decide, by decide, h0, h6, (fun p h => by cases h), (fun p h => by cases h), fun H3 r0 c0 b3 nr nc T3 => ⟨rfl, ?_⟩⟩
  have s3 := made_same nt nd b3
  have s := (s_H1.trans s_H2).trans s3
  have nt0 := (s_H1.trans s_H2).free nt
  obtain ⟨dxt, ft, g1, g2, g3, g4, g5, g6⟩ := T3.at_
  obtain ⟨xr, hxr, pxr⟩ := ht.res.ext s
  obtain ⟨xl, hxl, pxl⟩ := hl.ext s
  have nxr := pxr.length
  have nxl := pxl.length
  wtm_at "go"
  refine ⟨t, _, dx, fs, _, rfl, s _ _ e1, T.cl_Talk, T.n_Talk__results, e3, ?_⟩
  refine ⟨_, _, rfl, .inr (SqL.of hxr), ?_⟩
  wtm_at "go"
  refine ⟨_, _, rfl, .inr (SqL.of hxl), ?_⟩
  wtm_at "go"
  rw [List.append_nil]
  refine ⟨by rw [List.length_append]; have := line_big; omega, fun L nL => ?_⟩
  generalize e_H4 : upd _ L _ = H4
  have s4 := same_upd nL e_H4
  have h_L := upd_at e_H4
  clear e_H4
  have nrl : (rs ++ ls).length = rs.length + ls.length := List.length_append
  wtm_at "go"
  refine ⟨L, _, rs ++ ls, rfl, .of h_L, (Prs.app pxr pxl).ext s4, by omega, fun d o nd' sp => ?_⟩
  generalize e_H5 : upd _ d _ = H5 at sp ⊢
  have s5 := same_upd nd' e_H5
  wtm_at "go"
  refine ⟨d, _, rfl, sp, fun r' zs nr' hz => ?_⟩
  generalize e_H6 : upd _ r' _ = H6
  have s6 := same_upd nr' e_H6
  have h_r := upd_at e_H6
  have hz6 := hz.ext s6
  have s46 := (s4.trans s5).trans s6
  have g16 := s46 _ _ g1
  wtm_at "go"
  refine ⟨tt, _, dxt, ft, rfl, g16, T.cl_Talk, T.n_Talk__results, g5, ?_⟩
  refine hold ?_
  generalize e_H7 : upd _ tt _ = H7
  have b_H7 := but_upd e_H7
  have h_H7 := upd_at e_H7
  clear e_H7
  have sH7 : Same H H7 := b_H7.same (s.trans s46) nt0
  have r7 : PL H7 r' (pset (rs ++ ls)) := b_H7.plI g16 ⟨zs, h_r, hz6⟩
  obtain ⟨xc, hxc, pxc⟩ := ht.cla.ext sH7
  obtain ⟨xm, hxm, pxm⟩ := hm.ext sH7
  have nxc := pxc.length
  have nxm := pxm.length
  wtm_at "go"
  refine ⟨t, _, dx, fs, _, rfl, sH7 _ _ e1, T.cl_Talk, T.n_Talk__claims, e4, ?_⟩
  refine ⟨_, _, rfl, .inr (SqL.of hxc), ?_⟩
  wtm_at "go"
  refine ⟨_, _, rfl, .inr (SqL.of hxm), ?_⟩
  wtm_at "go"
  rw [List.append_nil]
  refine ⟨by rw [List.length_append]; have := line_big; omega, fun M nM => ?_⟩
  generalize e_H8 : upd _ M _ = H8
  have s8 := same_upd nM e_H8
  have h_M := upd_at e_H8
  clear e_H8
  have ncm : (cs ++ ms).length = cs.length + ms.length := List.length_append
  wtm_at "go"
  refine ⟨M, cs ++ ms, rfl, ⟨_, h_M, (Prs.app pxc pxm).ext s8⟩, by omega, fun H9 c' s9 nc9 hc9 => ?_⟩
  wtm_at "go"
  have g19 := s9 _ _ (s8 _ _ h_H7)
  refine ⟨tt, _, dxt, _, rfl, g19, T.cl_Talk, T.n_Talk__claims, by rw [putF_len g3]; exact g5, ?_⟩
  refine hold ?_
  generalize e_Ha : upd _ tt _ = Ha
  have b_Ha := but_upd e_Ha
  have h_Ha := upd_at e_Ha
  clear e_Ha
  wtm_at "go"
  have sHa : Same H Ha := b_Ha.same ((sH7.trans s8).trans s9) nt0
  refine k Ha tt r' c' sHa nt0 ⟨⟨dxt, _, h_Ha, ?_, ?_, ?_, ?_, fun f n1 n2 n3 => ?_⟩, b_Ha.plI g19 ((r7.ext s8).ext s9), b_Ha.plI g19 hc9⟩
  · rw [lookup_putF, if_neg (by decide), lookup_putF, if_neg (by decide)]
    exact g2
  · rw [lookup_putF, if_neg (by decide), lookup_putF, if_pos rfl]
  · rw [lookup_putF, if_pos rfl]
  · rw [putF_len (v := .ref c0) (by rw [lookup_putF, if_neg (by decide)]; exact g4), putF_len g3]
    exact g5
  · rw [lookup_putF, if_neg n3, lookup_putF, if_neg n2]
    exact g6 f n1 n2 n3
theorem sc_Talk___add__ : FnScope ["self", "other"] ["self", "other"] (defScope s_Talk___add__) := ⟨rfl, rfl, rfl, by decide +kernel, rfl, by decide +kernel, by decide +kernel⟩
theorem ok_Talk___add__ (T : Txt K mg a) : FnOk P w K mg base CX0 8 a.f_Talk___add__ a.d_Talk___add__ ["self", "other"] (sp_Talk___add__ a) := by
  refine T.F_Talk___add__.ok sc_Talk___add__ (fun vs H Q E h => (by repeat (first | (obtain ⟨rfl, _⟩ := h; rfl) | obtain ⟨_, h⟩ := h))) (fun cdv A outer s H vs Q E hr h => ?_)
  have nd := sc_Talk___add__.nd
  have hu := hr.units
  have hu1 := hu_of hr
  obtain ⟨t, r, c, w, rs, cs, u, r1, c1, ls, ms, rfl, ht, hu', h0, h6, hn1, hn2, k⟩ := h
  refine ⟨_, (pss_cons (ps_if (PW.pt (pw_or (pt_not (pt_val (pe_callB call_isi (by exact rfl) T.z_isinstance (by decide +kernel) (pa_cons (pv 1) (pa_cons (pe_glob (v := .ref a.C_Talk) (by exact rfl) T.mC_Talk rfl) pa_nil))))) (pw_or1 (pt_cmpR op_ne (pe_fld (pv 1) rfl) (pe_fld (pv 0) rfl) (nomark _))))) (pss_one ps_never) pss_nil)
      (pss_one (ps_ret (pe_meth (pv 0) T.cl_Talk T.me_Talk__with_more (ok_Talk__with_more T) (hr.mono (by decide)) T.b_Talk__with_more .nil pass0 (pa_cons (pe_fld (pv 1) rfl) (pa_cons (pe_fld (pv 1) rfl) pa_nil)))))), ?_⟩
  obtain ⟨dx, fs, e1, e2, e3, e4, e5, e6⟩ := id ht.at_
  obtain ⟨dx', fs', e1', e2', e3', e4', e5', e6'⟩ := id hu'.at_
  wtm_at "go"
  refine ⟨_, _, _, _, _, rfl, .own _, T.is_Talk.ty T.cl_Talk e1', Isi.kit _, ?_⟩
  wtm_at "go"
  refine ⟨u, _, dx', fs', _, rfl, e1', T.cl_Talk, T.n_Talk__size, e2', ?_⟩
  wtm_at "go"
  refine ⟨t, _, dx, fs, _, rfl, e1, T.cl_Talk, T.n_Talk__size, e2, ?_⟩
  wtm_at "go"
  refine iteND (fun h => absurd rfl h) (fun _ => ?_)
  wtm_at "go"
  refine ⟨t, dx, fs, rfl, e1, e6 _ (by decide) (by decide) (by decide), ?_⟩
  wtm_at "go"
  refine ⟨u, _, dx', fs', _, rfl, e1', T.cl_Talk, T.n_Talk__results, e3', ?_⟩
  wtm_at "go"
  refine ⟨u, _, dx', fs', _, rfl, e1', T.cl_Talk, T.n_Talk__claims, e4', ?_⟩
  wtm_at "go"
  exact ⟨t, r, c, w, rs, cs, r1, c1, ls, ms, rfl, ht, hu'.res, hu'.cla, h0, h6, hn1, hn2, k⟩
theorem sc_Talk_with_result : FnScope ["self", "one", "other"] ["self", "one", "other"] (defScope s_Talk_with_result) := ⟨rfl, rfl, rfl, by decide +kernel, rfl, by decide +kernel, by decide +kernel⟩
theorem ok_Talk_with_result (T : Txt K mg a) : FnOk P w K mg base CX0 8 a.f_Talk_with_result a.d_Talk_with_result ["self", "one", "other"] (sp_Talk_with_result a) := by
  refine T.F_Talk_with_result.ok sc_Talk_with_result (fun vs H Q E h => (by repeat (first | (obtain ⟨rfl, _⟩ := h; rfl) | obtain ⟨_, h⟩ := h))) (fun cdv A outer s H vs Q E hr h => ?_)
  have nd := sc_Talk_with_result.nd
  have hu := hr.units
  have hu1 := hu_of hr
  obtain ⟨t, r, c, w, rs, cs, x, y, rfl, ht, h0, h6, hv, hn1, hn2, k⟩ := h
  refine ⟨_, (pss_cons (ps_expr (pe_call (ok_check_player T) (hr.mono (by decide)) (by exact rfl) T.m_check_player T.F_check_player.kp T.b_check_player .nil pass0 (pa_cons (pv 1) (pa_cons (pe_fld (pv 0) rfl) pa_nil))))
      (pss_cons (ps_expr (pe_call (ok_check_player T) (hr.mono (by decide)) (by exact rfl) T.m_check_player T.F_check_player.kp T.b_check_player .nil pass0 (pa_cons (pv 2) (pa_cons (pe_fld (pv 0) rfl) pa_nil))))
      (pss_cons (ps_if (pt_cmpR op_eq (pv 1) (pv 2) (nomark _)) (pss_one ps_never) pss_nil)
      (pss_one (ps_ret (pe_meth (pv 0) T.cl_Talk T.me_Talk__with_more (ok_Talk__with_more T) (hr.mono (by decide)) T.b_Talk__with_more .nil pass0 (pa_cons (pe_lst (pa_cons (pe_tup (pa_cons (pv 1) (pa_cons (pv 2) pa_nil))) pa_nil)) (pa_cons (pe_lst pa_nil) pa_nil)))))))), ?_⟩
  obtain ⟨dx, fs, e1, e2, e3, e4, e5, e6⟩ := id ht.at_
  have hv' := hv
  unfold isRes at hv'
  simp only [Bool.and_eq_true, Bool.not_eq_true', decide_eq_true_eq, decide_eq_false_iff_not] at hv'
  obtain ⟨v0, ⟨v1, v2⟩, v3, v4⟩ := hv'
  wtm_at "go"
  refine ⟨t, _, dx, fs, _, rfl, e1, T.cl_Talk, T.n_Talk__size, e2, ?_⟩
  wtm_at "go"
  refine ⟨x, w, rfl, h0, h6, v1, v2, ?_⟩
  wtm_at "go"
  refine ⟨t, _, dx, fs, _, rfl, e1, T.cl_Talk, T.n_Talk__size, e2, ?_⟩
  wtm_at "go"
  refine ⟨y, w, rfl, h0, h6, v3, v4, ?_⟩
  wtm_at "go"
  refine iteD (fun h => absurd (V.int.inj h) v0) (fun _ => ?_)
  wtm_at "go"
  refine ⟨t, dx, fs, rfl, e1, e6 _ (by decide) (by decide) (by decide), ?_⟩
  wtm_at "go"
  refine ⟨by wtm_at "sz", fun p n_p => ?_⟩
  generalize e_H1 : upd _ p _ = H1
  have s_H1 := same_upd n_p e_H1
  have h_p := upd_at e_H1
  clear e_H1
  wtm_at "go"
  refine ⟨by wtm_at "sz", fun q n_q => ?_⟩
  generalize e_H2 : upd _ q _ = H2
  have s_H2 := same_upd n_q e_H2
  have h_q := upd_at e_H2
  clear e_H2
  wtm_at "go"
  refine ⟨by wtm_at "sz", fun z n_z => ?_⟩
  generalize e_H3 : upd _ z _ = H3
  have s_H3 := same_upd n_z e_H3
  have h_z := upd_at e_H3
  clear e_H3
  wtm_at "go"
  have s := (s_H1.trans s_H2).trans s_H3
  exact ⟨t, r, c, w, rs, cs, q, z, [(x, y)], [], rfl, ht.ext s, ⟨_, s_H3 _ _ h_q, .cons ⟨p, rfl, s_H3 _ _ (s_H2 _ _ h_p)⟩ .nil⟩, ⟨_, h_z, .nil⟩, h0, h6, by show rs.length + 1 ≤ _; omega, by show cs.length + 0 ≤ _; omega, fun H' t' r' c' s' n' T' => k H' t' r' c' (s.trans s') (s.free n') T'⟩
theorem sc_Talk_with_claim : FnScope ["self", "player", "number"] ["self", "player", "number"] (defScope s_Talk_with_claim) := ⟨rfl, rfl, rfl, by decide +kernel, rfl, by decide +kernel, by decide +kernel⟩
theorem ok_Talk_with_claim (T : Txt K mg a) : FnOk P w K mg base CX0 8 a.f_Talk_with_claim a.d_Talk_with_claim ["self", "player", "number"] (sp_Talk_with_claim a) := by
  refine T.F_Talk_with_claim.ok sc_Talk_with_claim (fun vs H Q E h => (by repeat (first | (obtain ⟨rfl, _⟩ := h; rfl) | obtain ⟨_, h⟩ := h))) (fun cdv A outer s H vs Q E hr h => ?_)
  have nd := sc_Talk_with_claim.nd
  have hu := hr.units
  have hu1 := hu_of hr
  obtain ⟨t, r, c, w, rs, cs, x, y, rfl, ht, h0, h6, hv, hn1, hn2, k⟩ := h
  refine ⟨_, (pss_cons (ps_expr (pe_call (ok_check_player T) (hr.mono (by decide)) (by exact rfl) T.m_check_player T.F_check_player.kp T.b_check_player .nil pass0 (pa_cons (pv 1) (pa_cons (pe_fld (pv 0) rfl) pa_nil))))
      (pss_cons (ps_expr (pe_call (ok_check_number T) (hr.mono (by decide)) (by exact rfl) T.m_check_number T.F_check_number.kp T.b_check_number .nil pass0 (pa_cons (pv 2) (pa_cons (pe_fld (pv 0) rfl) pa_nil))))
      (pss_one (ps_ret (pe_meth (pv 0) T.cl_Talk T.me_Talk__with_more (ok_Talk__with_more T) (hr.mono (by decide)) T.b_Talk__with_more .nil pass0 (pa_cons (pe_lst pa_nil) (pa_cons (pe_lst (pa_cons (pe_tup (pa_cons (pv 1) (pa_cons (pv 2) pa_nil))) pa_nil)) pa_nil))))))), ?_⟩
  obtain ⟨dx, fs, e1, e2, e3, e4, e5, e6⟩ := id ht.at_
  have hv' := hv
  unfold isCl at hv'
  simp only [Bool.and_eq_true, decide_eq_true_eq] at hv'
  obtain ⟨⟨v1, v2⟩, v3, v4⟩ := hv'
  wtm_at "go"
  refine ⟨t, _, dx, fs, _, rfl, e1, T.cl_Talk, T.n_Talk__size, e2, ?_⟩
  wtm_at "go"
  refine ⟨x, w, rfl, h0, h6, v1, v2, ?_⟩
  wtm_at "go"
  refine ⟨t, _, dx, fs, _, rfl, e1, T.cl_Talk, T.n_Talk__size, e2, ?_⟩
  wtm_at "go"
  refine ⟨y, w, rfl, v3, v4, ?_⟩
  wtm_at "go"
  refine ⟨t, dx, fs, rfl, e1, e6 _ (by decide) (by decide) (by decide), ?_⟩
  wtm_at "go"
  refine ⟨by wtm_at "sz", fun z n_z => ?_⟩
  generalize e_H1 : upd _ z _ = H1
  have s_H1 := same_upd n_z e_H1
  have h_z := upd_at e_H1
  clear e_H1
  wtm_at "go"
  refine ⟨by wtm_at "sz", fun p n_p => ?_⟩
  generalize e_H2 : upd _ p _ = H2
  have s_H2 := same_upd n_p e_H2
  have h_p := upd_at e_H2
  clear e_H2
  wtm_at "go"
  refine ⟨by wtm_at "sz", fun q n_q => ?_⟩
  generalize e_H3 : upd _ q _ = H3
  have s_H3 := same_upd n_q e_H3
  have h_q := upd_at e_H3
  clear e_H3
  wtm_at "go"
  have s := (s_H1.trans s_H2).trans s_H3
  exact ⟨t, r, c, w, rs, cs, z, q, [], [(x, y)], rfl, ht.ext s, ⟨_, s_H3 _ _ (s_H2 _ _ h_z), .nil⟩, ⟨_, h_q, .cons ⟨p, rfl, s_H3 _ _ h_p⟩ .nil⟩, h0, h6, by show rs.length + 0 ≤ _; omega, by show cs.length + 1 ≤ _; omega, fun H' t' r' c' s' n' T' => k H' t' r' c' (s.trans s') (s.free n') T'⟩
end
end Ct
end
section
set_option Elab.async false
set_option linter.all false
set_option maxRecDepth 100000
set_option maxHeartbeats 16000000
namespace Ct
open PySem PySem.Spec L2 StX

local macro_rules | `(tactic| wtm_at "hp") => `(tactic| first
  | assumption
  | exact (‹Same _ _›) _ _ (by wtm_at "hp")
  | exact (‹But _ _ _›) _ _ (by wtm_at "ne") (by wtm_at "hp"))
local macro_rules | `(tactic| wtm_at "hpL") => `(tactic| first | exact SqL.of (by wtm_at "hp") | assumption)
local macro_rules | `(tactic| wtm_at "hpT") => `(tactic| first | exact SqT.of (by wtm_at "hp") | assumption)
local macro_rules | `(tactic| wtm_at "ne") => `(tactic| first
  | assumption
  | exact Ne.symm (by assumption)
  | exact ne_lst_tup (by wtm_at "hp") (by wtm_at "hp")
  | exact ne_tup_lst (by wtm_at "hp") (by wtm_at "hp")
  | exact ne_of_none (by wtm_at "hp") (by assumption)
  | exact Ne.symm (ne_of_none (by wtm_at "hp") (by assumption)))
local macro_rules | `(tactic| wtm_at "c") => `(tactic| first
  | omega
  | (unfold CMul; omega)
  | (unfold CDiv; omega)
  | (unfold CPow; omega))
local macro_rules | `(tactic| wtm_at "sz") => `(tactic| first
  | exact sz64 rfl
  | exact (by decide)
  | (show _ ≤ sizeLine; rw [sizeLine_eq]; omega)
  | (show _ < sizeLine; rw [sizeLine_eq]; omega))
local macro_rules | `(tactic| wtm_at "go1") => `(tactic| first
  | with_reducible refine r_seq ?_
  | with_reducible refine r_op ?_
  | ((with_reducible refine' r_var ?rv ?_); (case rv => exact rfl))
  | with_reducible refine r_c ?_
  | with_reducible refine r_asg ?_
  | with_reducible refine r_name ?_
  | with_reducible refine r_i0 ?_
  | ((with_reducible refine' r_i ?rc ?_); (case rc => wtm_at "c"))
  | ((with_reducible refine' r_ixL ?r1 ?r2 ?_); (case r1 => wtm_at "hpL"); (case r2 => first | exact rfl | assumption))
  | ((with_reducible refine' r_ixT ?r1 ?r2 ?_); (case r1 => wtm_at "hpT"); (case r2 => first | exact rfl | assumption))
  | with_reducible refine r_consA ?_
  | with_reducible refine r_nilA ?_
  | with_reducible refine r_call ?_
  | with_reducible refine r_cb ?_
  | with_reducible refine r_test ?_
  | with_reducible refine r_exb ?_
  | ((with_reducible refine r_eq ?rq ?_); (case rq => exact rfl))
  | ((with_reducible refine r_ne ?rq ?_); (case rq => exact rfl))
  | with_reducible refine r_ret ?_
  | with_reducible refine r_if ?_
  | with_reducible refine r_next ?_
  | with_reducible refine r_drop ?_
  | with_reducible refine r_gsub ?_
  | ((with_reducible refine' r_setL ?r1 ?r2 ?_); (case r1 => wtm_at "hp"); (case r2 => exact rfl))
  | with_reducible refine r_b ?_
  | with_reducible refine r_and ?_
  | with_reducible refine r_or ?_
  | with_reducible refine r_not ?_
  | with_reducible refine r_andV ?_
  | with_reducible refine r_orV ?_
  | with_reducible refine r_notV ?_
  | with_reducible refine r_ifE ?_
  | with_reducible refine r_chain ?_
  | with_reducible refine r_u ?_
  | with_reducible refine r_un ?_
  | with_reducible refine r_fld ?_
  | with_reducible refine r_fldS ?_
  | with_reducible refine r_lst ?_
  | with_reducible refine r_tup ?_
  | with_reducible refine r_par ?_
  | with_reducible refine r_par3 ?_
  | with_reducible refine r_retN ?_
  | with_reducible refine r_gcons ?_
  | with_reducible refine r_gnil ?_
  | ((with_reducible refine' r_gtup ?r1 ?r2 ?_); (case r1 => wtm_at "hpT"); (case r2 => exact rfl))
  | with_reducible refine r_bm ?_
  | with_reducible refine r_bm0 ?_
  | with_reducible refine r_lcL ?_
  | with_reducible refine r_foL ?_
  | with_reducible refine r_foR ?_
  | with_reducible refine r_yes ?_
  | ((with_reducible refine' r_wipe ?rw ?_); (case rw => exact rfl))
  | ((with_reducible refine' r_tyL ?r1 ?_); (case r1 => wtm_at "hpL"))
  | ((with_reducible refine' r_append ?r1 ?r2 ?_); (case r1 => wtm_at "hp"); (case r2 => wtm_at "sz"))
  | with_reducible refine r_dput ?_
  | with_reducible refine r_dget ?_
  | with_reducible refine r_dget2 ?_
  | with_reducible refine r_dnew ?_
  | with_reducible refine iteT ?_
  | with_reducible refine iteF ?_
  | with_reducible refine iteNT ?_
  | with_reducible refine iteNF ?_)
local macro_rules | `(tactic| wtm_at "go") => `(tactic| repeat wtm_at "go1")


local macro_rules | `(tactic| wtm_at "go1") => `(tactic| first
  | with_reducible refine e_int1 ?_
  | with_reducible refine e_int2 ?_
  | with_reducible refine e_two ?_
  | ((with_reducible refine' e_lenL ?r1 ?_); (case r1 => wtm_at "hpL"))
  | ((with_reducible refine' e_lenT ?r1 ?_); (case r1 => wtm_at "hpT")))


local macro_rules | `(tactic| wtm_at "go1") => `(tactic| first
  | with_reducible refine r_make ?_
  | with_reducible refine r_makeK ?_
  | with_reducible refine r_prop ?_
  | with_reducible refine r_revL ?_
  | with_reducible refine r_star ?_
  | with_reducible refine r_meth ?_
  | with_reducible refine r_methK ?_
  | ((with_reducible refine' r_clear ?r1 ?_); (case r1 => wtm_at "hp")))

def sp_law_are (a : Ad) : Sp := fun vs H Q _ => ∃ (t r c : Addr) (w : Int) (rs cs : List P2) (dd r0 c0 : Addr), vs = [.ref t, .int w, .ref dd] ∧ TalkR a.C_Talk H t r c w rs cs ∧ H dd = some (.lst [.ref r0, .ref c0]) ∧ PL H r0 rs ∧ PL H c0 cs ∧
  rs.length ≤ 1000 ∧ cs.length ≤ 1000 ∧ (∀ p ∈ rs, Sm p) ∧ (∀ p ∈ cs, Sm p) ∧ ∀ H', Same H H' → Q (.bl true) H'
def sp_law_more_right : Sp := fun vs H Q _ => ∃ (f l m : Addr) (w : Int) (rs cs : List P2), vs = [.ref f, .int w, .ref l, .ref m] ∧ FeedAt H f ∧ 0 ≤ w ∧ w ≤ 6 ∧ PL H l rs ∧ PL H m cs ∧ rs.length ≤ 200 ∧ cs.length ≤ 200 ∧
  (∀ p ∈ rs, isRes w p = true) ∧ (∀ p ∈ cs, isCl w p = true) ∧ ∀ (H' : Hp), But f H H' → FeedAt H' f → Q (.bl true) H'
section
variable {P : Program} {w : World} {K : PySem.W.Frag} {mg : Str → Option Value} {base : Heap} {a : Ad}
theorem sc_law_are : FnScope ["talk_here", "wide", "due"] ["talk_here", "wide", "due"] (defScope s_law_are) := ⟨rfl, rfl, rfl, by decide +kernel, rfl, by decide +kernel, by decide +kernel⟩
theorem ok_law_are (T : Txt K mg a) : FnG P w K mg base 3 a.f_law_are a.d_law_are ["talk_here", "wide", "due"] (sp_law_are a) := by
  refine okG T.F_law_are sc_law_are (fun vs H Q E h => (by repeat (first | (obtain ⟨rfl, _⟩ := h; rfl) | obtain ⟨_, h⟩ := h))) (fun cdv A outer s H vs Q E hgd hr h => ?_)
  have nd := sc_law_are.nd
  have hu := hr.units
  have hu1 := hu_of hr
  obtain ⟨t, r, c, w, rs, cs, dd, r0, c0, rfl, ht, hd, hr0, hc0, hn1, hn2, q1, q2, k⟩ := h
  refine ⟨_, (pss_cons (ps_if (PW.pt (pw_or (pt_not (pt_val (pe_callB call_isi (by exact rfl) T.z_isinstance (by decide +kernel) (pa_cons (pv 0) (pa_cons (pe_glob (v := .ref a.C_Talk) (by exact rfl) T.mC_Talk rfl) pa_nil))))) (pw_or (pt_cmpR op_ne (pe_prop (pv 0) T.cl_Talk T.pr_Talk_size (ok_Talk_size T) (hr.mono (by decide)) T.b_Talk_size .nil pass0 rfl) (pv 1) (nomark _)) (pw_or1 (pt_cmpR op_ne (pe_callB (call_lenO (ok_Talk___len__ T) T.me_Talk___len__ T.b_Talk___len__ (hr.mono (by decide))) (by exact rfl) T.z_len (by decide +kernel) (pa_cons (pv 0) pa_nil)) (pe_op op_add (pe_callB call_len_seq (by exact rfl) T.z_len (by decide +kernel) (pa_cons (pe_ix ix_list (pv 2) pe_int (fun _ _ => rfl)) pa_nil)) (pe_callB call_len_seq (by exact rfl) T.z_len (by decide +kernel) (pa_cons (pe_ix ix_list (pv 2) pe_int (fun _ _ => rfl)) pa_nil))) (nomark _)))))) (pss_one (ps_ret pe_bl)) pss_nil)
      (pss_one (ps_ret (pe_cmpR op_eq (pe_callB (cr_repr hgd hu) (by exact rfl) T.z_repr (by decide +kernel) (pa_cons (pe_lst (pa_cons (pe_prop (pv 0) T.cl_Talk T.pr_Talk_results (ok_Talk_results T) (hr.mono (by decide)) T.b_Talk_results .nil pass0 rfl) (pa_cons (pe_prop (pv 0) T.cl_Talk T.pr_Talk_claims (ok_Talk_claims T) (hr.mono (by decide)) T.b_Talk_claims .nil pass0 rfl) pa_nil))) pa_nil)) (pe_callB (cr_repr hgd hu) (by exact rfl) T.z_repr (by decide +kernel) (pa_cons (pv 2) pa_nil)) (nomark _))))), ?_⟩
  have S := two_shows q1 q2 hn1 hn2
  obtain ⟨dx, fs, e1, e2, e3, e4, e5, e6⟩ := id ht.at_
  wtm_at "go"
  refine ⟨_, _, _, _, _, rfl, .own _, T.is_Talk.ty T.cl_Talk e1, Isi.kit _, ?_⟩
  wtm_at "go"
  refine ⟨t, dx, fs, rfl, e1, t, r, c, w, _, _, rfl, ht, ?_⟩
  wtm_at "go"
  refine iteND (fun h => absurd rfl h) (fun _ => ?_)
  wtm_at "go"
  refine ⟨t, dx, fs, rfl, e1, t, r, c, w, _, _, rfl, ht, by omega, fun H1 s1 => ⟨_, rfl, by omega, by omega, ?_⟩⟩
  have hd1 := s1 _ _ hd
  obtain ⟨xr, hxr, pxr⟩ := hr0.ext s1
  obtain ⟨xc, hxc, pxc⟩ := hc0.ext s1
  have nxr := pxr.length
  have nxc := pxc.length
  have elen : V.int ↑(rs.length + cs.length) = V.int (↑xr.length + ↑xc.length) := by rw [nxr, nxc]; rfl
  wtm_at "go"
  refine iteND (fun h => absurd elen h) (fun _ => ?_)
  wtm_at "go"
  refine ⟨t, dx, fs, rfl, s1 _ _ e1, t, r, c, w, _, _, rfl, ht.ext s1, fun H2 x s2 nx hx => ?_⟩
  wtm_at "go"
  refine ⟨t, dx, fs, rfl, s2 _ _ (s1 _ _ e1), t, r, c, w, _, _, rfl, (ht.ext s1).ext s2, fun H3 y s3 ny hy => ?_⟩
  wtm_at "go"
  refine ⟨by wtm_at "sz", fun tl n_tl => ?_⟩
  generalize e_H4 : upd _ tl _ = H4
  have s_H4 := same_upd n_tl e_H4
  have h_tl := upd_at e_H4
  clear e_H4
  wtm_at "go"
  have s := ((s1.trans s2).trans s3).trans s_H4
  refine ⟨_, _, rfl, two_dp h_tl (hx.ext (s3.trans s_H4)) (hy.ext s_H4), S.1, S.2.1, S.2.2.1, S.2.2.2, ?_⟩
  wtm_at "go"
  refine ⟨_, _, rfl, two_dp (s _ _ hd) (hr0.ext s) (hc0.ext s), S.1, S.2.1, S.2.2.1, S.2.2.2, ?_⟩
  wtm_at "go"
  rw [decide_eq_true rfl]
  exact k H4 s
theorem sc_law_more_right : FnScope ["feed", "wide", "found", "said", "talk_here", "many", "turn", "kept", "due", "pair_here", "claim_here"] ["feed", "wide", "found", "said"] (defScope s_law_more_right) := ⟨rfl, rfl, rfl, by decide +kernel, rfl, by decide +kernel, by decide +kernel⟩
theorem ok_law_more_right (T : Txt K mg a) : FnG P w K mg base 9 a.f_law_more_right a.d_law_more_right ["feed", "wide", "found", "said"] (sp_law_more_right) := by
  refine okG T.F_law_more_right sc_law_more_right (fun vs H Q E h => (by repeat (first | (obtain ⟨rfl, _⟩ := h; rfl) | obtain ⟨_, h⟩ := h))) (fun cdv A outer s H vs Q E hgd hr h => ?_)
  have nd := sc_law_more_right.nd
  have hu := hr.units
  have hu1 := hu_of hr
  obtain ⟨f, l, m, w, rs, cs, rfl, hf, h0, h6, hl, hm, hn1, hn2, v1, v2, k⟩ := h
  refine ⟨_, (pss_cons (ps_par (i := 4) (j := 5) (by exact rfl) nd rfl rfl (by decide) rfl rfl (pa_cons (pe_make T.M_Talk (ok_Talk___init__ T) (hr.mono (by decide)) (by exact rfl) T.mC_Talk T.b_Talk___init__ .nil pass0 (pa_cons (pv 1) (pa_cons (pv 2) (pa_cons (pv 3) pa_nil)))) (pa_cons (pe_call (ok_law_players T) (hr.mono (by decide)) (by exact rfl) T.m_law_players T.F_law_players.kp T.b_law_players .nil pass0 (pa_cons (pv 1) pa_nil)) pa_nil)) (by exact rfl))
      (pss_cons (ps_for PassesOwn.never rfl (pi_range1 (by exact rfl) T.z_range (pa_cons pe_int pa_nil)) (pg_name (i := 6) nd rfl (Or.inl rfl))
      (pss_cons (ps_par (i := 7) (j := 8) (by exact rfl) nd rfl rfl (by decide) rfl rfl (pa_cons (pv 4) (pa_cons (pe_call (ok_law_plain T) (hr.mono (by decide)) (by exact rfl) T.m_law_plain T.F_law_plain.kp T.b_law_plain .nil pass0 (pa_cons (pv 2) (pa_cons (pv 3) pa_nil))) pa_nil)) (by exact rfl))
      (pss_cons (ps_if (PW.pt (pw_and (pt_cmpR op_gt (pv 5) pe_int (nomark _)) (pw_and1 (pt_cmpR op_eq (pe_op op_mod (pv 6) pe_int) pe_int (nomark _))))) (pss_cons (ps_set (i := 9) nd rfl (Or.inl rfl) (pe_call (ok_law_pair T) (hr.mono (by decide)) (by exact rfl) T.m_law_pair T.F_law_pair.kp T.b_law_pair .nil pass0 (pa_cons (pv 0) (pa_cons (pv 5) pa_nil))))
      (pss_cons (ps_set (i := 2) nd rfl (Or.inl rfl) (pe_op op_cat (pv 2) (pe_lst (pa_cons (pv 9) pa_nil))))
      (pss_cons (ps_set (i := 4) nd rfl (Or.inl rfl) (pe_meth (pv 7) T.cl_Talk T.me_Talk_with_result (ok_Talk_with_result T) (hr.mono (by decide)) T.b_Talk_with_result .nil pass0 (pa_cons (pe_ix ix_tup (pv 9) pe_int (fun _ _ => rfl)) (pa_cons (pe_ix ix_tup (pv 9) pe_int (fun _ _ => rfl)) pa_nil))))
      (pss_one (ps_if (pt_cmpR op_eq (pv 6) pe_int (nomark _)) (pss_one (ps_set (i := 4) nd rfl (Or.inl rfl) (pe_methK0 (pv 7) T.cl_Talk T.me_Talk_with_result (ok_Talk_with_result T) (hr.mono (by decide)) T.kb_Talk_with_result_other_one pass0 (pk_cons (pe_ix ix_tup (pv 9) pe_int (fun _ _ => rfl)) (pk_cons (pe_ix ix_tup (pv 9) pe_int (fun _ _ => rfl)) pk_nil))))) pss_nil))))) (pss_cons (ps_set (i := 10) nd rfl (Or.inl rfl) (pe_tup (pa_cons (pe_call (ok_law_pick T) (hr.mono (by decide)) (by exact rfl) T.m_law_pick T.F_law_pick.kp T.b_law_pick .nil pass0 (pa_cons (pv 0) (pa_cons (pv 5) pa_nil))) (pa_cons (pe_call (ok_law_pick T) (hr.mono (by decide)) (by exact rfl) T.m_law_pick T.F_law_pick.kp T.b_law_pick .nil pass0 (pa_cons (pv 0) (pa_cons (pe_op op_add (pv 1) pe_int) pa_nil))) pa_nil))))
      (pss_cons (ps_set (i := 3) nd rfl (Or.inl rfl) (pe_op op_cat (pv 3) (pe_lst (pa_cons (pv 10) pa_nil))))
      (pss_cons (ps_set (i := 4) nd rfl (Or.inl rfl) (pe_meth (pv 7) T.cl_Talk T.me_Talk_with_claim (ok_Talk_with_claim T) (hr.mono (by decide)) T.b_Talk_with_claim .nil pass0 (pa_cons (pe_ix ix_tup (pv 10) pe_int (fun _ _ => rfl)) (pa_cons (pe_ix ix_tup (pv 10) pe_int (fun _ _ => rfl)) pa_nil))))
      (pss_one (ps_if (pt_cmpR op_eq (pv 6) pe_int (nomark _)) (pss_one (ps_set (i := 4) nd rfl (Or.inl rfl) (pe_methK0 (pv 7) T.cl_Talk T.me_Talk_with_claim (ok_Talk_with_claim T) (hr.mono (by decide)) T.kb_Talk_with_claim_number_player pass0 (pk_cons (pe_ix ix_tup (pv 10) pe_int (fun _ _ => rfl)) (pk_cons (pe_ix ix_tup (pv 10) pe_int (fun _ _ => rfl)) pk_nil))))) pss_nil))))))
      (pss_one (ps_if (PW.pt (pw_or (pt_not (pt_val (pe_callG (ok_law_are T) hgd (hr.mono (by decide)) (by exact rfl) T.m_law_are T.F_law_are.kp T.b_law_are (pa_cons (pv 7) (pa_cons (pv 1) (pa_cons (pv 8) pa_nil)))))) (pw_or1 (pt_not (pt_val (pe_callG (ok_law_are T) hgd (hr.mono (by decide)) (by exact rfl) T.m_law_are T.F_law_are.kp T.b_law_are (pa_cons (pv 4) (pa_cons (pv 1) (pa_cons (pe_call (ok_law_plain T) (hr.mono (by decide)) (by exact rfl) T.m_law_plain T.F_law_plain.kp T.b_law_plain .nil pass0 (pa_cons (pv 2) (pa_cons (pv 3) pa_nil))) pa_nil))))))))) (pss_one (ps_ret pe_bl)) pss_nil)))))
      (pss_one (ps_ret pe_bl)))), ?_⟩
  wtm_at "go"
  refine fun t dx nt nd _ => ?_
  have up := made_up (o := .own t) (o' := .ins a.C_Talk dx []) nt nd
  refine ⟨t, dx, l, m, w, rs, cs, rfl, upd_same, hl.ext up, hm.ext up, hn1, hn2, h0, h6, v1, v2, fun H1 r c b nr nc T1 => ⟨rfl, ?_⟩⟩
  have s1 := made_same nt nd b
  wtm_at "go"
  refine ⟨w, rfl, h0, h6, fun H2 s2 => ?_⟩
  wtm_at "go"
  have hMb := pow_bnd h0 h6
  generalize hM : (2 : Int) ^ w.toNat = M at hMb ⊢
  obtain ⟨M0, M64⟩ := hMb
  refine foR ⟨by decide, by decide⟩ (fun i σ G => ∃ (u6 u7 u8 u9 ua : Option V) (l m t r c : Addr) (rs cs : List P2), σ = [some (.ref f), some (.int w), some (.ref l), some (.ref m), some (.ref t), some (.int M), u6, u7, u8, u9, ua] ∧ But f H G ∧ FeedAt G f ∧ PL G l rs ∧ PL G m cs ∧ TalkR a.C_Talk G t r c w (pset rs) (gcl cs) ∧
    rs.length ≤ 200 + i ∧ cs.length ≤ 200 + i ∧ (∀ p ∈ rs, isRes w p = true) ∧ (∀ p ∈ cs, isCl w p = true)) ?_ (fun i σ G hi ⟨u6, u7, u8, u9, ua, l, m, t, r, c, rs, cs, e, b, fd, pl, pm, Tt, hn1, hn2, v1, v2⟩ => ?_) (fun σ G ⟨u6, u7, u8, u9, ua, l, m, t, r, c, rs, cs, e, b, fd, _⟩ => ?_)
  · have s12 := s1.trans s2
    exact ⟨_, _, _, _, _, l, m, t, r, c, rs, cs, rfl, Same.but s12, hf.ext s12, hl.ext s12, hm.ext s12, T1.ext s2, hn1, hn2, v1, v2⟩
  · subst e
    wtm_at "go"
    have hi8 : i < 8 := hi
    refine ⟨l, m, rs, cs, rfl, pl, pm, by omega, by omega, fun G1 dd r0 c0 s1' ndd hdd hr0 hc0 => ?_⟩
    have fd1 := fd.ext s1'
    have pl1 := pl.ext s1'
    have pm1 := pm.ext s1'
    have Tt1 := Tt.ext s1'
    have b1 := But.trans b (Same.but s1')
    have qr : ∀ x ∈ rs, Sm x := fun x hx => sm_of_isRes h0 h6 (v1 x hx)
    have qc : ∀ x ∈ cs, Sm x := fun x hx => sm_of_isCl h0 h6 (v2 x hx)
    have hps := pset_len rs
    have hgs := gcl_len cs
    wtm_at "go"
    refine iteD (fun hM1 => ?_) (fun hM1 => ?_)
    · wtm_at "go"
      refine iteD (fun hpar => ?_) (fun hpar => ?_)
      · wtm_at "go"
        refine ⟨f, M, rfl, fd1, by omega, by omega, fun G2 p pq b2 nt2 f2 hp p0 p1 p2 p3 p4 => ?_⟩
        obtain ⟨p', ep, hpt⟩ := hp
        cases ep
        have pl2 := fd1.pl b2 pl1
        have pm2 := fd1.pl b2 pm1
        have T2 := fd1.talk b2 Tt1
        have hd2 := b2 _ _ (fd1.ne2 hdd) hdd
        have hr2 := fd1.pl b2 hr0
        have hc2 := fd1.pl b2 hc0
        obtain ⟨fx, hfx, pfx⟩ := pl2
        have nfx := pfx.length
        wtm_at "go"
        refine ⟨by wtm_at "sz", fun q n_q => ?_⟩
        generalize e_G3 : upd _ q _ = G3
        have s_G3 := same_upd n_q e_G3
        have h_q := upd_at e_G3
        clear e_G3
        refine ⟨l, q, fx, [.ref p], rfl, rfl, s_G3 _ _ hfx, h_q, by have := line_big; show fx.length + 1 ≤ _; omega, fun l2 nl2 => ?_⟩
        generalize e_G4 : upd _ l2 _ = G4
        have s_G4 := same_upd nl2 e_G4
        have h_l2 := upd_at e_G4
        clear e_G4
        have s24 := s_G3.trans s_G4
        have hpt4 := s24 _ _ hpt
        have pl4 : PL G4 l2 (rs ++ [pq]) := ⟨_, h_l2, Prs.app (pfx.ext s24) (.cons ⟨p, rfl, hpt4⟩ .nil)⟩
        have pm4 := pm2.ext s24
        have T4 := T2.ext s24
        obtain ⟨dx, fs, e1, _, _, _, _, e6⟩ := id T4.at_
        have hv : isRes w (pq.1, pq.2) = true := isRes_of hM p0 p1 p2 p3 p4
        have er : pset (pset rs ++ [(pq.1, pq.2)]) = pset (rs ++ [pq]) := pset_app (fun _ => mem_pset) (fun _ => Iff.rfl)
        have ec : gcl (gcl cs ++ []) = gcl cs := by rw [List.append_nil]; exact gcl_of_mx (mx_gcl cs)
        have nrs : (rs ++ [pq]).length = rs.length + 1 := List.length_append
        have v1' : ∀ x ∈ rs ++ [pq], isRes w x = true := fun x hx => by
          rcases List.mem_append.mp hx with z | z
          · exact v1 x z
          · rw [List.mem_singleton.mp z]; exact hv
        have v2' := v2
        have qr' : ∀ x ∈ rs ++ [pq], Sm x := fun x hx => sm_of_isRes h0 h6 (v1' x hx)
        have qc' := qc
        wtm_at "go"
        refine ⟨t, dx, fs, rfl, e1, e6 _ (by decide) (by decide) (by decide), ?_⟩
        wtm_at "go"
        refine ⟨t, r, c, w, _, _, pq.1, pq.2, rfl, T4, h0, h6, hv, by omega, by omega, fun G5 tt rr cc s5 nt5 TN => ?_⟩
        rw [er, ec] at TN
        have Tk := T4.ext s5
        have e15 := s5 _ _ e1
        have hpt5 := s5 _ _ hpt4
        have s25 := s24.trans s5
        have hdk := s25 _ _ hd2
        have hrk := hr2.ext s25
        have hck := hc2.ext s25
        have plk := pl4.ext s5
        have pmk := pm4.ext s5
        have fk := f2.ext s25
        have bk := But.trans b1 (But.trans b2 (Same.but s25))
        wtm_at "go"
        refine iteD (fun hi2 => ?_) (fun hi2 => ?_)
        · wtm_at "go"
          refine ⟨t, dx, fs, rfl, e15, e6 _ (by decide) (by decide) (by decide), ?_⟩
          wtm_at "go"
          refine ⟨rfl, t, r, c, w, _, _, pq.1, pq.2, rfl, Tk, h0, h6, hv, by omega, by omega, fun G6 tt rr cc s6 nt6 TN => ?_⟩
          rw [er, ec] at TN
          replace Tk := Tk.ext s6
          replace hdk := s6 _ _ hdk
          replace hrk := hrk.ext s6
          replace hck := hck.ext s6
          replace plk := plk.ext s6
          replace pmk := pmk.ext s6
          replace fk := fk.ext s6
          replace bk := But.trans bk (Same.but s6)
          wtm_at "go"
          refine ⟨t, r, c, w, _, _, dd, r0, c0, rfl, Tk, hdk, hrk, hck, by omega, by omega, sm_pset qr, sm_gcl qc, fun Ga sa => ?_⟩
          wtm_at "go"
          refine ⟨l2, m, (rs ++ [pq]), cs, rfl, plk.ext sa, pmk.ext sa, by omega, by omega, fun Gb d2 r2 c2 sb nd2 hd2 hr2 hc2 => ?_⟩
          wtm_at "go"
          refine ⟨tt, rr, cc, w, _, _, d2, r2, c2, rfl, (TN.ext sa).ext sb, hd2, hr2, hc2, by have := pset_len ((rs ++ [pq])); omega, by have := gcl_len (cs); omega, sm_pset qr', sm_gcl qc', fun Gc sc => ?_⟩
          wtm_at "go"
          have sz := (sa.trans sb).trans sc
          exact ⟨_, _, _, _, _, l2, m, tt, rr, cc, (rs ++ [pq]), cs, rfl, But.trans bk (Same.but sz), fk.ext sz, plk.ext sz, pmk.ext sz, TN.ext sz, by omega, by omega, v1', v2'⟩
        · wtm_at "go"
          refine ⟨t, r, c, w, _, _, dd, r0, c0, rfl, Tk, hdk, hrk, hck, by omega, by omega, sm_pset qr, sm_gcl qc, fun Ga sa => ?_⟩
          wtm_at "go"
          refine ⟨l2, m, (rs ++ [pq]), cs, rfl, plk.ext sa, pmk.ext sa, by omega, by omega, fun Gb d2 r2 c2 sb nd2 hd2 hr2 hc2 => ?_⟩
          wtm_at "go"
          refine ⟨tt, rr, cc, w, _, _, d2, r2, c2, rfl, (TN.ext sa).ext sb, hd2, hr2, hc2, by have := pset_len ((rs ++ [pq])); omega, by have := gcl_len (cs); omega, sm_pset qr', sm_gcl qc', fun Gc sc => ?_⟩
          wtm_at "go"
          have sz := (sa.trans sb).trans sc
          exact ⟨_, _, _, _, _, l2, m, tt, rr, cc, (rs ++ [pq]), cs, rfl, But.trans bk (Same.but sz), fk.ext sz, plk.ext sz, pmk.ext sz, TN.ext sz, by omega, by omega, v1', v2'⟩
      · wtm_at "go"
        refine ⟨f, M, rfl, fd1, by omega, by omega, fun Gx x x0 xM bx fx' => ?_⟩
        wtm_at "go"
        refine ⟨f, _, rfl, fx', by omega, by omega, fun G2 y y0 yw by' f2 => ?_⟩
        have b2 := But.trans bx by'
        have pl2 := fd1.pl b2 pl1
        have pm2 := fd1.pl b2 pm1
        have T2 := fd1.talk b2 Tt1
        have hd2 := b2 _ _ (fd1.ne2 hdd) hdd
        have hr2 := fd1.pl b2 hr0
        have hc2 := fd1.pl b2 hc0
        obtain ⟨fx, hfx, pfx⟩ := pm2
        have nfx := pfx.length
        wtm_at "go"
        refine ⟨by wtm_at "sz", fun p n_p => ?_⟩
        generalize e_Gp : upd _ p _ = Gp
        have s_Gp := same_upd n_p e_Gp
        have h_p := upd_at e_Gp
        clear e_Gp
        wtm_at "go"
        refine ⟨by wtm_at "sz", fun q n_q => ?_⟩
        generalize e_G3 : upd _ q _ = G3
        have s_G3 := same_upd n_q e_G3
        have h_q := upd_at e_G3
        clear e_G3
        have hfx3 := s_G3 _ _ (s_Gp _ _ hfx)
        refine ⟨m, q, fx, [.ref p], rfl, rfl, hfx3, h_q, by have := line_big; show fx.length + 1 ≤ _; omega, fun l2 nl2 => ?_⟩
        generalize e_G4 : upd _ l2 _ = G4
        have s_G4 := same_upd nl2 e_G4
        have h_l2 := upd_at e_G4
        clear e_G4
        have s34 := s_G3.trans s_G4
        have s24 := s_Gp.trans s34
        have hpt4 := s34 _ _ h_p
        have pm4 : PL G4 l2 (cs ++ [(x, y)]) := ⟨_, h_l2, Prs.app (pfx.ext s24) (.cons ⟨p, rfl, hpt4⟩ .nil)⟩
        have pl4 := pl2.ext s24
        have T4 := T2.ext s24
        obtain ⟨dx, fs, e1, _, _, _, _, e6⟩ := id T4.at_
        have hv : isCl w (x, y) = true := isCl_of hM x0 xM y0 (by omega)
        have er : pset (pset rs ++ []) = pset rs := by rw [List.append_nil]; exact pset_congr fun _ => mem_pset
        have ec : gcl (gcl cs ++ [(x, y)]) = gcl (cs ++ [(x, y)]) := gcl_app (says_gcl cs) (Says.refl _)
        have ncs : (cs ++ [(x, y)]).length = cs.length + 1 := List.length_append
        have v2' : ∀ z ∈ cs ++ [(x, y)], isCl w z = true := fun z hz => by
          rcases List.mem_append.mp hz with u | u
          · exact v2 z u
          · rw [List.mem_singleton.mp u]; exact hv
        have v1' := v1
        have qc' : ∀ z ∈ cs ++ [(x, y)], Sm z := fun z hz => sm_of_isCl h0 h6 (v2' z hz)
        have qr' := qr
        wtm_at "go"
        refine ⟨t, dx, fs, rfl, e1, e6 _ (by decide) (by decide) (by decide), ?_⟩
        wtm_at "go"
        refine ⟨t, r, c, w, _, _, x, y, rfl, T4, h0, h6, hv, by omega, by omega, fun G5 tt rr cc s5 nt5 TN => ?_⟩
        rw [er, ec] at TN
        have Tk := T4.ext s5
        have e15 := s5 _ _ e1
        have hpt5 := s5 _ _ hpt4
        have s25 := s24.trans s5
        have hdk := s25 _ _ hd2
        have hrk := hr2.ext s25
        have hck := hc2.ext s25
        have plk := pl4.ext s5
        have pmk := pm4.ext s5
        have fk := f2.ext s25
        have bk := But.trans b1 (But.trans b2 (Same.but s25))
        wtm_at "go"
        refine iteD (fun hi2 => ?_) (fun hi2 => ?_)
        · wtm_at "go"
          refine ⟨t, dx, fs, rfl, e15, e6 _ (by decide) (by decide) (by decide), ?_⟩
          wtm_at "go"
          refine ⟨rfl, t, r, c, w, _, _, x, y, rfl, Tk, h0, h6, hv, by omega, by omega, fun G6 tt rr cc s6 nt6 TN => ?_⟩
          rw [er, ec] at TN
          replace Tk := Tk.ext s6
          replace hdk := s6 _ _ hdk
          replace hrk := hrk.ext s6
          replace hck := hck.ext s6
          replace plk := plk.ext s6
          replace pmk := pmk.ext s6
          replace fk := fk.ext s6
          replace bk := But.trans bk (Same.but s6)
          wtm_at "go"
          refine ⟨t, r, c, w, _, _, dd, r0, c0, rfl, Tk, hdk, hrk, hck, by omega, by omega, sm_pset qr, sm_gcl qc, fun Ga sa => ?_⟩
          wtm_at "go"
          refine ⟨l, l2, rs, (cs ++ [(x, y)]), rfl, plk.ext sa, pmk.ext sa, by omega, by omega, fun Gb d2 r2 c2 sb nd2 hd2 hr2 hc2 => ?_⟩
          wtm_at "go"
          refine ⟨tt, rr, cc, w, _, _, d2, r2, c2, rfl, (TN.ext sa).ext sb, hd2, hr2, hc2, by have := pset_len (rs); omega, by have := gcl_len ((cs ++ [(x, y)])); omega, sm_pset qr', sm_gcl qc', fun Gc sc => ?_⟩
          wtm_at "go"
          have sz := (sa.trans sb).trans sc
          exact ⟨_, _, _, _, _, l, l2, tt, rr, cc, rs, (cs ++ [(x, y)]), rfl, But.trans bk (Same.but sz), fk.ext sz, plk.ext sz, pmk.ext sz, TN.ext sz, by omega, by omega, v1', v2'⟩
        · wtm_at "go"
          refine ⟨t, r, c, w, _, _, dd, r0, c0, rfl, Tk, hdk, hrk, hck, by omega, by omega, sm_pset qr, sm_gcl qc, fun Ga sa => ?_⟩
          wtm_at "go"
          refine ⟨l, l2, rs, (cs ++ [(x, y)]), rfl, plk.ext sa, pmk.ext sa, by omega, by omega, fun Gb d2 r2 c2 sb nd2 hd2 hr2 hc2 => ?_⟩
          wtm_at "go"
          refine ⟨tt, rr, cc, w, _, _, d2, r2, c2, rfl, (TN.ext sa).ext sb, hd2, hr2, hc2, by have := pset_len (rs); omega, by have := gcl_len ((cs ++ [(x, y)])); omega, sm_pset qr', sm_gcl qc', fun Gc sc => ?_⟩
          wtm_at "go"
          have sz := (sa.trans sb).trans sc
          exact ⟨_, _, _, _, _, l, l2, tt, rr, cc, rs, (cs ++ [(x, y)]), rfl, But.trans bk (Same.but sz), fk.ext sz, plk.ext sz, pmk.ext sz, TN.ext sz, by omega, by omega, v1', v2'⟩
    · wtm_at "go"
      refine ⟨f, M, rfl, fd1, by omega, by omega, fun Gx x x0 xM bx fx' => ?_⟩
      wtm_at "go"
      refine ⟨f, _, rfl, fx', by omega, by omega, fun G2 y y0 yw by' f2 => ?_⟩
      have b2 := But.trans bx by'
      have pl2 := fd1.pl b2 pl1
      have pm2 := fd1.pl b2 pm1
      have T2 := fd1.talk b2 Tt1
      have hd2 := b2 _ _ (fd1.ne2 hdd) hdd
      have hr2 := fd1.pl b2 hr0
      have hc2 := fd1.pl b2 hc0
      obtain ⟨fx, hfx, pfx⟩ := pm2
      have nfx := pfx.length
      wtm_at "go"
      refine ⟨by wtm_at "sz", fun p n_p => ?_⟩
      generalize e_Gp : upd _ p _ = Gp
      have s_Gp := same_upd n_p e_Gp
      have h_p := upd_at e_Gp
      clear e_Gp
      wtm_at "go"
      refine ⟨by wtm_at "sz", fun q n_q => ?_⟩
      generalize e_G3 : upd _ q _ = G3
      have s_G3 := same_upd n_q e_G3
      have h_q := upd_at e_G3
      clear e_G3
      have hfx3 := s_G3 _ _ (s_Gp _ _ hfx)
      refine ⟨m, q, fx, [.ref p], rfl, rfl, hfx3, h_q, by have := line_big; show fx.length + 1 ≤ _; omega, fun l2 nl2 => ?_⟩
      generalize e_G4 : upd _ l2 _ = G4
      have s_G4 := same_upd nl2 e_G4
      have h_l2 := upd_at e_G4
      clear e_G4
      have s34 := s_G3.trans s_G4
      have s24 := s_Gp.trans s34
      have hpt4 := s34 _ _ h_p
      have pm4 : PL G4 l2 (cs ++ [(x, y)]) := ⟨_, h_l2, Prs.app (pfx.ext s24) (.cons ⟨p, rfl, hpt4⟩ .nil)⟩
      have pl4 := pl2.ext s24
      have T4 := T2.ext s24
      obtain ⟨dx, fs, e1, _, _, _, _, e6⟩ := id T4.at_
      have hv : isCl w (x, y) = true := isCl_of hM x0 xM y0 (by omega)
      have er : pset (pset rs ++ []) = pset rs := by rw [List.append_nil]; exact pset_congr fun _ => mem_pset
      have ec : gcl (gcl cs ++ [(x, y)]) = gcl (cs ++ [(x, y)]) := gcl_app (says_gcl cs) (Says.refl _)
      have ncs : (cs ++ [(x, y)]).length = cs.length + 1 := List.length_append
      have v2' : ∀ z ∈ cs ++ [(x, y)], isCl w z = true := fun z hz => by
        rcases List.mem_append.mp hz with u | u
        · exact v2 z u
        · rw [List.mem_singleton.mp u]; exact hv
      have v1' := v1
      have qc' : ∀ z ∈ cs ++ [(x, y)], Sm z := fun z hz => sm_of_isCl h0 h6 (v2' z hz)
      have qr' := qr
      wtm_at "go"
      refine ⟨t, dx, fs, rfl, e1, e6 _ (by decide) (by decide) (by decide), ?_⟩
      wtm_at "go"
      refine ⟨t, r, c, w, _, _, x, y, rfl, T4, h0, h6, hv, by omega, by omega, fun G5 tt rr cc s5 nt5 TN => ?_⟩
      rw [er, ec] at TN
      have Tk := T4.ext s5
      have e15 := s5 _ _ e1
      have hpt5 := s5 _ _ hpt4
      have s25 := s24.trans s5
      have hdk := s25 _ _ hd2
      have hrk := hr2.ext s25
      have hck := hc2.ext s25
      have plk := pl4.ext s5
      have pmk := pm4.ext s5
      have fk := f2.ext s25
      have bk := But.trans b1 (But.trans b2 (Same.but s25))
      wtm_at "go"
      refine iteD (fun hi2 => ?_) (fun hi2 => ?_)
      · wtm_at "go"
        refine ⟨t, dx, fs, rfl, e15, e6 _ (by decide) (by decide) (by decide), ?_⟩
        wtm_at "go"
        refine ⟨rfl, t, r, c, w, _, _, x, y, rfl, Tk, h0, h6, hv, by omega, by omega, fun G6 tt rr cc s6 nt6 TN => ?_⟩
        rw [er, ec] at TN
        replace Tk := Tk.ext s6
        replace hdk := s6 _ _ hdk
        replace hrk := hrk.ext s6
        replace hck := hck.ext s6
        replace plk := plk.ext s6
        replace pmk := pmk.ext s6
        replace fk := fk.ext s6
        replace bk := But.trans bk (Same.but s6)
        wtm_at "go"
        refine ⟨t, r, c, w, _, _, dd, r0, c0, rfl, Tk, hdk, hrk, hck, by omega, by omega, sm_pset qr, sm_gcl qc, fun Ga sa => ?_⟩
        wtm_at "go"
        refine ⟨l, l2, rs, (cs ++ [(x, y)]), rfl, plk.ext sa, pmk.ext sa, by omega, by omega, fun Gb d2 r2 c2 sb nd2 hd2 hr2 hc2 => ?_⟩
        wtm_at "go"
        refine ⟨tt, rr, cc, w, _, _, d2, r2, c2, rfl, (TN.ext sa).ext sb, hd2, hr2, hc2, by have := pset_len (rs); omega, by have := gcl_len ((cs ++ [(x, y)])); omega, sm_pset qr', sm_gcl qc', fun Gc sc => ?_⟩
        wtm_at "go"
        have sz := (sa.trans sb).trans sc
        exact ⟨_, _, _, _, _, l, l2, tt, rr, cc, rs, (cs ++ [(x, y)]), rfl, But.trans bk (Same.but sz), fk.ext sz, plk.ext sz, pmk.ext sz, TN.ext sz, by omega, by omega, v1', v2'⟩
      · wtm_at "go"
        refine ⟨t, r, c, w, _, _, dd, r0, c0, rfl, Tk, hdk, hrk, hck, by omega, by omega, sm_pset qr, sm_gcl qc, fun Ga sa => ?_⟩
        wtm_at "go"
        refine ⟨l, l2, rs, (cs ++ [(x, y)]), rfl, plk.ext sa, pmk.ext sa, by omega, by omega, fun Gb d2 r2 c2 sb nd2 hd2 hr2 hc2 => ?_⟩
        wtm_at "go"
        refine ⟨tt, rr, cc, w, _, _, d2, r2, c2, rfl, (TN.ext sa).ext sb, hd2, hr2, hc2, by have := pset_len (rs); omega, by have := gcl_len ((cs ++ [(x, y)])); omega, sm_pset qr', sm_gcl qc', fun Gc sc => ?_⟩
        wtm_at "go"
        have sz := (sa.trans sb).trans sc
        exact ⟨_, _, _, _, _, l, l2, tt, rr, cc, rs, (cs ++ [(x, y)]), rfl, But.trans bk (Same.but sz), fk.ext sz, plk.ext sz, pmk.ext sz, TN.ext sz, by omega, by omega, v1', v2'⟩
  · subst e
    wtm_at "go"
    exact k G b fd
end
end Ct
end
section
set_option Elab.async false
set_option linter.all false
set_option maxRecDepth 100000
set_option maxHeartbeats 16000000
namespace Ct
open PySem PySem.Spec L2 StX

local macro_rules | `(tactic| wtm_at "hp") => `(tactic| first
  | assumption
  | exact (‹Same _ _›) _ _ (by wtm_at "hp")
  | exact (‹But _ _ _›) _ _ (by wtm_at "ne") (by wtm_at "hp"))
local macro_rules | `(tactic| wtm_at "hpL") => `(tactic| first | exact SqL.of (by wtm_at "hp") | assumption)
local macro_rules | `(tactic| wtm_at "hpT") => `(tactic| first | exact SqT.of (by wtm_at "hp") | assumption)
local macro_rules | `(tactic| wtm_at "ne") => `(tactic| first
  | assumption
  | exact Ne.symm (by assumption)
  | exact ne_lst_tup (by wtm_at "hp") (by wtm_at "hp")
  | exact ne_tup_lst (by wtm_at "hp") (by wtm_at "hp")
  | exact ne_of_none (by wtm_at "hp") (by assumption)
  | exact Ne.symm (ne_of_none (by wtm_at "hp") (by assumption)))
local macro_rules | `(tactic| wtm_at "c") => `(tactic| first
  | omega
  | (unfold CMul; omega)
  | (unfold CDiv; omega)
  | (unfold CPow; omega))
local macro_rules | `(tactic| wtm_at "sz") => `(tactic| first
  | exact sz64 rfl
  | exact (by decide)
  | (show _ ≤ sizeLine; rw [sizeLine_eq]; omega)
  | (show _ < sizeLine; rw [sizeLine_eq]; omega))
local macro_rules | `(tactic| wtm_at "go1") => `(tactic| first
  | with_reducible refine r_seq ?_
  | with_reducible refine r_op ?_
  | ((with_reducible refine' r_var ?rv ?_); (case rv => exact rfl))
  | with_reducible refine r_c ?_
  | with_reducible refine r_asg ?_
  | with_reducible refine r_name ?_
  | with_reducible refine r_i0 ?_
  | ((with_reducible refine' r_i ?rc ?_); (case rc => wtm_at "c"))
  | ((with_reducible refine' r_ixL ?r1 ?r2 ?_); (case r1 => wtm_at "hpL"); (case r2 => first | exact rfl | assumption))
  | ((with_reducible refine' r_ixT ?r1 ?r2 ?_); (case r1 => wtm_at "hpT"); (case r2 => first | exact rfl | assumption))
  | with_reducible refine r_consA ?_
  | with_reducible refine r_nilA ?_
  | with_reducible refine r_call ?_
  | with_reducible refine r_cb ?_
  | with_reducible refine r_test ?_
  | with_reducible refine r_exb ?_
  | ((with_reducible refine r_eq ?rq ?_); (case rq => exact rfl))
  | ((with_reducible refine r_ne ?rq ?_); (case rq => exact rfl))
  | with_reducible refine r_ret ?_
  | with_reducible refine r_if ?_
  | with_reducible refine r_next ?_
  | with_reducible refine r_drop ?_
  | with_reducible refine r_gsub ?_
  | ((with_reducible refine' r_setL ?r1 ?r2 ?_); (case r1 => wtm_at "hp"); (case r2 => exact rfl))
  | with_reducible refine r_b ?_
  | with_reducible refine r_and ?_
  | with_reducible refine r_or ?_
  | with_reducible refine r_not ?_
  | with_reducible refine r_andV ?_
  | with_reducible refine r_orV ?_
  | with_reducible refine r_notV ?_
  | with_reducible refine r_ifE ?_
  | with_reducible refine r_chain ?_
  | with_reducible refine r_u ?_
  | with_reducible refine r_un ?_
  | with_reducible refine r_fld ?_
  | with_reducible refine r_fldS ?_
  | with_reducible refine r_lst ?_
  | with_reducible refine r_tup ?_
  | with_reducible refine r_par ?_
  | with_reducible refine r_par3 ?_
  | with_reducible refine r_retN ?_
  | with_reducible refine r_gcons ?_
  | with_reducible refine r_gnil ?_
  | ((with_reducible refine' r_gtup ?r1 ?r2 ?_); (case r1 => wtm_at "hpT"); (case r2 => exact rfl))
  | with_reducible refine r_bm ?_
  | with_reducible refine r_bm0 ?_
  | with_reducible refine r_lcL ?_
  | with_reducible refine r_foL ?_
  | with_reducible refine r_foR ?_
  | with_reducible refine r_yes ?_
  | ((with_reducible refine' r_wipe ?rw ?_); (case rw => exact rfl))
  | ((with_reducible refine' r_tyL ?r1 ?_); (case r1 => wtm_at "hpL"))
  | ((with_reducible refine' r_append ?r1 ?r2 ?_); (case r1 => wtm_at "hp"); (case r2 => wtm_at "sz"))
  | with_reducible refine r_dput ?_
  | with_reducible refine r_dget ?_
  | with_reducible refine r_dget2 ?_
  | with_reducible refine r_dnew ?_
  | with_reducible refine iteT ?_
  | with_reducible refine iteF ?_
  | with_reducible refine iteNT ?_
  | with_reducible refine iteNF ?_)
local macro_rules | `(tactic| wtm_at "go") => `(tactic| repeat wtm_at "go1")


local macro_rules | `(tactic| wtm_at "go1") => `(tactic| first
  | with_reducible refine e_int1 ?_
  | with_reducible refine e_int2 ?_
  | with_reducible refine e_two ?_
  | ((with_reducible refine' e_lenL ?r1 ?_); (case r1 => wtm_at "hpL"))
  | ((with_reducible refine' e_lenT ?r1 ?_); (case r1 => wtm_at "hpT")))


local macro_rules | `(tactic| wtm_at "go1") => `(tactic| first
  | with_reducible refine r_make ?_
  | with_reducible refine r_makeK ?_
  | with_reducible refine r_prop ?_
  | with_reducible refine r_revL ?_
  | with_reducible refine r_star ?_
  | with_reducible refine r_meth ?_
  | with_reducible refine r_methK ?_
  | ((with_reducible refine' r_clear ?r1 ?_); (case r1 => wtm_at "hp")))

theorem psA (a b : List P2) : pset (pset a ++ pset b) = pset (a ++ b) := pset_app (fun _ => mem_pset) fun _ => mem_pset
theorem gcA (a b : List P2) : gcl (gcl a ++ gcl b) = gcl (a ++ b) := gcl_app (says_gcl a) (says_gcl b)
theorem psC (a b : List P2) : pset (pset b ++ pset a) = pset (a ++ b) := pset_congr fun x => by simp only [List.mem_append, mem_pset]; exact Or.comm
theorem gcC (a b : List P2) : gcl (gcl b ++ gcl a) = gcl (a ++ b) := gcl_of_mx fun k => by
  simp only [mx_app, mx_gcl]
  split <;> split <;> omega
theorem psS (a : List P2) : pset (pset a ++ pset a) = pset a := pset_congr fun x => by simp only [List.mem_append, mem_pset, or_self]
theorem gcS (a : List P2) : gcl (gcl a ++ gcl a) = gcl a := gcl_of_mx fun k => by
  simp only [mx_app, mx_gcl]
  split <;> omega
theorem psE (a : List P2) : pset (pset a ++ pset []) = pset a := pset_congr fun x => by simp only [List.mem_append, mem_pset, List.not_mem_nil, or_false]
theorem gcE (a : List P2) : gcl (gcl a ++ gcl []) = gcl a := gcl_of_mx fun k => by
  simp only [mx_app, mx_gcl]
  have h1 : mx [] k = 0 := rfl
  have h2 := mx_nn a k
  rw [h1]
  split <;> omega
theorem psW (a b : List P2) : pset (pset (a ++ b) ++ pset a) = pset (a ++ b) := pset_congr fun x => by
  simp only [List.mem_append, mem_pset]
  constructor
  · rintro (h | h)
    · exact h
    · exact .inl h
  · exact .inl
theorem gcW (a b : List P2) : gcl (gcl (a ++ b) ++ gcl a) = gcl (a ++ b) := gcl_of_mx fun k => by
  simp only [mx_app, mx_gcl]
  split <;> split <;> omega
structure RtI (C : Addr) (H G : Hp) (f t1 l1 m1 t2 l2 m2 tL rL cL tR rR cR : Addr) (w : Int) (rs1 cs1 rs2 cs2 : List P2) : Prop where
  b : But f H G
  fd : FeedAt G f
  h1 : G t1 = some (.lst [.ref l1, .ref m1])
  h2 : G t2 = some (.lst [.ref l2, .ref m2])
  p1 : PL G l1 rs1
  q1 : PL G m1 cs1
  p2 : PL G l2 rs2
  q2 : PL G m2 cs2
  TL : TalkR C G tL rL cL w (pset rs1) (gcl cs1)
  TR : TalkR C G tR rR cR w (pset rs2) (gcl cs2)
theorem RtI.same {C : Addr} {H G G' : Hp} {f t1 l1 m1 t2 l2 m2 tL rL cL tR rR cR : Addr} {w : Int} {rs1 cs1 rs2 cs2 : List P2} (I : RtI C H G f t1 l1 m1 t2 l2 m2 tL rL cL tR rR cR w rs1 cs1 rs2 cs2) (s : Same G G') : RtI C H G' f t1 l1 m1 t2 l2 m2 tL rL cL tR rR cR w rs1 cs1 rs2 cs2 :=
  ⟨But.trans I.b (Same.but s), I.fd.ext s, s _ _ I.h1, s _ _ I.h2, I.p1.ext s, I.q1.ext s, I.p2.ext s, I.q2.ext s, I.TL.ext s, I.TR.ext s⟩
theorem e_addO {a : Ad} {H : Hp} {t r c u r1 c1 : Addr} {w : Int} {rs cs ls ms : List P2} {Q : VK} (ht : TalkR a.C_Talk H t r c w rs cs) (hu : TalkR a.C_Talk H u r1 c1 w ls ms) (h0 : 0 ≤ w) (h6 : w ≤ 6) (n1 : rs.length + ls.length ≤ 1200) (n2 : cs.length + ms.length ≤ 10000)
    (k : ∀ H' t' r' c', Same H H' → H t' = none → TalkR a.C_Talk H' t' r' c' w (pset (rs ++ ls)) (gcl (cs ++ ms)) → Q (.ref t') H') : rAddO a.C_Talk (sp_Talk___add__ a) (.ref t) (.ref u) H Q := by
  obtain ⟨dx, fs, e1, _⟩ := id ht.at_
  obtain ⟨dy, gs, e2, _⟩ := id hu.at_
  exact ⟨t, u, dx, dy, fs, gs, rfl, rfl, e1, e2, t, r, c, w, rs, cs, u, r1, c1, ls, ms, rfl, ht, hu, h0, h6, n1, n2, fun H' t' r' c' s n T => ⟨t', rfl, k H' t' r' c' s n T⟩⟩
theorem e_eqO {a : Ad} {H : Hp} {t r c u r1 c1 : Addr} {w : Int} {rs cs ls ms : List P2} {Q : VK} (ht : TalkR a.C_Talk H t r c w rs cs) (hu : TalkR a.C_Talk H u r1 c1 w ls ms) (n1 : rs.length ≤ 10000) (n2 : cs.length ≤ 10000) (n3 : ls.length ≤ 10000) (n4 : ms.length ≤ 10000)
    (k : Q (.bl (decide (rs = ls) && decide (cs = ms))) H) : rEqO a.C_Talk (sp_Talk___eq__ a) (.ref t) (.ref u) H Q := by
  obtain ⟨dx, fs, e1, _⟩ := id ht.at_
  obtain ⟨dy, gs, e2, _⟩ := id hu.at_
  exact ⟨t, u, dx, dy, fs, gs, rfl, rfl, e1, e2, t, r, c, w, rs, cs, u, r1, c1, w, ls, ms, rfl, ht, hu, n1, n2, n3, n4, ⟨_, rfl, by rw [decide_eq_true rfl, Bool.true_and]; exact k⟩⟩
theorem e_eqT {a : Ad} {H : Hp} {t r c u r1 c1 : Addr} {w : Int} {rs cs ls ms : List P2} {Q : VK} (ht : TalkR a.C_Talk H t r c w rs cs) (hu : TalkR a.C_Talk H u r1 c1 w ls ms) (er : rs = ls) (ec : cs = ms) (n1 : rs.length ≤ 10000) (n2 : cs.length ≤ 10000)
    (k : Q (.bl true) H) : rEqO a.C_Talk (sp_Talk___eq__ a) (.ref t) (.ref u) H Q := by
  subst er
  subst ec
  exact e_eqO ht hu n1 n2 n1 n2 (by rw [decide_eq_true rfl, decide_eq_true rfl]; exact k)
theorem e_cat {H : Hp} {l m : Addr} {ps qs : List P2} {Q : VK} (hl : PL H l ps) (hm : PL H m qs) (hn : ps.length + qs.length ≤ 100000) (k : ∀ H' x, Same H H' → H x = none → PL H' x (ps ++ qs) → Q (.ref x) H') : rCat (.ref l) (.ref m) H Q := by
  obtain ⟨xs, h1, p1⟩ := hl
  obtain ⟨ys, h2, p2⟩ := hm
  have n1 := p1.length
  have n2 := p2.length
  refine ⟨l, m, xs, ys, rfl, rfl, h1, h2, by have := line_big; omega, fun x nx => ?_⟩
  have s := same_upd (o := .lst (xs ++ ys)) nx rfl
  exact k _ x s nx ⟨_, upd_same, (Prs.app p1 p2).ext s⟩
def sp_law_right : Sp := fun vs H Q _ => ∃ (f : Addr) (w most : Int), vs = [.ref f, .int w, .int most] ∧ FeedAt H f ∧ 0 ≤ w ∧ w ≤ 6 ∧ 1 ≤ most ∧ most ≤ 200 ∧ ∀ (H' : Hp), But f H H' → FeedAt H' f → Q (.bl true) H'
section
variable {P : Program} {w : World} {K : PySem.W.Frag} {mg : Str → Option Value} {base : Heap} {a : Ad}
theorem sc_law_right : FnScope ["feed", "wide", "most", "first", "second", "left", "right", "due", "whole"] ["feed", "wide", "most"] (defScope s_law_right) := ⟨rfl, rfl, rfl, by decide +kernel, rfl, by decide +kernel, by decide +kernel⟩
theorem ok_law_right (T : Txt K mg a) : FnG P w K mg base 10 a.f_law_right a.d_law_right ["feed", "wide", "most"] (sp_law_right) := by
  refine okG T.F_law_right sc_law_right (fun vs H Q E h => (by repeat (first | (obtain ⟨rfl, _⟩ := h; rfl) | obtain ⟨_, h⟩ := h))) (fun cdv A outer s H vs Q E hgd hr h => ?_)
  have nd := sc_law_right.nd
  have hu := hr.units
  have hu1 := hu_of hr
  obtain ⟨f, w, most, rfl, hf, h0, h6, hm1, hm2, k⟩ := h
  refine ⟨_, (pss_cons (ps_par (i := 3) (j := 4) (by exact rfl) nd rfl rfl (by decide) rfl rfl (pa_cons (pe_call (ok_law_items T) (hr.mono (by decide)) (by exact rfl) T.m_law_items T.F_law_items.kp T.b_law_items .nil pass0 (pa_cons (pv 0) (pa_cons (pv 1) (pa_cons (pv 2) pa_nil)))) (pa_cons (pe_call (ok_law_items T) (hr.mono (by decide)) (by exact rfl) T.m_law_items T.F_law_items.kp T.b_law_items .nil pass0 (pa_cons (pv 0) (pa_cons (pv 1) (pa_cons (pv 2) pa_nil)))) pa_nil)) (by exact rfl))
      (pss_cons (ps_par (i := 5) (j := 6) (by exact rfl) nd rfl rfl (by decide) rfl rfl (pa_cons (pe_make T.M_Talk (ok_Talk___init__ T) (hr.mono (by decide)) (by exact rfl) T.mC_Talk T.b_Talk___init__ .nil pass0 (pa_cons (pv 1) (pa_cons (pe_ix ix_list (pv 3) pe_int (fun _ _ => rfl)) (pa_cons (pe_ix ix_list (pv 3) pe_int (fun _ _ => rfl)) pa_nil)))) (pa_cons (pe_make T.M_Talk (ok_Talk___init__ T) (hr.mono (by decide)) (by exact rfl) T.mC_Talk T.b_Talk___init__ .nil pass0 (pa_cons (pv 1) (pa_cons (pe_ix ix_list (pv 4) pe_int (fun _ _ => rfl)) (pa_cons (pe_ix ix_list (pv 4) pe_int (fun _ _ => rfl)) pa_nil)))) pa_nil)) (by exact rfl))
      (pss_cons (ps_set (i := 7) nd rfl (Or.inl rfl) (pe_call (ok_law_plain T) (hr.mono (by decide)) (by exact rfl) T.m_law_plain T.F_law_plain.kp T.b_law_plain .nil pass0 (pa_cons (pe_op op_cat (pe_ix ix_list (pv 3) pe_int (fun _ _ => rfl)) (pe_ix ix_list (pv 4) pe_int (fun _ _ => rfl))) (pa_cons (pe_op op_cat (pe_ix ix_list (pv 3) pe_int (fun _ _ => rfl)) (pe_ix ix_list (pv 4) pe_int (fun _ _ => rfl))) pa_nil))))
      (pss_cons (ps_if (PW.pt (pw_or (pt_not (pt_val (pe_callG (ok_law_are T) hgd (hr.mono (by decide)) (by exact rfl) T.m_law_are T.F_law_are.kp T.b_law_are (pa_cons (pe_op (op_addO (ok_Talk___add__ T) T.me_Talk___add__ T.sf_Talk T.b_Talk___add__ (hr.mono (by decide))) (pv 5) (pv 6)) (pa_cons (pv 1) (pa_cons (pv 7) pa_nil)))))) (pw_or1 (pt_not (pt_val (pe_callG (ok_law_are T) hgd (hr.mono (by decide)) (by exact rfl) T.m_law_are T.F_law_are.kp T.b_law_are (pa_cons (pe_op (op_addO (ok_Talk___add__ T) T.me_Talk___add__ T.sf_Talk T.b_Talk___add__ (hr.mono (by decide))) (pv 6) (pv 5)) (pa_cons (pv 1) (pa_cons (pv 7) pa_nil))))))))) (pss_one (ps_ret pe_bl)) pss_nil)
      (pss_cons (ps_if (PW.pt (pw_or (pt_not (pt_val (pe_callG (ok_law_are T) hgd (hr.mono (by decide)) (by exact rfl) T.m_law_are T.F_law_are.kp T.b_law_are (pa_cons (pv 5) (pa_cons (pv 1) (pa_cons (pe_call (ok_law_plain T) (hr.mono (by decide)) (by exact rfl) T.m_law_plain T.F_law_plain.kp T.b_law_plain .nil pass0 (pa_cons (pe_ix ix_list (pv 3) pe_int (fun _ _ => rfl)) (pa_cons (pe_ix ix_list (pv 3) pe_int (fun _ _ => rfl)) pa_nil))) pa_nil)))))) (pw_or1 (pt_not (pt_cmpR (op_eqO (ok_Talk___eq__ T) T.me_Talk___eq__ T.b_Talk___eq__ (hr.mono (by decide))) (pe_op (op_addO (ok_Talk___add__ T) T.me_Talk___add__ T.sf_Talk T.b_Talk___add__ (hr.mono (by decide))) (pv 5) (pv 5)) (pv 5) (nomark _)))))) (pss_one (ps_ret pe_bl)) pss_nil)
      (pss_cons (ps_set (i := 8) nd rfl (Or.inl rfl) (pe_op (op_addO (ok_Talk___add__ T) T.me_Talk___add__ T.sf_Talk T.b_Talk___add__ (hr.mono (by decide))) (pe_op (op_addO (ok_Talk___add__ T) T.me_Talk___add__ T.sf_Talk T.b_Talk___add__ (hr.mono (by decide))) (pv 5) (pv 6)) (pe_make T.M_Talk (ok_Talk___init__ T) (hr.mono (by decide)) (by exact rfl) T.mC_Talk T.b_Talk___init__ .nil pass0 (pa_cons (pv 1) (pa_cons (pe_lst pa_nil) (pa_cons (pe_lst pa_nil) pa_nil))))))
      (pss_one (ps_ret (pe_and (pe_cmpR (op_eqO (ok_Talk___eq__ T) T.me_Talk___eq__ T.b_Talk___eq__ (hr.mono (by decide))) (pv 8) (pe_op (op_addO (ok_Talk___add__ T) T.me_Talk___add__ T.sf_Talk T.b_Talk___add__ (hr.mono (by decide))) (pv 5) (pv 6)) (nomark _)) (pe_and (pe_cmpR (op_eqO (ok_Talk___eq__ T) T.me_Talk___eq__ T.b_Talk___eq__ (hr.mono (by decide))) (pe_op (op_addO (ok_Talk___add__ T) T.me_Talk___add__ T.sf_Talk T.b_Talk___add__ (hr.mono (by decide))) (pv 8) (pv 5)) (pv 8) (nomark _)) (pe_one (pe_callG (ok_law_more_right T) hgd (hr.mono (by decide)) (by exact rfl) T.m_law_more_right T.F_law_more_right.kp T.b_law_more_right (pa_cons (pv 0) (pa_cons (pv 1) (pa_cons (pe_ix ix_list (pv 3) pe_int (fun _ _ => rfl)) (pa_cons (pe_ix ix_list (pv 3) pe_int (fun _ _ => rfl)) pa_nil)))))))))))))))), ?_⟩
  wtm_at "go"
  refine ⟨f, w, most, rfl, hf, h0, h6, hm1, hm2, fun G1 t1 l1 m1 rs1 cs1 b1 f1 nt1 nl1 nm1 ht1 pl1 pm1 _ _ _ a1 a2 v1 v2 => ?_⟩
  wtm_at "go"
  refine ⟨f, w, most, rfl, f1, h0, h6, hm1, hm2, fun G2 t2 l2 m2 rs2 cs2 b2 f2 nt2 nl2 nm2 ht2 pl2 pm2 _ _ _ a3 a4 v3 v4 => ?_⟩
  have ht12 := b2 _ _ (f1.ne2 ht1) ht1
  have pl12 := f1.pl b2 pl1
  have pm12 := f1.pl b2 pm1
  wtm_at "go"
  refine fun tL dx nt nd _ => ?_
  have up := made_up (o := .own tL) (o' := .ins a.C_Talk dx []) nt nd
  refine ⟨tL, dx, l1, m1, w, rs1, cs1, rfl, upd_same, pl12.ext up, pm12.ext up, a1, a2, h0, h6, v1, v2, fun G3 rL cL b3 nr nc TL => ⟨rfl, ?_⟩⟩
  have s3 := made_same nt nd b3
  have ht2' := s3 _ _ ht2
  wtm_at "go"
  refine fun tR dx' nt' nd' _ => ?_
  have up' := made_up (o := .own tR) (o' := .ins a.C_Talk dx' []) nt' nd'
  refine ⟨tR, dx', l2, m2, w, rs2, cs2, rfl, upd_same, (pl2.ext s3).ext up', (pm2.ext s3).ext up', a3, a4, h0, h6, v3, v4, fun G4 rR cR b4 nr' nc' TR => ⟨rfl, ?_⟩⟩
  have s4 := made_same nt' nd' b4
  have s34 := s3.trans s4
  have I4 : RtI a.C_Talk H G4 f t1 l1 m1 t2 l2 m2 tL rL cL tR rR cR w rs1 cs1 rs2 cs2 := ⟨But.trans (But.trans b1 b2) (Same.but s34), f2.ext s34, s34 _ _ ht12, s34 _ _ ht2, pl12.ext s34, pm12.ext s34, pl2.ext s34, pm2.ext s34, TL.ext s4, TR⟩
  have ix1 := I4.h1
  have ix2 := I4.h2
  have lp1 := pset_len rs1
  have lp2 := pset_len rs2
  have lg1 := gcl_len cs1
  have lg2 := gcl_len cs2
  have nr : (rs1 ++ rs2).length = rs1.length + rs2.length := List.length_append
  have nc : (cs1 ++ cs2).length = cs1.length + cs2.length := List.length_append
  have lp := pset_len (rs1 ++ rs2)
  have lg := gcl_len (cs1 ++ cs2)
  have z1 : ∀ p ∈ rs1, Sm p := fun p hp => sm_of_isRes h0 h6 (v1 p hp)
  have z2 : ∀ p ∈ cs1, Sm p := fun p hp => sm_of_isCl h0 h6 (v2 p hp)
  have zr : ∀ p ∈ rs1 ++ rs2, Sm p := fun p hp => sm_of_isRes h0 h6 ((List.mem_append.mp hp).elim (v1 p) (v3 p))
  have zc : ∀ p ∈ cs1 ++ cs2, Sm p := fun p hp => sm_of_isCl h0 h6 ((List.mem_append.mp hp).elim (v2 p) (v4 p))
  clear TL TR ht1 pl1 pm1 ht2 pl2 pm2 ht12 pl12 pm12 ht2' up up'
  wtm_at "go"
  refine e_cat I4.p1 I4.p2 (by omega) fun G5 l3 s5 n5 p5 => ?_
  have I5 := I4.same s5
  replace ix1 := I5.h1
  replace ix2 := I5.h2
  wtm_at "go"
  refine e_cat I5.q1 I5.q2 (by omega) fun G6 m3 s6 n6 p6 => ?_
  have I6 := I5.same s6
  wtm_at "go"
  refine ⟨l3, m3, rs1 ++ rs2, cs1 ++ cs2, rfl, p5.ext s6, p6, by omega, by omega, fun G7 dd r0 c0 s7 ndd hd hr hc => ?_⟩
  have I7 := I6.same s7
  wtm_at "go"
  refine e_addO I7.TL I7.TR h0 h6 (by omega) (by omega) fun G8 sa ra ca s8 ns TS => ?_
  rw [psA, gcA] at TS
  have I8 := I7.same s8
  wtm_at "go"
  refine ⟨sa, ra, ca, w, _, _, dd, r0, c0, rfl, TS, s8 _ _ hd, hr.ext s8, hc.ext s8, by omega, by omega, sm_pset zr, sm_gcl zc, fun G9 s9 => ?_⟩
  have I9 := I8.same s9
  have s79 := s8.trans s9
  wtm_at "go"
  refine e_addO I9.TR I9.TL h0 h6 (by omega) (by omega) fun G10 sb rb cb s10 nsb TSb => ?_
  rw [psC, gcC] at TSb
  have I10 := I9.same s10
  have s710 := s79.trans s10
  wtm_at "go"
  refine ⟨sb, rb, cb, w, _, _, dd, r0, c0, rfl, TSb, s710 _ _ hd, hr.ext s710, hc.ext s710, by omega, by omega, sm_pset zr, sm_gcl zc, fun G11 s11 => ?_⟩
  have I11 := I10.same s11
  replace ix1 := I11.h1
  wtm_at "go"
  refine ⟨l1, m1, rs1, cs1, rfl, I11.p1, I11.q1, by omega, by omega, fun G12 d2 r2 c2 s12 nd2 hd2 hr2 hc2 => ?_⟩
  have I12 := I11.same s12
  wtm_at "go"
  refine ⟨tL, rL, cL, w, _, _, d2, r2, c2, rfl, I12.TL, hd2, hr2, hc2, by omega, by omega, sm_pset z1, sm_gcl z2, fun G13 s13 => ?_⟩
  have I13 := I12.same s13
  wtm_at "go"
  refine e_addO I13.TL I13.TL h0 h6 (by omega) (by omega) fun G14 x rx cx s14 nx TX => ?_
  rw [psS, gcS] at TX
  have I14 := I13.same s14
  wtm_at "go"
  refine e_eqT TX I14.TL rfl rfl (by omega) (by omega) ?_
  wtm_at "go"
  refine e_addO I14.TL I14.TR h0 h6 (by omega) (by omega) fun G15 y ry cy s15 ny TY => ?_
  rw [psA, gcA] at TY
  have I15 := I14.same s15
  wtm_at "go"
  refine ⟨by wtm_at "sz", fun q0 n_q0 => ?_⟩
  generalize e_G16 : upd _ q0 _ = G16
  have s_G16 := same_upd n_q0 e_G16
  have h_q0 := upd_at e_G16
  clear e_G16
  wtm_at "go"
  refine ⟨by wtm_at "sz", fun q1 n_q1 => ?_⟩
  generalize e_G17 : upd _ q1 _ = G17
  have s_G17 := same_upd n_q1 e_G17
  have h_q1 := upd_at e_G17
  clear e_G17
  wtm_at "go"
  have s1517 := s_G16.trans s_G17
  refine fun tE dxE ntE ndE _ => ?_
  have upE := made_up (o := .own tE) (o' := .ins a.C_Talk dxE []) ntE ndE
  refine ⟨tE, dxE, q0, q1, w, [], [], rfl, upd_same, PL.ext ⟨[], s_G17 _ _ h_q0, .nil⟩ upE, PL.ext ⟨[], h_q1, .nil⟩ upE, by decide, by decide, h0, h6, (fun p h => by cases h), (fun p h => by cases h), fun G18 rE cE bE nrE ncE TE => ⟨rfl, ?_⟩⟩
  have s18 := s1517.trans (made_same ntE ndE bE)
  have I18 := I15.same s18
  wtm_at "go"
  have pE : (pset []).length = 0 := rfl
  have gE : (gcl []).length = 0 := rfl
  refine e_addO (TY.ext s18) TE h0 h6 (by omega) (by omega) fun G19 wh rw' cw s19 nwh TW => ?_
  rw [psE, gcE] at TW
  have I19 := I18.same s19
  wtm_at "go"
  refine e_addO I19.TL I19.TR h0 h6 (by omega) (by omega) fun G20 yy ry' cy' s20 nyy TY' => ?_
  rw [psA, gcA] at TY'
  have I20 := I19.same s20
  wtm_at "go"
  refine e_eqT (TW.ext s20) TY' rfl rfl (by omega) (by omega) ?_
  wtm_at "go"
  refine e_addO (TW.ext s20) I20.TL h0 h6 (by omega) (by omega) fun G21 yz rz cz s21 nyz TZ => ?_
  rw [psW, gcW] at TZ
  have I21 := I20.same s21
  wtm_at "go"
  refine e_eqT TZ ((TW.ext s20).ext s21) rfl rfl (by omega) (by omega) ?_
  replace ix1 := I21.h1
  wtm_at "go"
  refine ⟨f, l1, m1, w, rs1, cs1, rfl, I21.fd, h0, h6, I21.p1, I21.q1, a1, a2, v1, v2, fun Gz bz fz => ?_⟩
  wtm_at "go"
  exact k Gz (But.trans I21.b bz) fz
end
end Ct
end
section
set_option Elab.async false
set_option linter.all false
set_option maxRecDepth 100000
set_option maxHeartbeats 16000000
namespace Ct
open PySem PySem.Spec L2 StX

local macro_rules | `(tactic| wtm_at "hp") => `(tactic| first
  | assumption
  | exact (‹Same _ _›) _ _ (by wtm_at "hp")
  | exact (‹But _ _ _›) _ _ (by wtm_at "ne") (by wtm_at "hp"))
local macro_rules | `(tactic| wtm_at "hpL") => `(tactic| first | exact SqL.of (by wtm_at "hp") | assumption)
local macro_rules | `(tactic| wtm_at "hpT") => `(tactic| first | exact SqT.of (by wtm_at "hp") | assumption)
local macro_rules | `(tactic| wtm_at "ne") => `(tactic| first
  | assumption
  | exact Ne.symm (by assumption)
  | exact ne_lst_tup (by wtm_at "hp") (by wtm_at "hp")
  | exact ne_tup_lst (by wtm_at "hp") (by wtm_at "hp")
  | exact ne_of_none (by wtm_at "hp") (by assumption)
  | exact Ne.symm (ne_of_none (by wtm_at "hp") (by assumption)))
local macro_rules | `(tactic| wtm_at "c") => `(tactic| first
  | omega
  | (unfold CMul; omega)
  | (unfold CDiv; omega)
  | (unfold CPow; omega))
local macro_rules | `(tactic| wtm_at "sz") => `(tactic| first
  | exact sz64 rfl
  | exact (by decide)
  | (show _ ≤ sizeLine; rw [sizeLine_eq]; omega)
  | (show _ < sizeLine; rw [sizeLine_eq]; omega))
local macro_rules | `(tactic| wtm_at "go1") => `(tactic| first
  | with_reducible refine r_seq ?_
  | with_reducible refine r_op ?_
  | ((with_reducible refine' r_var ?rv ?_); (case rv => exact rfl))
  | with_reducible refine r_c ?_
  | with_reducible refine r_asg ?_
  | with_reducible refine r_name ?_
  | with_reducible refine r_i0 ?_
  | ((with_reducible refine' r_i ?rc ?_); (case rc => wtm_at "c"))
  | ((with_reducible refine' r_ixL ?r1 ?r2 ?_); (case r1 => wtm_at "hpL"); (case r2 => first | exact rfl | assumption))
  | ((with_reducible refine' r_ixT ?r1 ?r2 ?_); (case r1 => wtm_at "hpT"); (case r2 => first | exact rfl | assumption))
  | with_reducible refine r_consA ?_
  | with_reducible refine r_nilA ?_
  | with_reducible refine r_call ?_
  | with_reducible refine r_cb ?_
  | with_reducible refine r_test ?_
  | with_reducible refine r_exb ?_
  | ((with_reducible refine r_eq ?rq ?_); (case rq => exact rfl))
  | ((with_reducible refine r_ne ?rq ?_); (case rq => exact rfl))
  | with_reducible refine r_ret ?_
  | with_reducible refine r_if ?_
  | with_reducible refine r_next ?_
  | with_reducible refine r_drop ?_
  | with_reducible refine r_gsub ?_
  | ((with_reducible refine' r_setL ?r1 ?r2 ?_); (case r1 => wtm_at "hp"); (case r2 => exact rfl))
  | with_reducible refine r_b ?_
  | with_reducible refine r_and ?_
  | with_reducible refine r_or ?_
  | with_reducible refine r_not ?_
  | with_reducible refine r_andV ?_
  | with_reducible refine r_orV ?_
  | with_reducible refine r_notV ?_
  | with_reducible refine r_ifE ?_
  | with_reducible refine r_chain ?_
  | with_reducible refine r_u ?_
  | with_reducible refine r_un ?_
  | with_reducible refine r_fld ?_
  | with_reducible refine r_fldS ?_
  | with_reducible refine r_lst ?_
  | with_reducible refine r_tup ?_
  | with_reducible refine r_par ?_
  | with_reducible refine r_par3 ?_
  | with_reducible refine r_retN ?_
  | with_reducible refine r_gcons ?_
  | with_reducible refine r_gnil ?_
  | ((with_reducible refine' r_gtup ?r1 ?r2 ?_); (case r1 => wtm_at "hpT"); (case r2 => exact rfl))
  | with_reducible refine r_bm ?_
  | with_reducible refine r_bm0 ?_
  | with_reducible refine r_lcL ?_
  | with_reducible refine r_foL ?_
  | with_reducible refine r_foR ?_
  | with_reducible refine r_yes ?_
  | ((with_reducible refine' r_wipe ?rw ?_); (case rw => exact rfl))
  | ((with_reducible refine' r_tyL ?r1 ?_); (case r1 => wtm_at "hpL"))
  | ((with_reducible refine' r_append ?r1 ?r2 ?_); (case r1 => wtm_at "hp"); (case r2 => wtm_at "sz"))
  | with_reducible refine r_dput ?_
  | with_reducible refine r_dget ?_
  | with_reducible refine r_dget2 ?_
  | with_reducible refine r_dnew ?_
  | with_reducible refine iteT ?_
  | with_reducible refine iteF ?_
  | with_reducible refine iteNT ?_
  | with_reducible refine iteNF ?_)
local macro_rules | `(tactic| wtm_at "go") => `(tactic| repeat wtm_at "go1")


local macro_rules | `(tactic| wtm_at "go1") => `(tactic| first
  | with_reducible refine e_int1 ?_
  | with_reducible refine e_int2 ?_
  | with_reducible refine e_two ?_
  | ((with_reducible refine' e_lenL ?r1 ?_); (case r1 => wtm_at "hpL"))
  | ((with_reducible refine' e_lenT ?r1 ?_); (case r1 => wtm_at "hpT")))


local macro_rules | `(tactic| wtm_at "go1") => `(tactic| first
  | with_reducible refine r_make ?_
  | with_reducible refine r_makeK ?_
  | with_reducible refine r_prop ?_
  | with_reducible refine r_revL ?_
  | with_reducible refine r_star ?_
  | with_reducible refine r_meth ?_
  | with_reducible refine r_methK ?_
  | ((with_reducible refine' r_clear ?r1 ?_); (case r1 => wtm_at "hp")))

theorem r_sl {r : V → Option Int → Option Int → Hp → VK → Prop} {te : TE} {tl th : TO} {σ : L2.St} {H : Hp} {Q : VK} (h : te σ H fun x H1 => tl σ H1 fun l H2 => th σ H2 fun u H3 => r x l u H3 Q) : tSl r te tl th σ H Q := h
theorem r_npart {σ : L2.St} {H : Hp} {Q : Option Int → Hp → Prop} (h : Q none H) : tNoPart σ H Q := h
theorem r_part {t : TE} {σ : L2.St} {H : Hp} {Q : Option Int → Hp → Prop} (h : t σ H fun x H1 => ∃ i, x = .int i ∧ Q (some i) H1) : tPart t σ H Q := h
theorem r_exi {i : Int} {k : Int → Prop} (h : k i) : ∃ j, V.int i = .int j ∧ k j := ⟨i, rfl, h⟩
local macro_rules | `(tactic| wtm_at "go1") => `(tactic| first
  | with_reducible refine r_foR2 ?_
  | with_reducible refine r_lcR ?_
  | with_reducible refine r_sl ?_
  | with_reducible refine r_npart ?_
  | with_reducible refine r_part ?_
  | with_reducible refine r_exi ?_)
def spLaw (K : PySem.W.Frag) : Sp := fun vs H Q _ => ∃ (l : Addr) (ns : List Int), vs = [.ref l] ∧ SqL K H l (ns.map V.int) ∧ ns.length ≤ 63 ∧ ∀ H', Q (.bl true) H'
section
variable {P : Program} {w : World} {K : PySem.W.Frag} {mg : Str → Option Value} {base : Heap} {a : Ad}
theorem sc_law : FnScope ["script", "k", "feed", "most", "pairs", "step", "whole", "x"] ["script"] (defScope s_law) := ⟨rfl, rfl, rfl, by decide +kernel, rfl, by decide +kernel, by decide +kernel⟩
theorem ok_law (T : Txt K mg a) : FnG P w K mg base 11 a.f_law a.d_law ["script"] ((spLaw K)) := by
  refine okG T.F_law sc_law (fun vs H Q E h => (by repeat (first | (obtain ⟨rfl, _⟩ := h; rfl) | obtain ⟨_, h⟩ := h))) (fun cdv A outer s H vs Q E hgd hr h => ?_)
  have nd := sc_law.nd
  have hu := hr.units
  have hu1 := hu_of hr
  obtain ⟨l, ns, rfl, hl, hn, k⟩ := h
  refine ⟨_, (pss_cons (ps_for PassesOwn.never rfl (pi_range1 (by exact rfl) T.z_range (pa_cons (pe_callB (call_max2 rfl) (by exact rfl) T.z_max (by decide +kernel) (pa_cons pe_int (pa_cons (pe_callB (call_min2 rfl) (by exact rfl) T.z_min (by decide +kernel) (pa_cons pe_int (pa_cons (pe_callB call_len_seq (by exact rfl) T.z_len (by decide +kernel) (pa_cons (pv 0) pa_nil)) pa_nil))) pa_nil))) pa_nil)) (pg_name (i := 1) nd rfl (Or.inl rfl))
      (pss_cons (ps_set (i := 2) nd rfl (Or.inl rfl) (pe_call (ok_law_feed T) (hr.mono (by decide)) (by exact rfl) T.m_law_feed T.F_law_feed.kp T.b_law_feed .nil pass0 (pa_cons (pv 0) (pa_cons (pv 1) pa_nil))))
      (pss_one (ps_for PassesOwn.never rfl (pi_list (pe_lst (pa_cons pe_int (pa_cons pe_int pa_nil)))) (pg_name (i := 3) nd rfl (Or.inl rfl))
      (pss_one (ps_if (pt_not (pt_val (pe_callG (ok_law_right T) hgd (hr.mono (by decide)) (by exact rfl) T.m_law_right T.F_law_right.kp T.b_law_right (pa_cons (pv 2) (pa_cons (pe_call (ok_law_pick T) (hr.mono (by decide)) (by exact rfl) T.m_law_pick T.F_law_pick.kp T.b_law_pick .nil pass0 (pa_cons (pv 2) (pa_cons pe_int pa_nil))) (pa_cons (pv 3) pa_nil)))))) (pss_one (ps_ret pe_bl)) pss_nil))))))
      (pss_cons (ps_set (i := 4) nd rfl (Or.inl rfl) (pe_lst pa_nil))
      (pss_cons (ps_for PassesOwn.never rfl (pi_range2 (by exact rfl) T.z_range (pa_cons pe_int (pa_cons pe_int pa_nil))) (pg_name (i := 5) nd rfl (Or.inr rfl))
      (pss_one (ps_set (i := 4) nd rfl (Or.inl rfl) (pe_op op_cat (pv 4) (pe_lc (own := [("x", 7)]) rfl nd (pi_range1 (by exact rfl) T.z_range (pa_cons pe_int pa_nil)) (blkOk_by (own := [("x", 7)]) (N := ["script", "k", "feed", "most", "pairs", "step", "whole", "x"]) (sc := defScope s_law) (by decide +kernel)) (fun _ _ _ _ _ => (pg_name (i := 7) nd rfl (Or.inl rfl))) (fun _ _ _ _ _ => pts_nil) (fun _ _ _ _ _ => (pe_tup (pa_cons (pv 7) (pa_cons (pe_op op_mod (pe_op op_add (pv 7) (pv 5)) pe_int) pa_nil)))))))))
      (pss_cons (ps_set (i := 6) nd rfl (Or.inl rfl) (pe_op (op_addO (ok_Talk___add__ T) T.me_Talk___add__ T.sf_Talk T.b_Talk___add__ (hr.mono (by decide))) (pe_make T.M_Talk (ok_Talk___init__ T) (hr.mono (by decide)) (by exact rfl) T.mC_Talk T.b_Talk___init__ .nil pass0 (pa_cons pe_int (pa_cons (pe_slice sl_list (pv 4) po_none (po_some pe_int)) (pa_cons (pe_lst pa_nil) pa_nil)))) (pe_make T.M_Talk (ok_Talk___init__ T) (hr.mono (by decide)) (by exact rfl) T.mC_Talk T.b_Talk___init__ .nil pass0 (pa_cons pe_int (pa_cons (pe_slice sl_list (pv 4) (po_some pe_int) po_none) (pa_cons (pe_lst (pa_cons (pe_tup (pa_cons pe_int (pa_cons pe_int pa_nil))) pa_nil)) pa_nil))))))
      (pss_one (ps_ret (pe_and (pe_cmpR op_eq (pe_callB (call_lenO (ok_Talk___len__ T) T.me_Talk___len__ T.b_Talk___len__ (hr.mono (by decide))) (by exact rfl) T.z_len (by decide +kernel) (pa_cons (pv 6) pa_nil)) pe_int (nomark _)) (pe_and (pe_cmpR (op_eqD hu) (pe_prop (pv 6) T.cl_Talk T.pr_Talk_results (ok_Talk_results T) (hr.mono (by decide)) T.b_Talk_results .nil pass0 rfl) (pe_callB (cr_sortP hu) (by exact rfl) T.z_sorted (by decide +kernel) (pa_cons (pv 4) pa_nil)) (nomark _)) (pe_one (pe_cmpR op_eq (pe_callB (call_lenO (ok_Talk___len__ T) T.me_Talk___len__ T.b_Talk___len__ (hr.mono (by decide))) (by exact rfl) T.z_len (by decide +kernel) (pa_cons (pe_meth (pv 6) T.cl_Talk T.me_Talk_with_result (ok_Talk_with_result T) (hr.mono (by decide)) T.b_Talk_with_result .nil pass0 (pa_cons pe_int (pa_cons pe_int pa_nil))) pa_nil)) pe_int (nomark _))))))))))), ?_⟩
  wtm_at "go"
  have hlen : (ns.map V.int).length ≤ 63 := by rw [List.length_map]; exact hn
  have hb : 1 ≤ (if (if ((ns.map V.int).length : Int) < 4 then ((ns.map V.int).length : Int) else 4) > 1 then (if ((ns.map V.int).length : Int) < 4 then ((ns.map V.int).length : Int) else 4) else 1) ∧ (if (if ((ns.map V.int).length : Int) < 4 then ((ns.map V.int).length : Int) else 4) > 1 then (if ((ns.map V.int).length : Int) < 4 then ((ns.map V.int).length : Int) else 4) else 1) ≤ 4 := by
    repeat' split
    all_goals omega
  generalize (if (if ((ns.map V.int).length : Int) < 4 then ((ns.map V.int).length : Int) else 4) > 1 then (if ((ns.map V.int).length : Int) < 4 then ((ns.map V.int).length : Int) else 4) else 1) = N at hb ⊢
  refine foR ⟨by omega, by omega⟩ (fun i σ G => ∃ u1 u2 u3 u4 u5 u6 u7, σ = [some (.ref l), u1, u2, u3, u4, u5, u6, u7] ∧ Same H G) ⟨_, _, _, _, _, _, _, rfl, Same.refl _⟩ (fun i σ G hi ⟨u1, u2, u3, u4, u5, u6, u7, e, s⟩ => ?_) (fun σ G ⟨u1, u2, u3, u4, u5, u6, u7, e, s⟩ => ?_)
  · subst e
    wtm_at "go"
    refine ⟨l, ns, i, rfl, s.seq hl, by omega, by omega, hn, fun G1 f s1 nf f1 => ?_⟩
    wtm_at "go"
    refine ⟨by wtm_at "sz", fun q n_q => ?_⟩
    generalize e_G2 : upd _ q _ = G2
    have s_G2 := same_upd n_q e_G2
    have h_q := upd_at e_G2
    clear e_G2
    have hqf : q ≠ f := by
      obtain ⟨_, _, _, z⟩ := f1
      exact Ne.symm (ne_of_none z n_q)
    have hf0 := s.free nf
    wtm_at "go"
    refine foL (xs := [.int 200, .int 6]) (SqL.of h_q) (fun j σ G => ∃ u3 u4 u5 u6 u7, σ = [some (.ref l), some (.int i), some (.ref f), u3, u4, u5, u6, u7] ∧ Same H G ∧ FeedAt G f ∧ G q = some (.lst [.int 200, .int 6])) ⟨_, _, _, _, _, rfl, (s.trans s1).trans s_G2, f1.ext s_G2, h_q⟩ (fun j σ G _ ⟨_, _, _, _, _, _, _, _, z⟩ => SqL.of z) (fun j x σ G hj hx ⟨u3, u4, u5, u6, u7, e, s, fd, hq⟩ => ?_) (fun σ G ⟨u3, u4, u5, u6, u7, e, s, fd, hq⟩ => ⟨_, _, _, _, _, _, _, e, s⟩)
    subst e
    have hm : ∃ most : Int, x = V.int most ∧ 1 ≤ most ∧ most ≤ 200 := by
      have hj' : j = 0 ∨ j = 1 := by
        have : j < 2 := hj
        omega
      rcases hj' with rfl | rfl
      · exact ⟨200, (Option.some.inj hx).symm, by decide, by decide⟩
      · exact ⟨6, (Option.some.inj hx).symm, by decide, by decide⟩
    obtain ⟨most, rfl, m1, m2⟩ := hm
    wtm_at "go"
    refine ⟨f, 7, rfl, fd, by decide, by decide, fun G3 w w0 w7 b3 f3 => ?_⟩
    wtm_at "go"
    refine ⟨f, w, most, rfl, f3, w0, by omega, m1, m2, fun G5 b5 f5 => ?_⟩
    wtm_at "go"
    exact ⟨_, _, _, _, _, rfl, But.same (But.trans b3 b5) s hf0, f5, b5 _ _ hqf (b3 _ _ hqf hq)⟩
  · subst e
    wtm_at "go"
    refine ⟨by wtm_at "sz", fun pr n_pr => ?_⟩
    generalize e_G1 : upd _ pr _ = G1
    have s_G1 := same_upd n_pr e_G1
    have h_pr := upd_at e_G1
    clear e_G1
    wtm_at "go"
    refine foR2 ⟨by decide, by decide, by decide, by decide⟩ (fun n σ G => ∃ u1 u2 u3 u5 u6 u7 p, σ = [some (.ref l), u1, u2, u3, some (.ref p), u5, u6, u7] ∧ PL G p (prs n)) ⟨_, _, _, _, _, _, pr, rfl, [], h_pr, .nil⟩ (fun n σ G hn6 ⟨u1, u2, u3, u5, u6, u7, p, e, hp⟩ => ?_) (fun σ G ⟨u1, u2, u3, u5, u6, u7, p, e, hp⟩ => ?_)
    · subst e
      have hn6' : n < 6 := hn6
      have hpl := prs_len n
      wtm_at "go"
      refine lcR ⟨by decide, by decide⟩ (fun i acc G' => Prs G' acc ((List.range i).map (fun (i : Nat) => ((i : Int), ((i : Int) + (1 + (n : Int))) % 64)))) (fun _ _ => .nil) (fun i G' D hi ⟨acc, hD, ha, s2, nD, e⟩ => ?_) (fun acc G' D s2 nD hD ha e => ?_)
      · have hi' : i < 64 := hi
        wtm_at "go"
        refine ⟨by wtm_at "sz", fun t n_t => ?_⟩
        generalize e_G3 : upd _ t _ = G3
        have s_G3 := same_upd n_t e_G3
        have h_t := upd_at e_G3
        clear e_G3
        exact lcT hD ha (by have := line_big; omega) s2 nD s_G3 fun H5 b5 hD5 => by
          show Prs H5 _ ((List.range (i + 1)).map _)
          rw [List.range_succ, List.map_append]
          exact Prs.app (b5.prs hD5 (Prs.ext e s_G3)) (.cons ⟨_, rfl, b5 _ _ (ne_tup_lst h_t hD5) h_t⟩ .nil)
      · have e' : Prs G' acc (rnd n) := e
        have hrl := rnd_len n
        refine e_cat (hp.ext s2) ⟨acc, hD, e'⟩ (by omega) fun G4 x s4 nx px => ?_
        wtm_at "go"
        exact ⟨_, _, _, _, _, _, x, rfl, px⟩
    · subst e
      have hp6 : PL G p (prs 6) := hp
      clear hp
      obtain ⟨xs, hx, px⟩ := hp6
      have nxs : xs.length = 384 := px.length
      have cA : cutV xs none (some 200) = xs.take 200 := by
        unfold cutV
        rw [nxs]
        rfl
      have cB : cutV xs (some 184) none = xs.drop 184 := by
        unfold cutV
        rw [nxs]
        exact List.take_of_length_le (by rw [List.length_drop, nxs]; decide)
      have hv : ∀ p ∈ prs 6, isRes 6 p = true := fun p hp => by
        have := List.all_eq_true.mp prs_ok p hp
        simp only [Bool.and_eq_true, Bool.not_eq_true', decide_eq_true_eq, decide_eq_false_iff_not] at this
        obtain ⟨v0, ⟨v1, v2⟩, v3, v4⟩ := this
        exact isRes_of (M := 64) (by decide) v1 v2 v3 v4 v0
      wtm_at "go"
      refine ⟨p, xs, rfl, .of hx, fun A nA => ?_⟩
      generalize e_G2 : upd _ A _ = G2
      have s_G2 := same_upd nA e_G2
      have h_A := upd_at e_G2
      clear e_G2
      rw [cA] at h_A
      wtm_at "go"
      refine ⟨by wtm_at "sz", fun qa n_qa => ?_⟩
      generalize e_G3 : upd _ qa _ = G3
      have s_G3 := same_upd n_qa e_G3
      have h_qa := upd_at e_G3
      clear e_G3
      wtm_at "go"
      refine fun tA dx nt nd _ => ?_
      have up := made_up (o := .own tA) (o' := .ins a.C_Talk dx []) nt nd
      have nA2 : ((prs 6).take 200).length = 200 := by rw [List.length_take, prs_len]; rfl
      have nB2 : ((prs 6).drop 184).length = 200 := by rw [List.length_drop, prs_len]
      refine ⟨tA, dx, A, qa, 6, (prs 6).take 200, [], rfl, upd_same, PL.ext ⟨_, s_G3 _ _ h_A, (px.take 200).ext (s_G2.trans s_G3)⟩ up, PL.ext ⟨[], h_qa, .nil⟩ up, by rw [nA2]; decide, by decide, by decide, by decide, fun p hp => hv p (List.mem_of_mem_take hp), (fun p h => by cases h), fun G4 rA cA' b4 nr nc TA => ⟨rfl, ?_⟩⟩
      have s4 := made_same nt nd b4
      have s04 := (s_G2.trans s_G3).trans s4
      wtm_at "go"
      refine ⟨p, xs, rfl, .of (s04 _ _ hx), fun B nB => ?_⟩
      generalize e_G5 : upd _ B _ = G5
      have s_G5 := same_upd nB e_G5
      have h_B := upd_at e_G5
      clear e_G5
      rw [cB] at h_B
      wtm_at "go"
      refine ⟨by wtm_at "sz", fun pp n_pp => ?_⟩
      generalize e_G6 : upd _ pp _ = G6
      have s_G6 := same_upd n_pp e_G6
      have h_pp := upd_at e_G6
      clear e_G6
      wtm_at "go"
      refine ⟨by wtm_at "sz", fun qb n_qb => ?_⟩
      generalize e_G7 : upd _ qb _ = G7
      have s_G7 := same_upd n_qb e_G7
      have h_qb := upd_at e_G7
      clear e_G7
      wtm_at "go"
      refine fun tB dx' nt' nd' _ => ?_
      have up' := made_up (o := .own tB) (o' := .ins a.C_Talk dx' []) nt' nd'
      have s57 := s_G6.trans s_G7
      have s07 := (s04.trans s_G5).trans s57
      refine ⟨tB, dx', B, qb, 6, (prs 6).drop 184, [(0, 6)], rfl, upd_same, PL.ext ⟨_, s57 _ _ h_B, (px.drop 184).ext s07⟩ up', PL.ext ⟨_, h_qb, .cons ⟨pp, rfl, s_G7 _ _ h_pp⟩ .nil⟩ up', by rw [nB2]; decide, by decide, by decide, by decide, fun p hp => hv p (List.mem_of_mem_drop hp), by decide, fun G8 rB cB' b8 nr' nc' TB => ⟨rfl, ?_⟩⟩
      have s8 := made_same nt' nd' b8
      have s08 := s07.trans s8
      have TA8 := TA.ext ((s_G5.trans s57).trans s8)
      wtm_at "go"
      have lA := pset_len ((prs 6).take 200)
      have lB := pset_len ((prs 6).drop 184)
      refine e_addO TA8 TB (by decide) (by decide) (by omega) (by decide) fun G9 t r c s9 nt9 TW => ?_
      have nd6 : (prs 6).Nodup := (List.nodup_append.mp prs_nodup).1
      have eA : pset (pset ((prs 6).take 200) ++ pset ((prs 6).drop 184)) = psort (prs 6) := by
        rw [psA, psort_nodup nd6]
        exact pset_congr (cover (by decide))
      have eG : gcl (gcl [] ++ gcl [(0, 6)]) = [(0, 6)] := by decide
      rw [eA, eG] at TW
      have lenP : (psort (prs 6)).length = 384 := (psort_perm _).length_eq.trans (prs_len 6)
      obtain ⟨dw, fs, e1, _, _, _, _, e6⟩ := id TW.at_
      wtm_at "go"
      refine ⟨t, dw, fs, rfl, e1, t, r, c, 6, _, _, rfl, TW, by rw [lenP]; decide, fun Ga sa => ⟨_, rfl, by omega, by rw [lenP]; decide, ?_⟩⟩
      have en : V.int (((psort (prs 6)).length + [((0 : Int), (6 : Int))].length : Nat) : Int) = V.int 385 := by rw [lenP]; rfl
      wtm_at "go"
      refine iteYes en ?_
      wtm_at "go"
      refine ⟨t, dw, fs, rfl, sa _ _ e1, t, r, c, 6, _, _, rfl, TW.ext sa, fun Gb y sb ny hy => ?_⟩
      wtm_at "go"
      have s0b := ((s08.trans s9).trans sa).trans sb
      refine ⟨p, xs, prs 6, rfl, .of (s0b _ _ hx), px.ext s0b, fun z zs nz hz => ?_⟩
      generalize e_Gc : upd _ z _ = Gc
      have s_Gc := same_upd nz e_Gc
      have h_z := upd_at e_Gc
      clear e_Gc
      wtm_at "go"
      refine ⟨_, _, (hy.ext s_Gc).dp, PL.dp ⟨zs, h_z, hz.ext s_Gc⟩, dL_shaped _, dL_shaped _, ?_⟩
      rw [dL_eqv]
      wtm_at "go"
      refine iteYes rfl ?_
      have sac := (sa.trans sb).trans s_Gc
      wtm_at "go"
      refine ⟨t, dw, fs, rfl, sac _ _ e1, e6 _ (by decide) (by decide) (by decide), ?_⟩
      wtm_at "go"
      refine ⟨t, r, c, 6, _, _, 0, 63, rfl, TW.ext sac, by decide, by decide, by decide, by rw [lenP]; decide, by decide, fun Gd t' r' c' sd nt' T' => ?_⟩
      have pm : (psort (prs 6) ++ [(0, 63)]).Perm (prs 6 ++ [(0, 63)]) := (psort_perm _).append_right _
      have lenQ : (pset (psort (prs 6) ++ [(0, 63)])).length = 385 := by
        rw [← psort_nodup (pm.nodup_iff.mpr prs_nodup), (psort_perm _).length_eq, List.length_append, lenP]
        rfl
      have eG2 : gcl ([(0, 6)] ++ []) = [(0, 6)] := by decide
      rw [eG2] at T'
      obtain ⟨dw', fs', e1', _⟩ := id T'.at_
      wtm_at "go"
      refine ⟨t', dw', fs', rfl, e1', t', r', c', 6, _, _, rfl, T', by rw [lenQ]; decide, fun Ge se => ⟨_, rfl, by omega, by rw [lenQ]; decide, ?_⟩⟩
      have en2 : V.int (((pset (psort (prs 6) ++ [(0, 63)])).length + [((0 : Int), (6 : Int))].length : Nat) : Int) = V.int 386 := by rw [lenQ]; rfl
      wtm_at "go"
      rw [decide_eq_true en2]
      exact k Ge
end
end Ct
end
set_option Elab.async false
set_option linter.all false
set_option maxRecDepth 100000
set_option maxHeartbeats 16000000
namespace Ct
open PySem PySem.Spec L2 StX
theorem all_mk {l : PySem.W.OpenLaw} {w : World} {K : PySem.W.Frag} {h : Heap} {mg : Str → Option Value} {fa : Addr} (X : K.In h) (G : h.Ns mainGlobals mg) (hfa : mg "law" = some (.ref fa))
    {C_Talk f_is_integer f_is_size f_is_player f_is_number f_is_pair f_is_result f_is_claim f_is_short_list f_check_size f_check_results f_check_claims f_greatest_claims f_Talk___init__ f_Talk_size p_Talk_size f_Talk_results p_Talk_results f_Talk_claims p_Talk_claims f_Talk___len__ f_Talk___eq__ f_check_player f_check_number f_Talk__with_more f_Talk___add__ f_Talk_with_result f_Talk_with_claim f_law_feed f_law_pick f_law_players f_law_pair f_law_items f_law_plain f_law_are f_law_more_right f_law_right f_law : Addr}
    {od_is_integer an_is_integer : Option Addr} {sl_is_integer : Array (Option Value)} {oc_is_integer kV_is_integer dc_is_integer pm_is_integer cd_is_integer ct_is_integer : Value}
    {od_is_size an_is_size : Option Addr} {sl_is_size : Array (Option Value)} {oc_is_size kV_is_size dc_is_size pm_is_size cd_is_size ct_is_size : Value}
    {od_is_player an_is_player : Option Addr} {sl_is_player : Array (Option Value)} {oc_is_player kV_is_player dc_is_player pm_is_player cd_is_player ct_is_player : Value}
    {od_is_number an_is_number : Option Addr} {sl_is_number : Array (Option Value)} {oc_is_number kV_is_number dc_is_number pm_is_number cd_is_number ct_is_number : Value}
    {od_is_pair an_is_pair : Option Addr} {sl_is_pair : Array (Option Value)} {oc_is_pair kV_is_pair dc_is_pair pm_is_pair cd_is_pair ct_is_pair : Value}
    {od_is_result an_is_result : Option Addr} {sl_is_result : Array (Option Value)} {oc_is_result kV_is_result dc_is_result pm_is_result cd_is_result ct_is_result : Value}
    {od_is_claim an_is_claim : Option Addr} {sl_is_claim : Array (Option Value)} {oc_is_claim kV_is_claim dc_is_claim pm_is_claim cd_is_claim ct_is_claim : Value}
    {od_is_short_list an_is_short_list : Option Addr} {sl_is_short_list : Array (Option Value)} {oc_is_short_list kV_is_short_list dc_is_short_list pm_is_short_list cd_is_short_list ct_is_short_list : Value}
    {od_check_size an_check_size : Option Addr} {sl_check_size : Array (Option Value)} {oc_check_size kV_check_size dc_check_size pm_check_size cd_check_size ct_check_size : Value}
    {od_check_results an_check_results : Option Addr} {sl_check_results : Array (Option Value)} {oc_check_results kV_check_results dc_check_results pm_check_results cd_check_results ct_check_results : Value}
    {od_check_claims an_check_claims : Option Addr} {sl_check_claims : Array (Option Value)} {oc_check_claims kV_check_claims dc_check_claims pm_check_claims cd_check_claims ct_check_claims : Value}
    {od_greatest_claims an_greatest_claims : Option Addr} {sl_greatest_claims : Array (Option Value)} {oc_greatest_claims kV_greatest_claims dc_greatest_claims pm_greatest_claims cd_greatest_claims ct_greatest_claims : Value}
    {od_Talk___init__ an_Talk___init__ : Option Addr} {sl_Talk___init__ : Array (Option Value)} {oc_Talk___init__ kV_Talk___init__ dc_Talk___init__ pm_Talk___init__ cd_Talk___init__ ct_Talk___init__ : Value}
    {rs_Talk_size : List Value}
    {od_Talk_size an_Talk_size : Option Addr} {sl_Talk_size : Array (Option Value)} {oc_Talk_size kV_Talk_size dc_Talk_size pm_Talk_size cd_Talk_size ct_Talk_size : Value}
    {rs_Talk_results : List Value}
    {od_Talk_results an_Talk_results : Option Addr} {sl_Talk_results : Array (Option Value)} {oc_Talk_results kV_Talk_results dc_Talk_results pm_Talk_results cd_Talk_results ct_Talk_results : Value}
    {rs_Talk_claims : List Value}
    {od_Talk_claims an_Talk_claims : Option Addr} {sl_Talk_claims : Array (Option Value)} {oc_Talk_claims kV_Talk_claims dc_Talk_claims pm_Talk_claims cd_Talk_claims ct_Talk_claims : Value}
    {od_Talk___len__ an_Talk___len__ : Option Addr} {sl_Talk___len__ : Array (Option Value)} {oc_Talk___len__ kV_Talk___len__ dc_Talk___len__ pm_Talk___len__ cd_Talk___len__ ct_Talk___len__ : Value}
    {od_Talk___eq__ an_Talk___eq__ : Option Addr} {sl_Talk___eq__ : Array (Option Value)} {oc_Talk___eq__ kV_Talk___eq__ dc_Talk___eq__ pm_Talk___eq__ cd_Talk___eq__ ct_Talk___eq__ : Value}
    {od_check_player an_check_player : Option Addr} {sl_check_player : Array (Option Value)} {oc_check_player kV_check_player dc_check_player pm_check_player cd_check_player ct_check_player : Value}
    {od_check_number an_check_number : Option Addr} {sl_check_number : Array (Option Value)} {oc_check_number kV_check_number dc_check_number pm_check_number cd_check_number ct_check_number : Value}
    {od_Talk__with_more an_Talk__with_more : Option Addr} {sl_Talk__with_more : Array (Option Value)} {oc_Talk__with_more kV_Talk__with_more dc_Talk__with_more pm_Talk__with_more cd_Talk__with_more ct_Talk__with_more : Value}
    {od_Talk___add__ an_Talk___add__ : Option Addr} {sl_Talk___add__ : Array (Option Value)} {oc_Talk___add__ kV_Talk___add__ dc_Talk___add__ pm_Talk___add__ cd_Talk___add__ ct_Talk___add__ : Value}
    {od_Talk_with_result an_Talk_with_result : Option Addr} {sl_Talk_with_result : Array (Option Value)} {oc_Talk_with_result kV_Talk_with_result dc_Talk_with_result pm_Talk_with_result cd_Talk_with_result ct_Talk_with_result : Value}
    {od_Talk_with_claim an_Talk_with_claim : Option Addr} {sl_Talk_with_claim : Array (Option Value)} {oc_Talk_with_claim kV_Talk_with_claim dc_Talk_with_claim pm_Talk_with_claim cd_Talk_with_claim ct_Talk_with_claim : Value}
    {od_law_feed an_law_feed : Option Addr} {sl_law_feed : Array (Option Value)} {oc_law_feed kV_law_feed dc_law_feed pm_law_feed cd_law_feed ct_law_feed : Value}
    {od_law_pick an_law_pick : Option Addr} {sl_law_pick : Array (Option Value)} {oc_law_pick kV_law_pick dc_law_pick pm_law_pick cd_law_pick ct_law_pick : Value}
    {od_law_players an_law_players : Option Addr} {sl_law_players : Array (Option Value)} {oc_law_players kV_law_players dc_law_players pm_law_players cd_law_players ct_law_players : Value}
    {od_law_pair an_law_pair : Option Addr} {sl_law_pair : Array (Option Value)} {oc_law_pair kV_law_pair dc_law_pair pm_law_pair cd_law_pair ct_law_pair : Value}
    {od_law_items an_law_items : Option Addr} {sl_law_items : Array (Option Value)} {oc_law_items kV_law_items dc_law_items pm_law_items cd_law_items ct_law_items : Value}
    {od_law_plain an_law_plain : Option Addr} {sl_law_plain : Array (Option Value)} {oc_law_plain kV_law_plain dc_law_plain pm_law_plain cd_law_plain ct_law_plain : Value}
    {od_law_are an_law_are : Option Addr} {sl_law_are : Array (Option Value)} {oc_law_are kV_law_are dc_law_are pm_law_are cd_law_are ct_law_are : Value}
    {od_law_more_right an_law_more_right : Option Addr} {sl_law_more_right : Array (Option Value)} {oc_law_more_right kV_law_more_right dc_law_more_right pm_law_more_right cd_law_more_right ct_law_more_right : Value}
    {od_law_right an_law_right : Option Addr} {sl_law_right : Array (Option Value)} {oc_law_right kV_law_right dc_law_right pm_law_right cd_law_right ct_law_right : Value}
    {od_law an_law : Option Addr} {sl_law : Array (Option Value)} {oc_law kV_law dc_law pm_law cd_law ct_law : Value}
    {tk_LARGEST_SIZE : Tok}
    {tk_MOST_ITEMS : Tok}
    (aC_Talk : PySem.W.nsIn K mainGlobals "Talk" = some (some (.ref C_Talk)))
    (a_is_integer : PySem.W.nsIn K mainGlobals "is_integer" = some (some (.ref f_is_integer)))
    (l_is_integer : K.lookup f_is_integer = some ⟨oc_is_integer, od_is_integer, .func (PySem.W.fnOf "is_integer" "is_integer" (defArgs s_is_integer) (defBody s_is_integer) (defScope s_is_integer) .none kV_is_integer dc_is_integer pm_is_integer an_is_integer cd_is_integer ct_is_integer), sl_is_integer⟩)
    (c_is_integer : PySem.W.codeIn K cd_is_integer "is_integer" = true)
    (k_is_integer : PySem.W.keepIn K (.ref f_is_integer) = true)
    (a_is_size : PySem.W.nsIn K mainGlobals "is_size" = some (some (.ref f_is_size)))
    (l_is_size : K.lookup f_is_size = some ⟨oc_is_size, od_is_size, .func (PySem.W.fnOf "is_size" "is_size" (defArgs s_is_size) (defBody s_is_size) (defScope s_is_size) .none kV_is_size dc_is_size pm_is_size an_is_size cd_is_size ct_is_size), sl_is_size⟩)
    (c_is_size : PySem.W.codeIn K cd_is_size "is_size" = true)
    (k_is_size : PySem.W.keepIn K (.ref f_is_size) = true)
    (a_is_player : PySem.W.nsIn K mainGlobals "is_player" = some (some (.ref f_is_player)))
    (l_is_player : K.lookup f_is_player = some ⟨oc_is_player, od_is_player, .func (PySem.W.fnOf "is_player" "is_player" (defArgs s_is_player) (defBody s_is_player) (defScope s_is_player) .none kV_is_player dc_is_player pm_is_player an_is_player cd_is_player ct_is_player), sl_is_player⟩)
    (c_is_player : PySem.W.codeIn K cd_is_player "is_player" = true)
    (k_is_player : PySem.W.keepIn K (.ref f_is_player) = true)
    (a_is_number : PySem.W.nsIn K mainGlobals "is_number" = some (some (.ref f_is_number)))
    (l_is_number : K.lookup f_is_number = some ⟨oc_is_number, od_is_number, .func (PySem.W.fnOf "is_number" "is_number" (defArgs s_is_number) (defBody s_is_number) (defScope s_is_number) .none kV_is_number dc_is_number pm_is_number an_is_number cd_is_number ct_is_number), sl_is_number⟩)
    (c_is_number : PySem.W.codeIn K cd_is_number "is_number" = true)
    (k_is_number : PySem.W.keepIn K (.ref f_is_number) = true)
    (a_is_pair : PySem.W.nsIn K mainGlobals "is_pair" = some (some (.ref f_is_pair)))
    (l_is_pair : K.lookup f_is_pair = some ⟨oc_is_pair, od_is_pair, .func (PySem.W.fnOf "is_pair" "is_pair" (defArgs s_is_pair) (defBody s_is_pair) (defScope s_is_pair) .none kV_is_pair dc_is_pair pm_is_pair an_is_pair cd_is_pair ct_is_pair), sl_is_pair⟩)
    (c_is_pair : PySem.W.codeIn K cd_is_pair "is_pair" = true)
    (k_is_pair : PySem.W.keepIn K (.ref f_is_pair) = true)
    (a_is_result : PySem.W.nsIn K mainGlobals "is_result" = some (some (.ref f_is_result)))
    (l_is_result : K.lookup f_is_result = some ⟨oc_is_result, od_is_result, .func (PySem.W.fnOf "is_result" "is_result" (defArgs s_is_result) (defBody s_is_result) (defScope s_is_result) .none kV_is_result dc_is_result pm_is_result an_is_result cd_is_result ct_is_result), sl_is_result⟩)
    (c_is_result : PySem.W.codeIn K cd_is_result "is_result" = true)
    (k_is_result : PySem.W.keepIn K (.ref f_is_result) = true)
    (a_is_claim : PySem.W.nsIn K mainGlobals "is_claim" = some (some (.ref f_is_claim)))
    (l_is_claim : K.lookup f_is_claim = some ⟨oc_is_claim, od_is_claim, .func (PySem.W.fnOf "is_claim" "is_claim" (defArgs s_is_claim) (defBody s_is_claim) (defScope s_is_claim) .none kV_is_claim dc_is_claim pm_is_claim an_is_claim cd_is_claim ct_is_claim), sl_is_claim⟩)
    (c_is_claim : PySem.W.codeIn K cd_is_claim "is_claim" = true)
    (k_is_claim : PySem.W.keepIn K (.ref f_is_claim) = true)
    (a_is_short_list : PySem.W.nsIn K mainGlobals "is_short_list" = some (some (.ref f_is_short_list)))
    (l_is_short_list : K.lookup f_is_short_list = some ⟨oc_is_short_list, od_is_short_list, .func (PySem.W.fnOf "is_short_list" "is_short_list" (defArgs s_is_short_list) (defBody s_is_short_list) (defScope s_is_short_list) .none kV_is_short_list dc_is_short_list pm_is_short_list an_is_short_list cd_is_short_list ct_is_short_list), sl_is_short_list⟩)
    (c_is_short_list : PySem.W.codeIn K cd_is_short_list "is_short_list" = true)
    (k_is_short_list : PySem.W.keepIn K (.ref f_is_short_list) = true)
    (a_check_size : PySem.W.nsIn K mainGlobals "check_size" = some (some (.ref f_check_size)))
    (l_check_size : K.lookup f_check_size = some ⟨oc_check_size, od_check_size, .func (PySem.W.fnOf "check_size" "check_size" (defArgs s_check_size) (defBody s_check_size) (defScope s_check_size) .none kV_check_size dc_check_size pm_check_size an_check_size cd_check_size ct_check_size), sl_check_size⟩)
    (c_check_size : PySem.W.codeIn K cd_check_size "check_size" = true)
    (k_check_size : PySem.W.keepIn K (.ref f_check_size) = true)
    (a_check_results : PySem.W.nsIn K mainGlobals "check_results" = some (some (.ref f_check_results)))
    (l_check_results : K.lookup f_check_results = some ⟨oc_check_results, od_check_results, .func (PySem.W.fnOf "check_results" "check_results" (defArgs s_check_results) (defBody s_check_results) (defScope s_check_results) .none kV_check_results dc_check_results pm_check_results an_check_results cd_check_results ct_check_results), sl_check_results⟩)
    (c_check_results : PySem.W.codeIn K cd_check_results "check_results" = true)
    (k_check_results : PySem.W.keepIn K (.ref f_check_results) = true)
    (a_check_claims : PySem.W.nsIn K mainGlobals "check_claims" = some (some (.ref f_check_claims)))
    (l_check_claims : K.lookup f_check_claims = some ⟨oc_check_claims, od_check_claims, .func (PySem.W.fnOf "check_claims" "check_claims" (defArgs s_check_claims) (defBody s_check_claims) (defScope s_check_claims) .none kV_check_claims dc_check_claims pm_check_claims an_check_claims cd_check_claims ct_check_claims), sl_check_claims⟩)
    (c_check_claims : PySem.W.codeIn K cd_check_claims "check_claims" = true)
    (k_check_claims : PySem.W.keepIn K (.ref f_check_claims) = true)
    (a_greatest_claims : PySem.W.nsIn K mainGlobals "greatest_claims" = some (some (.ref f_greatest_claims)))
    (l_greatest_claims : K.lookup f_greatest_claims = some ⟨oc_greatest_claims, od_greatest_claims, .func (PySem.W.fnOf "greatest_claims" "greatest_claims" (defArgs s_greatest_claims) (defBody s_greatest_claims) (defScope s_greatest_claims) .none kV_greatest_claims dc_greatest_claims pm_greatest_claims an_greatest_claims cd_greatest_claims ct_greatest_claims), sl_greatest_claims⟩)
    (c_greatest_claims : PySem.W.codeIn K cd_greatest_claims "greatest_claims" = true)
    (k_greatest_claims : PySem.W.keepIn K (.ref f_greatest_claims) = true)
    (a_Talk___init__ : PySem.W.findIn K (.ref C_Talk) "__init__" = some (some (.ref f_Talk___init__)))
    (i_Talk___init__ : PySem.W.isFn K (.ref f_Talk___init__) = true)
    (l_Talk___init__ : K.lookup f_Talk___init__ = some ⟨oc_Talk___init__, od_Talk___init__, .func (PySem.W.fnOf "__init__" "Talk.__init__" (defArgs s_Talk___init__) (defBody s_Talk___init__) (defScope s_Talk___init__) .none kV_Talk___init__ dc_Talk___init__ pm_Talk___init__ an_Talk___init__ cd_Talk___init__ ct_Talk___init__), sl_Talk___init__⟩)
    (c_Talk___init__ : PySem.W.codeIn K cd_Talk___init__ "Talk.__init__" = true)
    (k_Talk___init__ : PySem.W.keepIn K (.ref f_Talk___init__) = true)
    (a_Talk_size : PySem.W.findIn K (.ref C_Talk) "size" = some (some (.ref p_Talk_size)))
    (g_Talk_size : PySem.W.specialIn K (.ref p_Talk_size) "__get__" = some (some (.builtin "property.__get__")))
    (t_Talk_size : PySem.W.takesIn K (.ref p_Talk_size) = some true)
    (r_Talk_size : PySem.W.recIn K p_Talk_size "property" = some (.ref f_Talk_size :: rs_Talk_size))
    (l_Talk_size : K.lookup f_Talk_size = some ⟨oc_Talk_size, od_Talk_size, .func (PySem.W.fnOf "size" "Talk.size" (defArgs s_Talk_size) (defBody s_Talk_size) (defScope s_Talk_size) .none kV_Talk_size dc_Talk_size pm_Talk_size an_Talk_size cd_Talk_size ct_Talk_size), sl_Talk_size⟩)
    (c_Talk_size : PySem.W.codeIn K cd_Talk_size "Talk.size" = true)
    (k_Talk_size : PySem.W.keepIn K (.ref f_Talk_size) = true)
    (a_Talk_results : PySem.W.findIn K (.ref C_Talk) "results" = some (some (.ref p_Talk_results)))
    (g_Talk_results : PySem.W.specialIn K (.ref p_Talk_results) "__get__" = some (some (.builtin "property.__get__")))
    (t_Talk_results : PySem.W.takesIn K (.ref p_Talk_results) = some true)
    (r_Talk_results : PySem.W.recIn K p_Talk_results "property" = some (.ref f_Talk_results :: rs_Talk_results))
    (l_Talk_results : K.lookup f_Talk_results = some ⟨oc_Talk_results, od_Talk_results, .func (PySem.W.fnOf "results" "Talk.results" (defArgs s_Talk_results) (defBody s_Talk_results) (defScope s_Talk_results) .none kV_Talk_results dc_Talk_results pm_Talk_results an_Talk_results cd_Talk_results ct_Talk_results), sl_Talk_results⟩)
    (c_Talk_results : PySem.W.codeIn K cd_Talk_results "Talk.results" = true)
    (k_Talk_results : PySem.W.keepIn K (.ref f_Talk_results) = true)
    (a_Talk_claims : PySem.W.findIn K (.ref C_Talk) "claims" = some (some (.ref p_Talk_claims)))
    (g_Talk_claims : PySem.W.specialIn K (.ref p_Talk_claims) "__get__" = some (some (.builtin "property.__get__")))
    (t_Talk_claims : PySem.W.takesIn K (.ref p_Talk_claims) = some true)
    (r_Talk_claims : PySem.W.recIn K p_Talk_claims "property" = some (.ref f_Talk_claims :: rs_Talk_claims))
    (l_Talk_claims : K.lookup f_Talk_claims = some ⟨oc_Talk_claims, od_Talk_claims, .func (PySem.W.fnOf "claims" "Talk.claims" (defArgs s_Talk_claims) (defBody s_Talk_claims) (defScope s_Talk_claims) .none kV_Talk_claims dc_Talk_claims pm_Talk_claims an_Talk_claims cd_Talk_claims ct_Talk_claims), sl_Talk_claims⟩)
    (c_Talk_claims : PySem.W.codeIn K cd_Talk_claims "Talk.claims" = true)
    (k_Talk_claims : PySem.W.keepIn K (.ref f_Talk_claims) = true)
    (a_Talk___len__ : PySem.W.findIn K (.ref C_Talk) "__len__" = some (some (.ref f_Talk___len__)))
    (i_Talk___len__ : PySem.W.isFn K (.ref f_Talk___len__) = true)
    (l_Talk___len__ : K.lookup f_Talk___len__ = some ⟨oc_Talk___len__, od_Talk___len__, .func (PySem.W.fnOf "__len__" "Talk.__len__" (defArgs s_Talk___len__) (defBody s_Talk___len__) (defScope s_Talk___len__) .none kV_Talk___len__ dc_Talk___len__ pm_Talk___len__ an_Talk___len__ cd_Talk___len__ ct_Talk___len__), sl_Talk___len__⟩)
    (c_Talk___len__ : PySem.W.codeIn K cd_Talk___len__ "Talk.__len__" = true)
    (k_Talk___len__ : PySem.W.keepIn K (.ref f_Talk___len__) = true)
    (a_Talk___eq__ : PySem.W.findIn K (.ref C_Talk) "__eq__" = some (some (.ref f_Talk___eq__)))
    (i_Talk___eq__ : PySem.W.isFn K (.ref f_Talk___eq__) = true)
    (l_Talk___eq__ : K.lookup f_Talk___eq__ = some ⟨oc_Talk___eq__, od_Talk___eq__, .func (PySem.W.fnOf "__eq__" "Talk.__eq__" (defArgs s_Talk___eq__) (defBody s_Talk___eq__) (defScope s_Talk___eq__) .none kV_Talk___eq__ dc_Talk___eq__ pm_Talk___eq__ an_Talk___eq__ cd_Talk___eq__ ct_Talk___eq__), sl_Talk___eq__⟩)
    (c_Talk___eq__ : PySem.W.codeIn K cd_Talk___eq__ "Talk.__eq__" = true)
    (k_Talk___eq__ : PySem.W.keepIn K (.ref f_Talk___eq__) = true)
    (a_check_player : PySem.W.nsIn K mainGlobals "check_player" = some (some (.ref f_check_player)))
    (l_check_player : K.lookup f_check_player = some ⟨oc_check_player, od_check_player, .func (PySem.W.fnOf "check_player" "check_player" (defArgs s_check_player) (defBody s_check_player) (defScope s_check_player) .none kV_check_player dc_check_player pm_check_player an_check_player cd_check_player ct_check_player), sl_check_player⟩)
    (c_check_player : PySem.W.codeIn K cd_check_player "check_player" = true)
    (k_check_player : PySem.W.keepIn K (.ref f_check_player) = true)
    (a_check_number : PySem.W.nsIn K mainGlobals "check_number" = some (some (.ref f_check_number)))
    (l_check_number : K.lookup f_check_number = some ⟨oc_check_number, od_check_number, .func (PySem.W.fnOf "check_number" "check_number" (defArgs s_check_number) (defBody s_check_number) (defScope s_check_number) .none kV_check_number dc_check_number pm_check_number an_check_number cd_check_number ct_check_number), sl_check_number⟩)
    (c_check_number : PySem.W.codeIn K cd_check_number "check_number" = true)
    (k_check_number : PySem.W.keepIn K (.ref f_check_number) = true)
    (a_Talk__with_more : PySem.W.findIn K (.ref C_Talk) "_with_more" = some (some (.ref f_Talk__with_more)))
    (i_Talk__with_more : PySem.W.isFn K (.ref f_Talk__with_more) = true)
    (l_Talk__with_more : K.lookup f_Talk__with_more = some ⟨oc_Talk__with_more, od_Talk__with_more, .func (PySem.W.fnOf "_with_more" "Talk._with_more" (defArgs s_Talk__with_more) (defBody s_Talk__with_more) (defScope s_Talk__with_more) .none kV_Talk__with_more dc_Talk__with_more pm_Talk__with_more an_Talk__with_more cd_Talk__with_more ct_Talk__with_more), sl_Talk__with_more⟩)
    (c_Talk__with_more : PySem.W.codeIn K cd_Talk__with_more "Talk._with_more" = true)
    (k_Talk__with_more : PySem.W.keepIn K (.ref f_Talk__with_more) = true)
    (a_Talk___add__ : PySem.W.findIn K (.ref C_Talk) "__add__" = some (some (.ref f_Talk___add__)))
    (i_Talk___add__ : PySem.W.isFn K (.ref f_Talk___add__) = true)
    (l_Talk___add__ : K.lookup f_Talk___add__ = some ⟨oc_Talk___add__, od_Talk___add__, .func (PySem.W.fnOf "__add__" "Talk.__add__" (defArgs s_Talk___add__) (defBody s_Talk___add__) (defScope s_Talk___add__) .none kV_Talk___add__ dc_Talk___add__ pm_Talk___add__ an_Talk___add__ cd_Talk___add__ ct_Talk___add__), sl_Talk___add__⟩)
    (c_Talk___add__ : PySem.W.codeIn K cd_Talk___add__ "Talk.__add__" = true)
    (k_Talk___add__ : PySem.W.keepIn K (.ref f_Talk___add__) = true)
    (a_Talk_with_result : PySem.W.findIn K (.ref C_Talk) "with_result" = some (some (.ref f_Talk_with_result)))
    (i_Talk_with_result : PySem.W.isFn K (.ref f_Talk_with_result) = true)
    (l_Talk_with_result : K.lookup f_Talk_with_result = some ⟨oc_Talk_with_result, od_Talk_with_result, .func (PySem.W.fnOf "with_result" "Talk.with_result" (defArgs s_Talk_with_result) (defBody s_Talk_with_result) (defScope s_Talk_with_result) .none kV_Talk_with_result dc_Talk_with_result pm_Talk_with_result an_Talk_with_result cd_Talk_with_result ct_Talk_with_result), sl_Talk_with_result⟩)
    (c_Talk_with_result : PySem.W.codeIn K cd_Talk_with_result "Talk.with_result" = true)
    (k_Talk_with_result : PySem.W.keepIn K (.ref f_Talk_with_result) = true)
    (a_Talk_with_claim : PySem.W.findIn K (.ref C_Talk) "with_claim" = some (some (.ref f_Talk_with_claim)))
    (i_Talk_with_claim : PySem.W.isFn K (.ref f_Talk_with_claim) = true)
    (l_Talk_with_claim : K.lookup f_Talk_with_claim = some ⟨oc_Talk_with_claim, od_Talk_with_claim, .func (PySem.W.fnOf "with_claim" "Talk.with_claim" (defArgs s_Talk_with_claim) (defBody s_Talk_with_claim) (defScope s_Talk_with_claim) .none kV_Talk_with_claim dc_Talk_with_claim pm_Talk_with_claim an_Talk_with_claim cd_Talk_with_claim ct_Talk_with_claim), sl_Talk_with_claim⟩)
    (c_Talk_with_claim : PySem.W.codeIn K cd_Talk_with_claim "Talk.with_claim" = true)
    (k_Talk_with_claim : PySem.W.keepIn K (.ref f_Talk_with_claim) = true)
    (a_law_feed : PySem.W.nsIn K mainGlobals "_law_feed" = some (some (.ref f_law_feed)))
    (l_law_feed : K.lookup f_law_feed = some ⟨oc_law_feed, od_law_feed, .func (PySem.W.fnOf "_law_feed" "_law_feed" (defArgs s_law_feed) (defBody s_law_feed) (defScope s_law_feed) .none kV_law_feed dc_law_feed pm_law_feed an_law_feed cd_law_feed ct_law_feed), sl_law_feed⟩)
    (c_law_feed : PySem.W.codeIn K cd_law_feed "_law_feed" = true)
    (k_law_feed : PySem.W.keepIn K (.ref f_law_feed) = true)
    (a_law_pick : PySem.W.nsIn K mainGlobals "_law_pick" = some (some (.ref f_law_pick)))
    (l_law_pick : K.lookup f_law_pick = some ⟨oc_law_pick, od_law_pick, .func (PySem.W.fnOf "_law_pick" "_law_pick" (defArgs s_law_pick) (defBody s_law_pick) (defScope s_law_pick) .none kV_law_pick dc_law_pick pm_law_pick an_law_pick cd_law_pick ct_law_pick), sl_law_pick⟩)
    (c_law_pick : PySem.W.codeIn K cd_law_pick "_law_pick" = true)
    (k_law_pick : PySem.W.keepIn K (.ref f_law_pick) = true)
    (a_law_players : PySem.W.nsIn K mainGlobals "_law_players" = some (some (.ref f_law_players)))
    (l_law_players : K.lookup f_law_players = some ⟨oc_law_players, od_law_players, .func (PySem.W.fnOf "_law_players" "_law_players" (defArgs s_law_players) (defBody s_law_players) (defScope s_law_players) .none kV_law_players dc_law_players pm_law_players an_law_players cd_law_players ct_law_players), sl_law_players⟩)
    (c_law_players : PySem.W.codeIn K cd_law_players "_law_players" = true)
    (k_law_players : PySem.W.keepIn K (.ref f_law_players) = true)
    (a_law_pair : PySem.W.nsIn K mainGlobals "_law_pair" = some (some (.ref f_law_pair)))
    (l_law_pair : K.lookup f_law_pair = some ⟨oc_law_pair, od_law_pair, .func (PySem.W.fnOf "_law_pair" "_law_pair" (defArgs s_law_pair) (defBody s_law_pair) (defScope s_law_pair) .none kV_law_pair dc_law_pair pm_law_pair an_law_pair cd_law_pair ct_law_pair), sl_law_pair⟩)
    (c_law_pair : PySem.W.codeIn K cd_law_pair "_law_pair" = true)
    (k_law_pair : PySem.W.keepIn K (.ref f_law_pair) = true)
    (a_law_items : PySem.W.nsIn K mainGlobals "_law_items" = some (some (.ref f_law_items)))
    (l_law_items : K.lookup f_law_items = some ⟨oc_law_items, od_law_items, .func (PySem.W.fnOf "_law_items" "_law_items" (defArgs s_law_items) (defBody s_law_items) (defScope s_law_items) .none kV_law_items dc_law_items pm_law_items an_law_items cd_law_items ct_law_items), sl_law_items⟩)
    (c_law_items : PySem.W.codeIn K cd_law_items "_law_items" = true)
    (k_law_items : PySem.W.keepIn K (.ref f_law_items) = true)
    (a_law_plain : PySem.W.nsIn K mainGlobals "_law_plain" = some (some (.ref f_law_plain)))
    (l_law_plain : K.lookup f_law_plain = some ⟨oc_law_plain, od_law_plain, .func (PySem.W.fnOf "_law_plain" "_law_plain" (defArgs s_law_plain) (defBody s_law_plain) (defScope s_law_plain) .none kV_law_plain dc_law_plain pm_law_plain an_law_plain cd_law_plain ct_law_plain), sl_law_plain⟩)
    (c_law_plain : PySem.W.codeIn K cd_law_plain "_law_plain" = true)
    (k_law_plain : PySem.W.keepIn K (.ref f_law_plain) = true)
    (a_law_are : PySem.W.nsIn K mainGlobals "_law_are" = some (some (.ref f_law_are)))
    (l_law_are : K.lookup f_law_are = some ⟨oc_law_are, od_law_are, .func (PySem.W.fnOf "_law_are" "_law_are" (defArgs s_law_are) (defBody s_law_are) (defScope s_law_are) .none kV_law_are dc_law_are pm_law_are an_law_are cd_law_are ct_law_are), sl_law_are⟩)
    (c_law_are : PySem.W.codeIn K cd_law_are "_law_are" = true)
    (k_law_are : PySem.W.keepIn K (.ref f_law_are) = true)
    (a_law_more_right : PySem.W.nsIn K mainGlobals "_law_more_right" = some (some (.ref f_law_more_right)))
    (l_law_more_right : K.lookup f_law_more_right = some ⟨oc_law_more_right, od_law_more_right, .func (PySem.W.fnOf "_law_more_right" "_law_more_right" (defArgs s_law_more_right) (defBody s_law_more_right) (defScope s_law_more_right) .none kV_law_more_right dc_law_more_right pm_law_more_right an_law_more_right cd_law_more_right ct_law_more_right), sl_law_more_right⟩)
    (c_law_more_right : PySem.W.codeIn K cd_law_more_right "_law_more_right" = true)
    (k_law_more_right : PySem.W.keepIn K (.ref f_law_more_right) = true)
    (a_law_right : PySem.W.nsIn K mainGlobals "_law_right" = some (some (.ref f_law_right)))
    (l_law_right : K.lookup f_law_right = some ⟨oc_law_right, od_law_right, .func (PySem.W.fnOf "_law_right" "_law_right" (defArgs s_law_right) (defBody s_law_right) (defScope s_law_right) .none kV_law_right dc_law_right pm_law_right an_law_right cd_law_right ct_law_right), sl_law_right⟩)
    (c_law_right : PySem.W.codeIn K cd_law_right "_law_right" = true)
    (k_law_right : PySem.W.keepIn K (.ref f_law_right) = true)
    (a_law : PySem.W.nsIn K mainGlobals "law" = some (some (.ref f_law)))
    (l_law : K.lookup f_law = some ⟨oc_law, od_law, .func (PySem.W.fnOf "law" "law" (defArgs s_law) (defBody s_law) (defScope s_law) .none kV_law dc_law pm_law an_law cd_law ct_law), sl_law⟩)
    (c_law : PySem.W.codeIn K cd_law "law" = true)
    (k_law : PySem.W.keepIn K (.ref f_law) = true)
    (pg_Talk : PySem.W.plainGet K C_Talk Str.empty = true)
    (hd_Talk : PySem.W.hasDictIn K C_Talk = true)
    (po_Talk : PySem.W.plainOver K C_Talk = true)
    (sa_Talk : PySem.W.findIn K (.ref C_Talk) "__setattr__" = some (some (.builtin "object.__setattr__")))
    (mk_Talk : PySem.W.makesIn K C_Talk = true)
    (kc_Talk : PySem.W.keepIn K (.ref C_Talk) = true)
    (x1_Talk : PySem.W.findIn K (.ref C_Talk) "__class__" = some (some (.builtin "object.__class__")))
    (x2_Talk : PySem.W.specialIn K (.builtin "object.__class__") "__get__" = some (some (.builtin "getset_descriptor.__get__")))
    (x3_Talk : PySem.W.takesIn K (.builtin "object.__class__") = some true)
    (x4_Talk : PySem.W.mroIn K C_Talk (.type "object") = some true)
    (sf_Talk : PySem.W.selfFirst K C_Talk = true)
    (c_LARGEST_SIZE : PySem.W.nsIn K mainGlobals "LARGEST_SIZE" = some (some (.int 6 tk_LARGEST_SIZE)))
    (c_MOST_ITEMS : PySem.W.nsIn K mainGlobals "MOST_ITEMS" = some (some (.int 200 tk_MOST_ITEMS)))
    (n_Talk__claims : PySem.W.findIn K (.ref C_Talk) "_claims" = some none)
    (n_Talk__results : PySem.W.findIn K (.ref C_Talk) "_results" = some none)
    (n_Talk__size : PySem.W.findIn K (.ref C_Talk) "_size" = some none)
    (z_abs : PySem.W.nsIn K mainGlobals "abs" = some none)
    (z_all : PySem.W.nsIn K mainGlobals "all" = some none)
    (z_bool : PySem.W.nsIn K mainGlobals "bool" = some none)
    (z_int : PySem.W.nsIn K mainGlobals "int" = some none)
    (z_isinstance : PySem.W.nsIn K mainGlobals "isinstance" = some none)
    (z_len : PySem.W.nsIn K mainGlobals "len" = some none)
    (z_list : PySem.W.nsIn K mainGlobals "list" = some none)
    (z_max : PySem.W.nsIn K mainGlobals "max" = some none)
    (z_min : PySem.W.nsIn K mainGlobals "min" = some none)
    (z_range : PySem.W.nsIn K mainGlobals "range" = some none)
    (z_repr : PySem.W.nsIn K mainGlobals "repr" = some none)
    (z_set : PySem.W.nsIn K mainGlobals "set" = some none)
    (z_sorted : PySem.W.nsIn K mainGlobals "sorted" = some none)
    (z_tuple : PySem.W.nsIn K mainGlobals "tuple" = some none) :
    ∃ fd : FuncData, (∀ (s : Shared) (v : Value), BindsTo s fd ⟨[v], []⟩ [("script", v)]) ∧ ∀ base : Heap, K.In base → base.Ns mainGlobals mg → FnG l.prog w K mg base 11 fa fd ["script"] (spLaw K) := by
  have e := hfa.symm.trans (PySem.W.mg_of X G a_law)
  cases e
  have T : Txt K mg { f_is_integer := f_is_integer, d_is_integer := PySem.W.fnOf "is_integer" "is_integer" (defArgs s_is_integer) (defBody s_is_integer) (defScope s_is_integer) .none kV_is_integer dc_is_integer pm_is_integer an_is_integer cd_is_integer ct_is_integer, f_is_size := f_is_size, d_is_size := PySem.W.fnOf "is_size" "is_size" (defArgs s_is_size) (defBody s_is_size) (defScope s_is_size) .none kV_is_size dc_is_size pm_is_size an_is_size cd_is_size ct_is_size, f_is_player := f_is_player, d_is_player := PySem.W.fnOf "is_player" "is_player" (defArgs s_is_player) (defBody s_is_player) (defScope s_is_player) .none kV_is_player dc_is_player pm_is_player an_is_player cd_is_player ct_is_player, f_is_number := f_is_number, d_is_number := PySem.W.fnOf "is_number" "is_number" (defArgs s_is_number) (defBody s_is_number) (defScope s_is_number) .none kV_is_number dc_is_number pm_is_number an_is_number cd_is_number ct_is_number, f_is_pair := f_is_pair, d_is_pair := PySem.W.fnOf "is_pair" "is_pair" (defArgs s_is_pair) (defBody s_is_pair) (defScope s_is_pair) .none kV_is_pair dc_is_pair pm_is_pair an_is_pair cd_is_pair ct_is_pair, f_is_result := f_is_result, d_is_result := PySem.W.fnOf "is_result" "is_result" (defArgs s_is_result) (defBody s_is_result) (defScope s_is_result) .none kV_is_result dc_is_result pm_is_result an_is_result cd_is_result ct_is_result, f_is_claim := f_is_claim, d_is_claim := PySem.W.fnOf "is_claim" "is_claim" (defArgs s_is_claim) (defBody s_is_claim) (defScope s_is_claim) .none kV_is_claim dc_is_claim pm_is_claim an_is_claim cd_is_claim ct_is_claim, f_is_short_list := f_is_short_list, d_is_short_list := PySem.W.fnOf "is_short_list" "is_short_list" (defArgs s_is_short_list) (defBody s_is_short_list) (defScope s_is_short_list) .none kV_is_short_list dc_is_short_list pm_is_short_list an_is_short_list cd_is_short_list ct_is_short_list, f_check_size := f_check_size, d_check_size := PySem.W.fnOf "check_size" "check_size" (defArgs s_check_size) (defBody s_check_size) (defScope s_check_size) .none kV_check_size dc_check_size pm_check_size an_check_size cd_check_size ct_check_size, f_check_results := f_check_results, d_check_results := PySem.W.fnOf "check_results" "check_results" (defArgs s_check_results) (defBody s_check_results) (defScope s_check_results) .none kV_check_results dc_check_results pm_check_results an_check_results cd_check_results ct_check_results, f_check_claims := f_check_claims, d_check_claims := PySem.W.fnOf "check_claims" "check_claims" (defArgs s_check_claims) (defBody s_check_claims) (defScope s_check_claims) .none kV_check_claims dc_check_claims pm_check_claims an_check_claims cd_check_claims ct_check_claims, f_greatest_claims := f_greatest_claims, d_greatest_claims := PySem.W.fnOf "greatest_claims" "greatest_claims" (defArgs s_greatest_claims) (defBody s_greatest_claims) (defScope s_greatest_claims) .none kV_greatest_claims dc_greatest_claims pm_greatest_claims an_greatest_claims cd_greatest_claims ct_greatest_claims, f_Talk___init__ := f_Talk___init__, d_Talk___init__ := PySem.W.fnOf "__init__" "Talk.__init__" (defArgs s_Talk___init__) (defBody s_Talk___init__) (defScope s_Talk___init__) .none kV_Talk___init__ dc_Talk___init__ pm_Talk___init__ an_Talk___init__ cd_Talk___init__ ct_Talk___init__, f_Talk_size := f_Talk_size, d_Talk_size := PySem.W.fnOf "size" "Talk.size" (defArgs s_Talk_size) (defBody s_Talk_size) (defScope s_Talk_size) .none kV_Talk_size dc_Talk_size pm_Talk_size an_Talk_size cd_Talk_size ct_Talk_size, f_Talk_results := f_Talk_results, d_Talk_results := PySem.W.fnOf "results" "Talk.results" (defArgs s_Talk_results) (defBody s_Talk_results) (defScope s_Talk_results) .none kV_Talk_results dc_Talk_results pm_Talk_results an_Talk_results cd_Talk_results ct_Talk_results, f_Talk_claims := f_Talk_claims, d_Talk_claims := PySem.W.fnOf "claims" "Talk.claims" (defArgs s_Talk_claims) (defBody s_Talk_claims) (defScope s_Talk_claims) .none kV_Talk_claims dc_Talk_claims pm_Talk_claims an_Talk_claims cd_Talk_claims ct_Talk_claims, f_Talk___len__ := f_Talk___len__, d_Talk___len__ := PySem.W.fnOf "__len__" "Talk.__len__" (defArgs s_Talk___len__) (defBody s_Talk___len__) (defScope s_Talk___len__) .none kV_Talk___len__ dc_Talk___len__ pm_Talk___len__ an_Talk___len__ cd_Talk___len__ ct_Talk___len__, f_Talk___eq__ := f_Talk___eq__, d_Talk___eq__ := PySem.W.fnOf "__eq__" "Talk.__eq__" (defArgs s_Talk___eq__) (defBody s_Talk___eq__) (defScope s_Talk___eq__) .none kV_Talk___eq__ dc_Talk___eq__ pm_Talk___eq__ an_Talk___eq__ cd_Talk___eq__ ct_Talk___eq__, f_check_player := f_check_player, d_check_player := PySem.W.fnOf "check_player" "check_player" (defArgs s_check_player) (defBody s_check_player) (defScope s_check_player) .none kV_check_player dc_check_player pm_check_player an_check_player cd_check_player ct_check_player, f_check_number := f_check_number, d_check_number := PySem.W.fnOf "check_number" "check_number" (defArgs s_check_number) (defBody s_check_number) (defScope s_check_number) .none kV_check_number dc_check_number pm_check_number an_check_number cd_check_number ct_check_number, f_Talk__with_more := f_Talk__with_more, d_Talk__with_more := PySem.W.fnOf "_with_more" "Talk._with_more" (defArgs s_Talk__with_more) (defBody s_Talk__with_more) (defScope s_Talk__with_more) .none kV_Talk__with_more dc_Talk__with_more pm_Talk__with_more an_Talk__with_more cd_Talk__with_more ct_Talk__with_more, f_Talk___add__ := f_Talk___add__, d_Talk___add__ := PySem.W.fnOf "__add__" "Talk.__add__" (defArgs s_Talk___add__) (defBody s_Talk___add__) (defScope s_Talk___add__) .none kV_Talk___add__ dc_Talk___add__ pm_Talk___add__ an_Talk___add__ cd_Talk___add__ ct_Talk___add__, f_Talk_with_result := f_Talk_with_result, d_Talk_with_result := PySem.W.fnOf "with_result" "Talk.with_result" (defArgs s_Talk_with_result) (defBody s_Talk_with_result) (defScope s_Talk_with_result) .none kV_Talk_with_result dc_Talk_with_result pm_Talk_with_result an_Talk_with_result cd_Talk_with_result ct_Talk_with_result, f_Talk_with_claim := f_Talk_with_claim, d_Talk_with_claim := PySem.W.fnOf "with_claim" "Talk.with_claim" (defArgs s_Talk_with_claim) (defBody s_Talk_with_claim) (defScope s_Talk_with_claim) .none kV_Talk_with_claim dc_Talk_with_claim pm_Talk_with_claim an_Talk_with_claim cd_Talk_with_claim ct_Talk_with_claim, f_law_feed := f_law_feed, d_law_feed := PySem.W.fnOf "_law_feed" "_law_feed" (defArgs s_law_feed) (defBody s_law_feed) (defScope s_law_feed) .none kV_law_feed dc_law_feed pm_law_feed an_law_feed cd_law_feed ct_law_feed, f_law_pick := f_law_pick, d_law_pick := PySem.W.fnOf "_law_pick" "_law_pick" (defArgs s_law_pick) (defBody s_law_pick) (defScope s_law_pick) .none kV_law_pick dc_law_pick pm_law_pick an_law_pick cd_law_pick ct_law_pick, f_law_players := f_law_players, d_law_players := PySem.W.fnOf "_law_players" "_law_players" (defArgs s_law_players) (defBody s_law_players) (defScope s_law_players) .none kV_law_players dc_law_players pm_law_players an_law_players cd_law_players ct_law_players, f_law_pair := f_law_pair, d_law_pair := PySem.W.fnOf "_law_pair" "_law_pair" (defArgs s_law_pair) (defBody s_law_pair) (defScope s_law_pair) .none kV_law_pair dc_law_pair pm_law_pair an_law_pair cd_law_pair ct_law_pair, f_law_items := f_law_items, d_law_items := PySem.W.fnOf "_law_items" "_law_items" (defArgs s_law_items) (defBody s_law_items) (defScope s_law_items) .none kV_law_items dc_law_items pm_law_items an_law_items cd_law_items ct_law_items, f_law_plain := f_law_plain, d_law_plain := PySem.W.fnOf "_law_plain" "_law_plain" (defArgs s_law_plain) (defBody s_law_plain) (defScope s_law_plain) .none kV_law_plain dc_law_plain pm_law_plain an_law_plain cd_law_plain ct_law_plain, f_law_are := f_law_are, d_law_are := PySem.W.fnOf "_law_are" "_law_are" (defArgs s_law_are) (defBody s_law_are) (defScope s_law_are) .none kV_law_are dc_law_are pm_law_are an_law_are cd_law_are ct_law_are, f_law_more_right := f_law_more_right, d_law_more_right := PySem.W.fnOf "_law_more_right" "_law_more_right" (defArgs s_law_more_right) (defBody s_law_more_right) (defScope s_law_more_right) .none kV_law_more_right dc_law_more_right pm_law_more_right an_law_more_right cd_law_more_right ct_law_more_right, f_law_right := f_law_right, d_law_right := PySem.W.fnOf "_law_right" "_law_right" (defArgs s_law_right) (defBody s_law_right) (defScope s_law_right) .none kV_law_right dc_law_right pm_law_right an_law_right cd_law_right ct_law_right, f_law := fa, d_law := PySem.W.fnOf "law" "law" (defArgs s_law) (defBody s_law) (defScope s_law) .none kV_law dc_law pm_law an_law cd_law ct_law, C_Talk := C_Talk, p_Talk_size := p_Talk_size, p_Talk_results := p_Talk_results, p_Talk_claims := p_Talk_claims } := {
    F_is_integer := fun_mk (st := s_is_integer) l_is_integer c_is_integer k_is_integer,
    b_is_integer := (fun_mk (st := s_is_integer) l_is_integer c_is_integer k_is_integer).binds (ps := ["thing"]) fun _ _ _ _ _ _ us hl => match us, hl with | [_], _ => rfl,
    m_is_integer := PySem.W.mg_of X G a_is_integer,
    F_is_size := fun_mk (st := s_is_size) l_is_size c_is_size k_is_size,
    b_is_size := (fun_mk (st := s_is_size) l_is_size c_is_size k_is_size).binds (ps := ["thing"]) fun _ _ _ _ _ _ us hl => match us, hl with | [_], _ => rfl,
    m_is_size := PySem.W.mg_of X G a_is_size,
    F_is_player := fun_mk (st := s_is_player) l_is_player c_is_player k_is_player,
    b_is_player := (fun_mk (st := s_is_player) l_is_player c_is_player k_is_player).binds (ps := ["thing", "size"]) fun _ _ _ _ _ _ us hl => match us, hl with | [_, _], _ => rfl,
    m_is_player := PySem.W.mg_of X G a_is_player,
    F_is_number := fun_mk (st := s_is_number) l_is_number c_is_number k_is_number,
    b_is_number := (fun_mk (st := s_is_number) l_is_number c_is_number k_is_number).binds (ps := ["thing", "size"]) fun _ _ _ _ _ _ us hl => match us, hl with | [_, _], _ => rfl,
    m_is_number := PySem.W.mg_of X G a_is_number,
    F_is_pair := fun_mk (st := s_is_pair) l_is_pair c_is_pair k_is_pair,
    b_is_pair := (fun_mk (st := s_is_pair) l_is_pair c_is_pair k_is_pair).binds (ps := ["thing"]) fun _ _ _ _ _ _ us hl => match us, hl with | [_], _ => rfl,
    m_is_pair := PySem.W.mg_of X G a_is_pair,
    F_is_result := fun_mk (st := s_is_result) l_is_result c_is_result k_is_result,
    b_is_result := (fun_mk (st := s_is_result) l_is_result c_is_result k_is_result).binds (ps := ["thing", "size"]) fun _ _ _ _ _ _ us hl => match us, hl with | [_, _], _ => rfl,
    m_is_result := PySem.W.mg_of X G a_is_result,
    F_is_claim := fun_mk (st := s_is_claim) l_is_claim c_is_claim k_is_claim,
    b_is_claim := (fun_mk (st := s_is_claim) l_is_claim c_is_claim k_is_claim).binds (ps := ["thing", "size"]) fun _ _ _ _ _ _ us hl => match us, hl with | [_, _], _ => rfl,
    m_is_claim := PySem.W.mg_of X G a_is_claim,
    F_is_short_list := fun_mk (st := s_is_short_list) l_is_short_list c_is_short_list k_is_short_list,
    b_is_short_list := (fun_mk (st := s_is_short_list) l_is_short_list c_is_short_list k_is_short_list).binds (ps := ["thing"]) fun _ _ _ _ _ _ us hl => match us, hl with | [_], _ => rfl,
    m_is_short_list := PySem.W.mg_of X G a_is_short_list,
    F_check_size := fun_mk (st := s_check_size) l_check_size c_check_size k_check_size,
    b_check_size := (fun_mk (st := s_check_size) l_check_size c_check_size k_check_size).binds (ps := ["size"]) fun _ _ _ _ _ _ us hl => match us, hl with | [_], _ => rfl,
    m_check_size := PySem.W.mg_of X G a_check_size,
    F_check_results := fun_mk (st := s_check_results) l_check_results c_check_results k_check_results,
    b_check_results := (fun_mk (st := s_check_results) l_check_results c_check_results k_check_results).binds (ps := ["results", "size"]) fun _ _ _ _ _ _ us hl => match us, hl with | [_, _], _ => rfl,
    m_check_results := PySem.W.mg_of X G a_check_results,
    F_check_claims := fun_mk (st := s_check_claims) l_check_claims c_check_claims k_check_claims,
    b_check_claims := (fun_mk (st := s_check_claims) l_check_claims c_check_claims k_check_claims).binds (ps := ["claims", "size"]) fun _ _ _ _ _ _ us hl => match us, hl with | [_, _], _ => rfl,
    m_check_claims := PySem.W.mg_of X G a_check_claims,
    F_greatest_claims := fun_mk (st := s_greatest_claims) l_greatest_claims c_greatest_claims k_greatest_claims,
    b_greatest_claims := (fun_mk (st := s_greatest_claims) l_greatest_claims c_greatest_claims k_greatest_claims).binds (ps := ["claims"]) fun _ _ _ _ _ _ us hl => match us, hl with | [_], _ => rfl,
    m_greatest_claims := PySem.W.mg_of X G a_greatest_claims,
    F_Talk___init__ := fun_mk (st := s_Talk___init__) l_Talk___init__ c_Talk___init__ k_Talk___init__,
    b_Talk___init__ := (fun_mk (st := s_Talk___init__) l_Talk___init__ c_Talk___init__ k_Talk___init__).binds (ps := ["self", "size", "results", "claims"]) fun _ _ _ _ _ _ us hl => match us, hl with | [_, _, _, _], _ => rfl,
    F_Talk_size := fun_mk (st := s_Talk_size) l_Talk_size c_Talk_size k_Talk_size,
    b_Talk_size := (fun_mk (st := s_Talk_size) l_Talk_size c_Talk_size k_Talk_size).binds (ps := ["self"]) fun _ _ _ _ _ _ us hl => match us, hl with | [_], _ => rfl,
    pr_Talk_size := ⟨a_Talk_size, g_Talk_size, t_Talk_size, _, r_Talk_size⟩,
    F_Talk_results := fun_mk (st := s_Talk_results) l_Talk_results c_Talk_results k_Talk_results,
    b_Talk_results := (fun_mk (st := s_Talk_results) l_Talk_results c_Talk_results k_Talk_results).binds (ps := ["self"]) fun _ _ _ _ _ _ us hl => match us, hl with | [_], _ => rfl,
    pr_Talk_results := ⟨a_Talk_results, g_Talk_results, t_Talk_results, _, r_Talk_results⟩,
    F_Talk_claims := fun_mk (st := s_Talk_claims) l_Talk_claims c_Talk_claims k_Talk_claims,
    b_Talk_claims := (fun_mk (st := s_Talk_claims) l_Talk_claims c_Talk_claims k_Talk_claims).binds (ps := ["self"]) fun _ _ _ _ _ _ us hl => match us, hl with | [_], _ => rfl,
    pr_Talk_claims := ⟨a_Talk_claims, g_Talk_claims, t_Talk_claims, _, r_Talk_claims⟩,
    F_Talk___len__ := fun_mk (st := s_Talk___len__) l_Talk___len__ c_Talk___len__ k_Talk___len__,
    b_Talk___len__ := (fun_mk (st := s_Talk___len__) l_Talk___len__ c_Talk___len__ k_Talk___len__).binds (ps := ["self"]) fun _ _ _ _ _ _ us hl => match us, hl with | [_], _ => rfl,
    me_Talk___len__ := ⟨a_Talk___len__, i_Talk___len__, k_Talk___len__⟩,
    F_Talk___eq__ := fun_mk (st := s_Talk___eq__) l_Talk___eq__ c_Talk___eq__ k_Talk___eq__,
    b_Talk___eq__ := (fun_mk (st := s_Talk___eq__) l_Talk___eq__ c_Talk___eq__ k_Talk___eq__).binds (ps := ["self", "other"]) fun _ _ _ _ _ _ us hl => match us, hl with | [_, _], _ => rfl,
    me_Talk___eq__ := ⟨a_Talk___eq__, i_Talk___eq__, k_Talk___eq__⟩,
    F_check_player := fun_mk (st := s_check_player) l_check_player c_check_player k_check_player,
    b_check_player := (fun_mk (st := s_check_player) l_check_player c_check_player k_check_player).binds (ps := ["player", "size"]) fun _ _ _ _ _ _ us hl => match us, hl with | [_, _], _ => rfl,
    m_check_player := PySem.W.mg_of X G a_check_player,
    F_check_number := fun_mk (st := s_check_number) l_check_number c_check_number k_check_number,
    b_check_number := (fun_mk (st := s_check_number) l_check_number c_check_number k_check_number).binds (ps := ["number", "size"]) fun _ _ _ _ _ _ us hl => match us, hl with | [_, _], _ => rfl,
    m_check_number := PySem.W.mg_of X G a_check_number,
    F_Talk__with_more := fun_mk (st := s_Talk__with_more) l_Talk__with_more c_Talk__with_more k_Talk__with_more,
    b_Talk__with_more := (fun_mk (st := s_Talk__with_more) l_Talk__with_more c_Talk__with_more k_Talk__with_more).binds (ps := ["self", "results", "claims"]) fun _ _ _ _ _ _ us hl => match us, hl with | [_, _, _], _ => rfl,
    me_Talk__with_more := ⟨a_Talk__with_more, i_Talk__with_more, k_Talk__with_more⟩,
    F_Talk___add__ := fun_mk (st := s_Talk___add__) l_Talk___add__ c_Talk___add__ k_Talk___add__,
    b_Talk___add__ := (fun_mk (st := s_Talk___add__) l_Talk___add__ c_Talk___add__ k_Talk___add__).binds (ps := ["self", "other"]) fun _ _ _ _ _ _ us hl => match us, hl with | [_, _], _ => rfl,
    me_Talk___add__ := ⟨a_Talk___add__, i_Talk___add__, k_Talk___add__⟩,
    F_Talk_with_result := fun_mk (st := s_Talk_with_result) l_Talk_with_result c_Talk_with_result k_Talk_with_result,
    b_Talk_with_result := (fun_mk (st := s_Talk_with_result) l_Talk_with_result c_Talk_with_result k_Talk_with_result).binds (ps := ["self", "one", "other"]) fun _ _ _ _ _ _ us hl => match us, hl with | [_, _, _], _ => rfl,
    me_Talk_with_result := ⟨a_Talk_with_result, i_Talk_with_result, k_Talk_with_result⟩,
    F_Talk_with_claim := fun_mk (st := s_Talk_with_claim) l_Talk_with_claim c_Talk_with_claim k_Talk_with_claim,
    b_Talk_with_claim := (fun_mk (st := s_Talk_with_claim) l_Talk_with_claim c_Talk_with_claim k_Talk_with_claim).binds (ps := ["self", "player", "number"]) fun _ _ _ _ _ _ us hl => match us, hl with | [_, _, _], _ => rfl,
    me_Talk_with_claim := ⟨a_Talk_with_claim, i_Talk_with_claim, k_Talk_with_claim⟩,
    F_law_feed := fun_mk (st := s_law_feed) l_law_feed c_law_feed k_law_feed,
    b_law_feed := (fun_mk (st := s_law_feed) l_law_feed c_law_feed k_law_feed).binds (ps := ["script", "k"]) fun _ _ _ _ _ _ us hl => match us, hl with | [_, _], _ => rfl,
    m_law_feed := PySem.W.mg_of X G a_law_feed,
    F_law_pick := fun_mk (st := s_law_pick) l_law_pick c_law_pick k_law_pick,
    b_law_pick := (fun_mk (st := s_law_pick) l_law_pick c_law_pick k_law_pick).binds (ps := ["feed", "wide"]) fun _ _ _ _ _ _ us hl => match us, hl with | [_, _], _ => rfl,
    m_law_pick := PySem.W.mg_of X G a_law_pick,
    F_law_players := fun_mk (st := s_law_players) l_law_players c_law_players k_law_players,
    b_law_players := (fun_mk (st := s_law_players) l_law_players c_law_players k_law_players).binds (ps := ["wide"]) fun _ _ _ _ _ _ us hl => match us, hl with | [_], _ => rfl,
    m_law_players := PySem.W.mg_of X G a_law_players,
    F_law_pair := fun_mk (st := s_law_pair) l_law_pair c_law_pair k_law_pair,
    b_law_pair := (fun_mk (st := s_law_pair) l_law_pair c_law_pair k_law_pair).binds (ps := ["feed", "many"]) fun _ _ _ _ _ _ us hl => match us, hl with | [_, _], _ => rfl,
    m_law_pair := PySem.W.mg_of X G a_law_pair,
    F_law_items := fun_mk (st := s_law_items) l_law_items c_law_items k_law_items,
    b_law_items := (fun_mk (st := s_law_items) l_law_items c_law_items k_law_items).binds (ps := ["feed", "wide", "most"]) fun _ _ _ _ _ _ us hl => match us, hl with | [_, _, _], _ => rfl,
    m_law_items := PySem.W.mg_of X G a_law_items,
    F_law_plain := fun_mk (st := s_law_plain) l_law_plain c_law_plain k_law_plain,
    b_law_plain := (fun_mk (st := s_law_plain) l_law_plain c_law_plain k_law_plain).binds (ps := ["found", "said"]) fun _ _ _ _ _ _ us hl => match us, hl with | [_, _], _ => rfl,
    m_law_plain := PySem.W.mg_of X G a_law_plain,
    F_law_are := fun_mk (st := s_law_are) l_law_are c_law_are k_law_are,
    b_law_are := (fun_mk (st := s_law_are) l_law_are c_law_are k_law_are).binds (ps := ["talk_here", "wide", "due"]) fun _ _ _ _ _ _ us hl => match us, hl with | [_, _, _], _ => rfl,
    m_law_are := PySem.W.mg_of X G a_law_are,
    F_law_more_right := fun_mk (st := s_law_more_right) l_law_more_right c_law_more_right k_law_more_right,
    b_law_more_right := (fun_mk (st := s_law_more_right) l_law_more_right c_law_more_right k_law_more_right).binds (ps := ["feed", "wide", "found", "said"]) fun _ _ _ _ _ _ us hl => match us, hl with | [_, _, _, _], _ => rfl,
    m_law_more_right := PySem.W.mg_of X G a_law_more_right,
    F_law_right := fun_mk (st := s_law_right) l_law_right c_law_right k_law_right,
    b_law_right := (fun_mk (st := s_law_right) l_law_right c_law_right k_law_right).binds (ps := ["feed", "wide", "most"]) fun _ _ _ _ _ _ us hl => match us, hl with | [_, _, _], _ => rfl,
    m_law_right := PySem.W.mg_of X G a_law_right,
    F_law := fun_mk (st := s_law) l_law c_law k_law,
    b_law := (fun_mk (st := s_law) l_law c_law k_law).binds (ps := ["script"]) fun _ _ _ _ _ _ us hl => match us, hl with | [_], _ => rfl,
    m_law := PySem.W.mg_of X G a_law,
    cl_Talk := ⟨pg_Talk, hd_Talk, po_Talk, sa_Talk⟩,
    mC_Talk := PySem.W.mg_of X G aC_Talk,
    is_Talk := ⟨x1_Talk, x2_Talk, x3_Talk, x4_Talk⟩,
    sf_Talk := sf_Talk,
    M_Talk := ⟨mk_Talk, a_Talk___init__, i_Talk___init__, kc_Talk⟩,
    c_LARGEST_SIZE := ⟨_, PySem.W.mg_of X G c_LARGEST_SIZE⟩,
    c_MOST_ITEMS := ⟨_, PySem.W.mg_of X G c_MOST_ITEMS⟩,
    n_Talk__claims := n_Talk__claims,
    n_Talk__results := n_Talk__results,
    n_Talk__size := n_Talk__size,
    kb_Talk_with_claim_number_player := ⟨fun s us ws _ l1 l2 => match us, ws, l1, l2 with | [_], [_, _], _, _ => .of_eq rfl, fun r1 r2 => Vals.pick [0, 2, 1] (r1.append r2)⟩,
    kb_Talk_with_result_other_one := ⟨fun s us ws _ l1 l2 => match us, ws, l1, l2 with | [_], [_, _], _, _ => .of_eq rfl, fun r1 r2 => Vals.pick [0, 2, 1] (r1.append r2)⟩,
    z_abs := PySem.W.mg_none_of X G z_abs,
    z_all := PySem.W.mg_none_of X G z_all,
    z_bool := PySem.W.mg_none_of X G z_bool,
    z_int := PySem.W.mg_none_of X G z_int,
    z_isinstance := PySem.W.mg_none_of X G z_isinstance,
    z_len := PySem.W.mg_none_of X G z_len,
    z_list := PySem.W.mg_none_of X G z_list,
    z_max := PySem.W.mg_none_of X G z_max,
    z_min := PySem.W.mg_none_of X G z_min,
    z_range := PySem.W.mg_none_of X G z_range,
    z_repr := PySem.W.mg_none_of X G z_repr,
    z_set := PySem.W.mg_none_of X G z_set,
    z_sorted := PySem.W.mg_none_of X G z_sorted,
    z_tuple := PySem.W.mg_none_of X G z_tuple }
  exact ⟨_, fun s v => .of_eq rfl, fun base _ _ => ok_law T⟩
theorem walk {l : PySem.W.OpenLaw} {q : Program} {loose : List Str} {XP : (Str → Option Value) → Heap → Prop} {YP : World → Heap → Prop} {d : DefRec} {K : Params → PySem.W.Frag} (hn : l.most = some 63) (hdf : d.params.defaults = [])
    (hY : ∀ (w : World) (h : Heap), YP w h → (K w.params).In h)
    (F : ∀ (w : World) (mg : Str → Option Value) (fa : Addr) (h : Heap), (K w.params).In h → h.Ns mainGlobals mg → mg d.name = some (.ref fa) →
      ∃ fd : FuncData, (∀ (s : Shared) (u : Value), BindsTo s fd ⟨[u], []⟩ [("script", u)]) ∧ ∀ base : Heap, (K w.params).In base → base.Ns mainGlobals mg → FnG l.prog w (K w.params) mg base 11 fa fd ["script"] (spLaw (K w.params))) :
    PySem.W.WalkO q loose XP YP l.row.toRowW d [] (fun f vs => PySem.call f vs) :=
  walk_ofG (n := 63) (k := 11) (x := "script") (sp := spLaw) hn (by decide) hdf ⟨rfl, by decide, by decide⟩ hY F (fun _ _ a ns hl _ hS => ⟨a, ns, rfl, hS, hl, fun _ => rfl⟩)
end Ct
open PySem PySem.W PyProof.Rows in
set_option maxRecDepth 100000 in
set_option maxHeartbeats 0 in
theorem PySem.Challenge.cw_cuptalk_k02_talks_put_together_holds : PySem.Challenge.rw_cuptalk_k02_talks_put_together.Holds := by
  w_on; o_law; k_head; (case hw => w_witness2)
  k_fill
  refine Ct.walk (l := PySem.Challenge.rw_cuptalk_k02_talks_put_together) rfl rfl (fun w h Y => PySem.W.kIn_of Y) ?F
  case F =>
    intro w mg fa h KX G hmg
    refine' Ct.all_mk KX G hmg ?aC_Talk ?a_is_integer ?l_is_integer ?c_is_integer ?k_is_integer ?a_is_size ?l_is_size ?c_is_size ?k_is_size ?a_is_player ?l_is_player ?c_is_player ?k_is_player ?a_is_number ?l_is_number ?c_is_number ?k_is_number ?a_is_pair ?l_is_pair ?c_is_pair ?k_is_pair ?a_is_result ?l_is_result ?c_is_result ?k_is_result ?a_is_claim ?l_is_claim ?c_is_claim ?k_is_claim ?a_is_short_list ?l_is_short_list ?c_is_short_list ?k_is_short_list ?a_check_size ?l_check_size ?c_check_size ?k_check_size ?a_check_results ?l_check_results ?c_check_results ?k_check_results ?a_check_claims ?l_check_claims ?c_check_claims ?k_check_claims ?a_greatest_claims ?l_greatest_claims ?c_greatest_claims ?k_greatest_claims ?a_Talk___init__ ?i_Talk___init__ ?l_Talk___init__ ?c_Talk___init__ ?k_Talk___init__ ?a_Talk_size ?g_Talk_size ?t_Talk_size ?r_Talk_size ?l_Talk_size ?c_Talk_size ?k_Talk_size ?a_Talk_results ?g_Talk_results ?t_Talk_results ?r_Talk_results ?l_Talk_results ?c_Talk_results ?k_Talk_results ?a_Talk_claims ?g_Talk_claims ?t_Talk_claims ?r_Talk_claims ?l_Talk_claims ?c_Talk_claims ?k_Talk_claims ?a_Talk___len__ ?i_Talk___len__ ?l_Talk___len__ ?c_Talk___len__ ?k_Talk___len__ ?a_Talk___eq__ ?i_Talk___eq__ ?l_Talk___eq__ ?c_Talk___eq__ ?k_Talk___eq__ ?a_check_player ?l_check_player ?c_check_player ?k_check_player ?a_check_number ?l_check_number ?c_check_number ?k_check_number ?a_Talk__with_more ?i_Talk__with_more ?l_Talk__with_more ?c_Talk__with_more ?k_Talk__with_more ?a_Talk___add__ ?i_Talk___add__ ?l_Talk___add__ ?c_Talk___add__ ?k_Talk___add__ ?a_Talk_with_result ?i_Talk_with_result ?l_Talk_with_result ?c_Talk_with_result ?k_Talk_with_result ?a_Talk_with_claim ?i_Talk_with_claim ?l_Talk_with_claim ?c_Talk_with_claim ?k_Talk_with_claim ?a_law_feed ?l_law_feed ?c_law_feed ?k_law_feed ?a_law_pick ?l_law_pick ?c_law_pick ?k_law_pick ?a_law_players ?l_law_players ?c_law_players ?k_law_players ?a_law_pair ?l_law_pair ?c_law_pair ?k_law_pair ?a_law_items ?l_law_items ?c_law_items ?k_law_items ?a_law_plain ?l_law_plain ?c_law_plain ?k_law_plain ?a_law_are ?l_law_are ?c_law_are ?k_law_are ?a_law_more_right ?l_law_more_right ?c_law_more_right ?k_law_more_right ?a_law_right ?l_law_right ?c_law_right ?k_law_right ?a_law ?l_law ?c_law ?k_law ?pg_Talk ?hd_Talk ?po_Talk ?sa_Talk ?mk_Talk ?kc_Talk ?x1_Talk ?x2_Talk ?x3_Talk ?x4_Talk ?sf_Talk ?c_LARGEST_SIZE ?c_MOST_ITEMS ?n_Talk__claims ?n_Talk__results ?n_Talk__size ?z_abs ?z_all ?z_bool ?z_int ?z_isinstance ?z_len ?z_list ?z_max ?z_min ?z_range ?z_repr ?z_set ?z_sorted ?z_tuple
    (case aC_Talk => k_is)
    (case a_is_integer => k_is)
    (case l_is_integer => k_is)
    (case c_is_integer => k_is)
    (case k_is_integer => k_is)
    (case a_is_size => k_is)
    (case l_is_size => k_is)
    (case c_is_size => k_is)
    (case k_is_size => k_is)
    (case a_is_player => k_is)
    (case l_is_player => k_is)
    (case c_is_player => k_is)
    (case k_is_player => k_is)
    (case a_is_number => k_is)
    (case l_is_number => k_is)
    (case c_is_number => k_is)
    (case k_is_number => k_is)
    (case a_is_pair => k_is)
    (case l_is_pair => k_is)
    (case c_is_pair => k_is)
    (case k_is_pair => k_is)
    (case a_is_result => k_is)
    (case l_is_result => k_is)
    (case c_is_result => k_is)
    (case k_is_result => k_is)
    (case a_is_claim => k_is)
    (case l_is_claim => k_is)
    (case c_is_claim => k_is)
    (case k_is_claim => k_is)
    (case a_is_short_list => k_is)
    (case l_is_short_list => k_is)
    (case c_is_short_list => k_is)
    (case k_is_short_list => k_is)
    (case a_check_size => k_is)
    (case l_check_size => k_is)
    (case c_check_size => k_is)
    (case k_check_size => k_is)
    (case a_check_results => k_is)
    (case l_check_results => k_is)
    (case c_check_results => k_is)
    (case k_check_results => k_is)
    (case a_check_claims => k_is)
    (case l_check_claims => k_is)
    (case c_check_claims => k_is)
    (case k_check_claims => k_is)
    (case a_greatest_claims => k_is)
    (case l_greatest_claims => k_is)
    (case c_greatest_claims => k_is)
    (case k_greatest_claims => k_is)
    (case a_Talk___init__ => k_is)
    (case i_Talk___init__ => k_is)
    (case l_Talk___init__ => k_is)
    (case c_Talk___init__ => k_is)
    (case k_Talk___init__ => k_is)
    (case a_Talk_size => k_is)
    (case g_Talk_size => k_is)
    (case t_Talk_size => k_is)
    (case r_Talk_size => k_is)
    (case l_Talk_size => k_is)
    (case c_Talk_size => k_is)
    (case k_Talk_size => k_is)
    (case a_Talk_results => k_is)
    (case g_Talk_results => k_is)
    (case t_Talk_results => k_is)
    (case r_Talk_results => k_is)
    (case l_Talk_results => k_is)
    (case c_Talk_results => k_is)
    (case k_Talk_results => k_is)
    (case a_Talk_claims => k_is)
    (case g_Talk_claims => k_is)
    (case t_Talk_claims => k_is)
    (case r_Talk_claims => k_is)
    (case l_Talk_claims => k_is)
    (case c_Talk_claims => k_is)
    (case k_Talk_claims => k_is)
    (case a_Talk___len__ => k_is)
    (case i_Talk___len__ => k_is)
    (case l_Talk___len__ => k_is)
    (case c_Talk___len__ => k_is)
    (case k_Talk___len__ => k_is)
    (case a_Talk___eq__ => k_is)
    (case i_Talk___eq__ => k_is)
    (case l_Talk___eq__ => k_is)
    (case c_Talk___eq__ => k_is)
    (case k_Talk___eq__ => k_is)
    (case a_check_player => k_is)
    (case l_check_player => k_is)
    (case c_check_player => k_is)
    (case k_check_player => k_is)
    (case a_check_number => k_is)
    (case l_check_number => k_is)
    (case c_check_number => k_is)
    (case k_check_number => k_is)
    (case a_Talk__with_more => k_is)
    (case i_Talk__with_more => k_is)
    (case l_Talk__with_more => k_is)
    (case c_Talk__with_more => k_is)
    (case k_Talk__with_more => k_is)
    (case a_Talk___add__ => k_is)
    (case i_Talk___add__ => k_is)
    (case l_Talk___add__ => k_is)
    (case c_Talk___add__ => k_is)
    (case k_Talk___add__ => k_is)
    (case a_Talk_with_result => k_is)
    (case i_Talk_with_result => k_is)
    (case l_Talk_with_result => k_is)
    (case c_Talk_with_result => k_is)
    (case k_Talk_with_result => k_is)
    (case a_Talk_with_claim => k_is)
    (case i_Talk_with_claim => k_is)
    (case l_Talk_with_claim => k_is)
    (case c_Talk_with_claim => k_is)
    (case k_Talk_with_claim => k_is)
    (case a_law_feed => k_is)
    (case l_law_feed => k_is)
    (case c_law_feed => k_is)
    (case k_law_feed => k_is)
    (case a_law_pick => k_is)
    (case l_law_pick => k_is)
    (case c_law_pick => k_is)
    (case k_law_pick => k_is)
    (case a_law_players => k_is)
    (case l_law_players => k_is)
    (case c_law_players => k_is)
    (case k_law_players => k_is)
    (case a_law_pair => k_is)
    (case l_law_pair => k_is)
    (case c_law_pair => k_is)
    (case k_law_pair => k_is)
    (case a_law_items => k_is)
    (case l_law_items => k_is)
    (case c_law_items => k_is)
    (case k_law_items => k_is)
    (case a_law_plain => k_is)
    (case l_law_plain => k_is)
    (case c_law_plain => k_is)
    (case k_law_plain => k_is)
    (case a_law_are => k_is)
    (case l_law_are => k_is)
    (case c_law_are => k_is)
    (case k_law_are => k_is)
    (case a_law_more_right => k_is)
    (case l_law_more_right => k_is)
    (case c_law_more_right => k_is)
    (case k_law_more_right => k_is)
    (case a_law_right => k_is)
    (case l_law_right => k_is)
    (case c_law_right => k_is)
    (case k_law_right => k_is)
    (case a_law => k_is)
    (case l_law => k_is)
    (case c_law => k_is)
    (case k_law => k_is)
    (case pg_Talk => k_is)
    (case hd_Talk => k_is)
    (case po_Talk => k_is)
    (case sa_Talk => k_is)
    (case mk_Talk => k_is)
    (case kc_Talk => k_is)
    (case x1_Talk => k_is)
    (case x2_Talk => k_is)
    (case x3_Talk => k_is)
    (case x4_Talk => k_is)
    (case sf_Talk => k_is)
    (case c_LARGEST_SIZE => k_is)
    (case c_MOST_ITEMS => k_is)
    (case n_Talk__claims => k_is)
    (case n_Talk__results => k_is)
    (case n_Talk__size => k_is)
    (case z_abs => k_is)
    (case z_all => k_is)
    (case z_bool => k_is)
    (case z_int => k_is)
    (case z_isinstance => k_is)
    (case z_len => k_is)
    (case z_list => k_is)
    (case z_max => k_is)
    (case z_min => k_is)
    (case z_range => k_is)
    (case z_repr => k_is)
    (case z_set => k_is)
    (case z_sorted => k_is)
    (case z_tuple => k_is)
