import PyProof.Rows.All
import Wide.All
import OpenK.AllK
import Wide.FinOn
import HandS.ForMost
import HandS.ExcOwn
import KE.DatumIndex
import HandS.TupSets
import KE.SortData
import HandS.Wide
import HandS.IsInst
import HandS.Style
import HandS.Property
import HandS.MakeKw
import HandS.SortInts
import HandS.Star
import KE.Datum
import PyProof.ReprLen
import HandS.Walk
import HandS.Iter
import HandS.OwnEq
import HandS.Defaults
import HandS.MakeKwOnly
import HandS.Conv
import HandS.ClsMeth
import HandS.IterVal
import KE.KMinKey
import HandS.SortKw
import HandS.NoneIn
import HandS.GenYield
import HandS.GenList
import PyProof.InstEq
import PySem.Challenge.RW_cuptalk_k10_cups_compared
set_option Elab.async false
set_option linter.all false
section
set_option Elab.async false
/-! Plain lists: ascending pairs, sets of pairs, greatest claims. -/
namespace Ct
abbrev P2 := Int × Int
def ltP (p q : P2) : Prop := p.1 < q.1 ∨ (p.1 = q.1 ∧ p.2 < q.2)
instance (p q : P2) : Decidable (ltP p q) := by unfold ltP; infer_instance
def leP (p q : P2) : Bool := decide (p.1 < q.1 ∨ (p.1 = q.1 ∧ p.2 ≤ q.2))
theorem ltP_irrefl (p : P2) : ¬ ltP p p := by unfold ltP; omega
theorem ltP_trans {p q r : P2} (h : ltP p q) (k : ltP q r) : ltP p r := by unfold ltP at *; omega
theorem P2.ext' {p q : P2} (h : p.1 = q.1) (k : p.2 = q.2) : p = q := Prod.ext h k
theorem ltP_or (p q : P2) : ltP p q ∨ p = q ∨ ltP q p := by
  by_cases h : ltP p q
  · exact .inl h
  · by_cases k : ltP q p
    · exact .inr (.inr k)
    · refine .inr (.inl (P2.ext' ?_ ?_)) <;> unfold ltP at h k <;> omega
def insP (p : P2) : List P2 → List P2
  | [] => [p]
  | q :: l => if ltP p q then p :: q :: l else if p = q then q :: l else q :: insP p l
def pset (ps : List P2) : List P2 := ps.foldr insP []
theorem mem_insP {x p : P2} : ∀ {l : List P2}, x ∈ insP p l ↔ x = p ∨ x ∈ l
  | [] => by simp [insP]
  | q :: l => by
    unfold insP
    split
    · simp
    · split
      · rename_i h; subst h; simp
      · rw [List.mem_cons, mem_insP (l := l), List.mem_cons]
        constructor
        · rintro (h | h | h) <;> simp [h]
        · rintro (h | h | h) <;> simp [h]
theorem ris_insP {p : P2} : ∀ {l : List P2}, l.Pairwise ltP → (insP p l).Pairwise ltP
  | [], _ => by simp [insP]
  | q :: l, h => by
    obtain ⟨h1, h2⟩ := List.pairwise_cons.mp h
    unfold insP
    split
    · rename_i c
      refine List.pairwise_cons.mpr ⟨fun x hx => ?_, h⟩
      rcases List.mem_cons.mp hx with e | hx
      · rw [e]; exact c
      · exact ltP_trans c (h1 x hx)
    · split
      · exact h
      · rename_i c d
        refine List.pairwise_cons.mpr ⟨fun x hx => ?_, ris_insP h2⟩
        rcases mem_insP.mp hx with e | hx
        · rw [e]
          rcases ltP_or p q with z | z | z
          · exact absurd z c
          · exact absurd z d
          · exact z
        · exact h1 x hx
theorem mem_pset {x : P2} : ∀ {ps : List P2}, x ∈ pset ps ↔ x ∈ ps
  | [] => by simp [pset]
  | p :: ps => by
    show x ∈ insP p (pset ps) ↔ _
    rw [mem_insP, mem_pset, List.mem_cons]
theorem ris_pset : ∀ (ps : List P2), (pset ps).Pairwise ltP
  | [] => List.Pairwise.nil
  | p :: ps => ris_insP (ris_pset ps)
theorem ris_ext : ∀ {l m : List P2}, l.Pairwise ltP → m.Pairwise ltP → (∀ x, x ∈ l ↔ x ∈ m) → l = m
  | [], [], _, _, _ => rfl
  | [], q :: m, _, _, h => absurd ((h q).mpr List.mem_cons_self) (by simp)
  | p :: l, [], _, _, h => absurd ((h p).mp List.mem_cons_self) (by simp)
  | p :: l, q :: m, hl, hm, h => by
    obtain ⟨l1, l2⟩ := List.pairwise_cons.mp hl
    obtain ⟨m1, m2⟩ := List.pairwise_cons.mp hm
    have e : p = q := by
      rcases List.mem_cons.mp ((h p).mp List.mem_cons_self) with e | z
      · exact e
      · rcases List.mem_cons.mp ((h q).mpr List.mem_cons_self) with e | y
        · exact e.symm
        · exact absurd (ltP_trans (l1 q y) (m1 p z)) (ltP_irrefl _)
    subst e
    have t : l = m := ris_ext l2 m2 fun x => by
      constructor
      · intro hx
        rcases List.mem_cons.mp ((h x).mp (List.mem_cons_of_mem _ hx)) with e | z
        · rw [e] at hx; exact absurd (l1 _ hx) (ltP_irrefl _)
        · exact z
      · intro hx
        rcases List.mem_cons.mp ((h x).mpr (List.mem_cons_of_mem _ hx)) with e | z
        · rw [e] at hx; exact absurd (m1 _ hx) (ltP_irrefl _)
        · exact z
    rw [t]
theorem pset_congr {ps qs : List P2} (h : ∀ x, x ∈ ps ↔ x ∈ qs) : pset ps = pset qs :=
  ris_ext (ris_pset ps) (ris_pset qs) fun x => by rw [mem_pset, mem_pset]; exact h x
theorem pset_ris {ps : List P2} (h : ps.Pairwise ltP) : pset ps = ps := ris_ext (ris_pset ps) h fun x => mem_pset
theorem insP_len (p : P2) : ∀ l : List P2, (insP p l).length ≤ l.length + 1
  | [] => by simp [insP]
  | q :: l => by
    unfold insP
    split
    · simp
    · split
      · simp
      · have := insP_len p l; simp; omega
theorem pset_len : ∀ ps : List P2, (pset ps).length ≤ ps.length
  | [] => Nat.le_refl _
  | p :: ps => by
    have h := pset_len ps
    have k := insP_len p (pset ps)
    show (insP p (pset ps)).length ≤ _
    rw [List.length_cons]; omega
/-- sorted, of pairs -/
def psort (ps : List P2) : List P2 := ps.mergeSort leP
theorem leP_trans : ∀ p q r : P2, leP p q = true → leP q r = true → leP p r = true := by
  intro p q r h k
  unfold leP at *
  simp only [decide_eq_true_eq] at *
  omega
theorem leP_total : ∀ p q : P2, (leP p q || leP q p) = true := by
  intro p q
  unfold leP
  simp only [Bool.or_eq_true, decide_eq_true_eq]
  omega
theorem psort_perm (ps : List P2) : (psort ps).Perm ps := List.mergeSort_perm ps leP
theorem psort_le (ps : List P2) : (psort ps).Pairwise (fun p q => leP p q = true) := List.pairwise_mergeSort leP_trans leP_total ps
theorem psort_nodup {ps : List P2} (h : ps.Nodup) : psort ps = pset ps := by
  have pw : (psort ps).Pairwise ltP := by
    have hn : (psort ps).Nodup := (psort_perm ps).nodup_iff.mpr h
    refine (List.Pairwise.and (psort_le ps) hn).imp ?_
    rintro p q ⟨a, b⟩
    unfold leP at a
    have a := of_decide_eq_true a
    unfold ltP
    by_cases c : p.1 < q.1
    · exact .inl c
    · have d : p.2 ≠ q.2 := fun e => b (P2.ext' (by omega) e)
      omega
  exact ris_ext pw (ris_pset ps) fun x => by rw [mem_pset]; exact (psort_perm ps).mem_iff
/-- sorted, of ints -/
def isort (ns : List Int) : List Int := ns.mergeSort (fun a b => decide (a ≤ b))
theorem isort_perm (ns : List Int) : (isort ns).Perm ns := List.mergeSort_perm ns _
theorem isort_le (ns : List Int) : (isort ns).Pairwise (fun a b => a ≤ b) := by
  refine (List.pairwise_mergeSort (le := fun a b : Int => decide (a ≤ b)) ?_ ?_ ns).imp ?_
  · intro a b c h k; simp only [decide_eq_true_eq] at *; omega
  · intro a b; simp only [Bool.or_eq_true, decide_eq_true_eq]; omega
  · intro a b h; exact of_decide_eq_true h
theorem isort_one {ns ms : List Int} (p : ms.Perm ns) (h : ms.Pairwise (fun a b => a ≤ b)) : ms = isort ns :=
  List.Perm.eq_of_pairwise (fun a b _ _ h k => Int.le_antisymm h k) h (isort_le ns) (p.trans (isort_perm ns).symm)
end Ct
end
section
set_option Elab.async false
set_option linter.all false
/-! The greatest claims. -/
namespace Ct
def mxS (k : Int) (m : Int) (p : P2) : Int := if p.1 = k then (if m > p.2 then m else p.2) else m
def mx (l : List P2) (k : Int) : Int := l.foldl (mxS k) 0
theorem mx_snoc (l : List P2) (p : P2) (k : Int) : mx (l ++ [p]) k = if p.1 = k then (if mx l k > p.2 then mx l k else p.2) else mx l k := by
  unfold mx
  rw [List.foldl_append]
  rfl
theorem mx_fold : ∀ (l : List P2) (k m : Int), m ≤ l.foldl (mxS k) m ∧ (∀ p ∈ l, p.1 = k → p.2 ≤ l.foldl (mxS k) m) ∧ (l.foldl (mxS k) m = m ∨ ∃ p ∈ l, p.1 = k ∧ p.2 = l.foldl (mxS k) m)
  | [], k, m => ⟨Int.le_refl _, fun p h => (by cases h), .inl rfl⟩
  | q :: l, k, m => by
    obtain ⟨h1, h2, h3⟩ := mx_fold l k (mxS k m q)
    rw [List.foldl_cons]
    have hm : m ≤ mxS k m q ∧ (q.1 = k → q.2 ≤ mxS k m q) ∧ (mxS k m q = m ∨ (q.1 = k ∧ q.2 = mxS k m q)) := by
      unfold mxS
      split
      · split
        · exact ⟨by omega, fun _ => by omega, .inl rfl⟩
        · rename_i e _
          exact ⟨by omega, fun _ => by omega, .inr ⟨e, rfl⟩⟩
      · rename_i e
        exact ⟨by omega, fun z => absurd z e, .inl rfl⟩
    refine ⟨by omega, fun p hp e => ?_, ?_⟩
    · rcases List.mem_cons.mp hp with z | z
      · rw [z] at e ⊢
        have := hm.2.1 e
        omega
      · exact h2 p z e
    · rcases h3 with e | ⟨p, hp, e1, e2⟩
      · rcases hm.2.2 with z | ⟨z1, z2⟩
        · exact .inl (e.trans z)
        · exact .inr ⟨q, List.mem_cons_self, z1, by rw [e]; exact z2⟩
      · exact .inr ⟨p, List.mem_cons_of_mem _ hp, e1, e2⟩
theorem mx_nn (l : List P2) (k : Int) : 0 ≤ mx l k := (mx_fold l k 0).1
theorem mx_ge {l : List P2} {p : P2} (h : p ∈ l) : p.2 ≤ mx l p.1 := (mx_fold l p.1 0).2.1 p h rfl
theorem mx_is (l : List P2) (k : Int) : mx l k = 0 ∨ ∃ p ∈ l, p.1 = k ∧ p.2 = mx l k := (mx_fold l k 0).2.2
theorem mx_le_of {l m : List P2} (h : ∀ x ∈ l, x ∈ m) (k : Int) : mx l k ≤ mx m k := by
  rcases mx_is l k with e | ⟨p, hp, e1, e2⟩
  · rw [e]; exact mx_nn m k
  · rw [← e2, ← e1]
    exact mx_ge (h p hp)
theorem mx_congr {l m : List P2} (h : ∀ x, x ∈ l ↔ x ∈ m) (k : Int) : mx l k = mx m k :=
  Int.le_antisymm (mx_le_of (fun x => (h x).mp) k) (mx_le_of (fun x => (h x).mpr) k)
/-- for each player the greatest claim, if it is not 0; ascending -/
def gcl (l : List P2) : List P2 := pset ((l.map fun p => (p.1, mx l p.1)).filter fun p => decide (p.2 > 0))
theorem mem_gcl {l : List P2} {x : P2} : x ∈ gcl l ↔ (∃ p ∈ l, p.1 = x.1) ∧ x.2 = mx l x.1 ∧ 0 < x.2 := by
  unfold gcl
  rw [mem_pset, List.mem_filter, List.mem_map]
  constructor
  · rintro ⟨⟨p, hp, e⟩, h⟩
    subst e
    exact ⟨⟨p, hp, rfl⟩, rfl, by simpa using h⟩
  · rintro ⟨⟨p, hp, e⟩, h1, h2⟩
    exact ⟨⟨p, hp, P2.ext' e (by rw [h1, e])⟩, by simpa using h2⟩
theorem gcl_congr {l m : List P2} (h : ∀ x, x ∈ l ↔ x ∈ m) : gcl l = gcl m :=
  ris_ext (ris_pset _) (ris_pset _) fun x => by
    show x ∈ gcl l ↔ x ∈ gcl m
    rw [mem_gcl, mem_gcl, mx_congr h]
    constructor
    · rintro ⟨⟨p, hp, e⟩, r⟩; exact ⟨⟨p, (h p).mp hp, e⟩, r⟩
    · rintro ⟨⟨p, hp, e⟩, r⟩; exact ⟨⟨p, (h p).mpr hp, e⟩, r⟩
theorem gcl_len (l : List P2) : (gcl l).length ≤ l.length := by
  refine Nat.le_trans (pset_len _) (Nat.le_trans (List.length_filter_le _ _) ?_)
  rw [List.length_map]
  exact Nat.le_refl _
/-- the keys ks of l, distinct: what the comprehension over them gives -/
def ofKeys (l : List P2) (ks : List Int) : List P2 := (ks.filter fun k => decide (mx l k > 0)).map fun k => (k, mx l k)
theorem mem_ofKeys {l : List P2} {ks : List Int} (hk : ∀ k, k ∈ ks ↔ ∃ p ∈ l, p.1 = k) {x : P2} : x ∈ ofKeys l ks ↔ x ∈ gcl l := by
  rw [mem_gcl]
  unfold ofKeys
  rw [List.mem_map]
  constructor
  · rintro ⟨k, h, e⟩
    subst e
    obtain ⟨h1, h2⟩ := List.mem_filter.mp h
    exact ⟨(hk k).mp h1, rfl, by simpa using h2⟩
  · rintro ⟨h1, h2, h3⟩
    refine ⟨x.1, List.mem_filter.mpr ⟨(hk _).mpr h1, by rw [← h2]; simpa using h3⟩, P2.ext' rfl h2.symm⟩
theorem nodup_ofKeys {l : List P2} {ks : List Int} (h : ks.Nodup) : (ofKeys l ks).Nodup := by
  unfold ofKeys
  refine List.pairwise_map.mpr (List.Pairwise.imp (fun {a b} hne e => hne ?_) (h.sublist List.filter_sublist))
  exact congrArg Prod.fst e
theorem ofKeys_sorted {l : List P2} {ks : List Int} (h : ks.Nodup) (hk : ∀ k, k ∈ ks ↔ ∃ p ∈ l, p.1 = k) : ofKeys l (isort ks) = gcl l := by
  have nd : (isort ks).Nodup := (isort_perm ks).nodup_iff.mpr h
  refine ris_ext ?_ (ris_pset _) fun x => by
    show x ∈ ofKeys l (isort ks) ↔ x ∈ gcl l
    exact mem_ofKeys (fun k => by rw [(isort_perm ks).mem_iff]; exact hk k)
  unfold ofKeys
  refine List.pairwise_map.mpr ?_
  have pw : (isort ks).Pairwise (fun a b => a < b) := (List.Pairwise.and (isort_le ks) nd).imp fun {a b} ⟨h1, h2⟩ => by omega
  refine List.Pairwise.imp (fun {a b} h => .inl h) (pw.sublist List.filter_sublist)
theorem ofKeys_psort {l : List P2} {ks : List Int} (h : ks.Nodup) (hk : ∀ k, k ∈ ks ↔ ∃ p ∈ l, p.1 = k) : psort (ofKeys l ks) = gcl l := by
  rw [psort_nodup (nodup_ofKeys h)]
  exact ris_ext (ris_pset _) (ris_pset _) fun x => by rw [mem_pset]; exact mem_ofKeys hk
end Ct
end
section
set_option Elab.async false
set_option linter.all false
set_option maxRecDepth 100000
set_option maxHeartbeats 4000000
/-! Defs that may show lists: the same promises, where no showing is under way. -/
namespace Ct
open PySem PySem.Spec PyProof.Rows L2

structure FnG (P : Program) (w : World) (K : PySem.W.Frag) (mg : Str → Option Value) (base : Heap) (k : Nat) (f : Addr) (fd : FuncData) (ps : List Str) (sp : Sp) : Prop where
  len : ∀ vs H Q E, sp vs H Q E → vs.length = ps.length
  run : ∀ (A : Around) (outer : List Env) (s : Shared) (H : Hp) (args : Args) (us : List Value) (vs : List V) (Q : VK) (E : XK), A.guards = some [] → Room k A → Env0 P w K mg base A outer s H → BindsTo s fd args (ps.zip us) → Vals vs us → sp vs H Q E →
    codeAny (model P w) A (.call (.ref f) args) (CR CX0 outer P w H s Q E) s

section
variable {P : Program} {w : World} {K : PySem.W.Frag} {mg : Str → Option Value} {base : Heap}
theorem fnG_of {k : Nat} {f : Addr} {name qual : Str} {params : Arguments} {body : List Stmt} {scope : Scope} {dV kV doc pm cdv ct oc : Value} {an od : Option Addr}
    {osl : Array (Option Value)} {N ps : List Str} {sp : Sp} (lk : K.lookup f = some ⟨oc, od, .func (PySem.W.fnOf name qual params body scope dV kV doc pm an cdv ct), osl⟩) (hcd : PySem.W.codeIn K cdv qual = true) (S : FnScope N ps scope)
    (len : ∀ vs H Q E, sp vs H Q E → vs.length = ps.length)
    (hbody : ∀ (A : Around) (outer : List Env) (s : Shared) (H : Hp) (vs : List V) (Q : VK) (E : XK), A.guards = some [] → Room k (A.deeper (envOfC qual scope s.heap.objs.size f cdv)) → sp vs H Q E →
      ∃ t, PSs (cxOf CX0 P w K mg base N qual scope f cdv A outer s H E) body t ∧ t { nx := fun _ H' => Q .non H', rt := Q } (start N vs) H) :
    FnG P w K mg base (k + 1) f (PySem.W.fnOf name qual params body scope dV kV doc pm an cdv ct) ps sp := by
  refine ⟨len, fun A outer s H args us vs Q E hgd hr e0 hb r hsp => ?_⟩
  have KX : K.In s.heap := e0.mod.kin.keeps fun b o e => (e0.bs b o e).1
  have lim : s.heap.NoLimit := e0.mod.nolimit.keeps fun b o e => (e0.bs b o e).1
  have hkind : ∀ y ∈ ps.zip us, scope.names.lookup y.1 = some .local ∨ (scope.names.lookup y.1 = some .cell ∧ ((cellsFrom (s.heap.objs.size + 1) scope.names []).lookup y.1).isSome = true) := fun ⟨n, v⟩ hy => by
    rcases S.par n (List.of_mem_zip hy).1 with q | q
    · exact .inl q
    · exact .inr ⟨q, PySem.W.cellsFrom_some _ _ _ (.inl q)⟩
  refine codeAny_call_function hr.depth (KX _ _ lk) rfl S.co S.gen rfl (PySem.W.codeRec_of KX hcd) (hb _ _ _ _ ?_)
  refine wpAny_newFunctionEnv_cells S.kind hkind fun env he s1 x => ?_
  subst he
  refine ⟨lim.keeps x.toInCall.keep, codeAny_func ?_⟩
  obtain ⟨t, ht, hq⟩ := hbody A outer s H vs Q E hgd (hr.deeper _) hsp
  have I := inv_start (CX := CX0) (E := E) S hr.hd e0 (len _ _ _ _ hsp) r x
  refine wpAny_mono (ht.run [] s1 (start N vs) H _ I hq) (fun fl s' hs => ?_) fun e s' hs => hs
  have fin : ∀ {σ' : L2.St} {H' : Hp} {v : V} {u : Value}, Inv (cxOf CX0 P w K mg base N qual scope f cdv A outer s H E) [] σ' H' s' → RelV v u → Q v H' → CE outer P w H s Q u s' :=
    fun {σ' H' v u} J rv q => ⟨v, H', J.os, J.bare, J.base, J.hok, rv, q⟩
  cases fl with
  | ret u =>
    obtain ⟨v, σ', H', J, rv, q⟩ := hs
    exact fin J rv q
  | next =>
    obtain ⟨σ', H', J, q⟩ := hs
    exact fin (v := V.non) (u := Value.none) J rfl q
  | brk => exact hs.elim fun _ h => h.elim fun _ h => h.2.elim
  | cont => exact hs.elim fun _ h => h.elim fun _ h => h.2.elim
/-- a def by its body; hgd: nothing is being shown -/
theorem okG {x qual : Str} {st : Stmt} {f : Addr} {fd : FuncData} {N ps : List Str} {k : Nat} {sp : Sp} (F : Fun K x qual st f fd) (S : FnScope N ps (defScope st)) (len : ∀ vs H Q E, sp vs H Q E → vs.length = ps.length)
    (hbody : ∀ (cdv : Value) (A : Around) (outer : List Env) (s : Shared) (H : Hp) (vs : List V) (Q : VK) (E : XK), (A.deeper (envOfC qual (defScope st) s.heap.objs.size f cdv)).guards = some [] → Room k (A.deeper (envOfC qual (defScope st) s.heap.objs.size f cdv)) → sp vs H Q E →
      ∃ t, PSs (cxOf CX0 P w K mg base N qual (defScope st) f cdv A outer s H E).nox (defBody st) t ∧ t { nx := fun _ H' => Q .non H', rt := Q } (start N vs) H) : FnG P w K mg base (k + 1) f fd ps sp := by
  obtain ⟨oc, od, kV, doc, pm, an, cdv, ct, osl, rfl, lk, hcd⟩ := F.ex
  refine fnG_of lk hcd S len fun A outer s H vs Q E hgd hr hsp => ?_
  obtain ⟨t, h, q⟩ := hbody cdv A outer s H vs Q E hgd hr hsp
  exact ⟨t, h.nox, q⟩
end
section
variable {X : Cx}
theorem pe_callG {k : Nat} {f : Addr} {fd : FuncData} {ps : List Str} {sp : Sp} {x : Str} {p pos : Pos} {e : Expr} {es : List Expr} {t : TA} (F : FnG X.prog X.w X.K X.mg X.base k f fd ps sp) (hgd : X.A.guards = some []) (hr : Room k X.A) (hg : Gl X x) (hm : X.mg x = some (.ref f))
    (hk : PySem.W.keepIn X.K (.ref f) = true) (hb : Binds X.K fd ps []) (ha : PA X (e :: es) t) (hdb : (x == ("__debug__" : Str)) = false := by decide)
    (he : starEach (e :: es) X.env = (false, eval e X.env) :: starEach es X.env := by rfl) (hpl : (backTo pos (starEach es X.env)).any (·.1) = false := by rfl) :
    PE X (.Call (.Name x p) (e :: es) [] pos) (tCall sp [] E0 t) := by
  refine ⟨fun pins s σ H Q I h => ?_⟩
  refine wpAny_Call_Name_kw (ld_glob I hg hm ?_ hdb)
  refine PySem.W.callWith_K (h₀ := X.base) I.ok.mod.kin hk (thn (ha.run pos pins s σ H _ I h) fun us s1 ⟨vs, H1, I1, r, q⟩ => ⟨I1.kIn, ?_⟩) he hpl
  have r2 : Vals (vs ++ []) us := by rw [List.append_nil]; exact r
  have hl : us.length = ps.length := by rw [← r2.length]; exact F.len _ _ _ _ q
  have hb' := hb s1 us I1.kIn (by rw [List.append_nil]; exact hl)
  rw [List.append_nil] at hb'
  refine wpAny_call (codeAny_mono (F.run X.A X.stack s1 H1 ⟨us, []⟩ us (vs ++ []) Q E0 hgd hr I1.env0 hb' r2 q) fun r s' hq => ?_)
  cases r with
  | error e => exact False.elim hq
  | ok fl =>
    cases fl with
    | ret u => exact I1.after hq
    | next => exact False.elim hq
    | brk => exact False.elim hq
    | cont => exact False.elim hq

/-- repr(x), x data -/
def rRepr (K : PySem.W.Frag) : List V → Hp → VK → Prop := fun xs H Q => ∃ x d, xs = [x] ∧ Dp K H x d ∧ d.showable = true ∧ d.hasDict = false ∧ d.depth ≤ 60 ∧ d.shown.length ≤ sizeLine ∧ Q (.str d.shown) H
theorem cr_repr (hgd : X.A.guards = some []) (hu : X.A.units + 64 < cLine) : CallR X (.builtin "repr") (rRepr X.K) := by
  intro pins s σ H xs us Q I r h
  obtain ⟨x, d, rfl, hd, hs, hn, hdep, hz, q⟩ := h
  obtain ⟨u, rfl, ru⟩ := vals1 r
  obtain ⟨as, rd⟩ := Dp.reads I d x u hd ru
  have flat : ∀ tk, EP X pins σ Q (.str d.shown tk) { s with toks := s.toks + 1 } := fun tk => ⟨.str d.shown, H, I.tok _, ⟨tk, rfl⟩, q⟩
  cases rd with
  | none => exact PySem.P.repr_of_none (flat _)
  | bool b => exact PySem.P.repr_of_bool (flat _)
  | int i t => exact PySem.P.repr_of_int (by simpa [PyData.showable] using hs) (flat _)
  | str y t => exact PySem.P.repr_of_str (flat _) hz
  | list h1 h2 h3 h4 =>
    exact repr_of_reads' (.list h1 h2 h3 h4) hs (PyData.noDict_hsm hn) hgd (by omega) (fun _ _ e => e) (fun h' u tk k => ⟨.str _, H, I.kept k, ⟨u, rfl⟩, q⟩) hz
  | tuple h1 h2 h3 h4 =>
    exact repr_of_reads' (.tuple h1 h2 h3 h4) hs (PyData.noDict_hsm hn) hgd (by omega) (fun _ _ e => e) (fun h' u tk k => ⟨.str _, H, I.kept k, ⟨u, rfl⟩, q⟩) hz
  | dict h1 h2 h3 h4 h5 => cases hn
end
end Ct
end
section
set_option Elab.async false
set_option linter.all false
set_option maxRecDepth 100000
set_option maxHeartbeats 4000000
namespace Ct
open PySem PySem.Spec PyProof.Rows L2

/-- the law's call behind the top, for a law whose defs may show lists -/
theorem law_callG {P : Program} {w : World} {K : PySem.W.Frag} {mg mb : Str → Option Value} {k : Nat} {fa a : Addr} {fd : FuncData} {x : Str} {sp : Sp} {s1 : Shared} {vs : List Value} {ns : List Int}
    (KX : K.In s1.heap) (hns : s1.heap.Ns mainGlobals mg) (hb : s1.heap.Ns builtinsNs mb) (hbb : ∀ x : Str, x ≠ "__name__" → mb x = bootBuiltins x) (hlim : s1.heap.NoLimit) (hg : s1.gens = #[])
    (ha : s1.heap.get? a = some { cls := .type "list", data := .seq vs.toArray }) (hi : IntsAre vs ns) (hl : ns.length ≤ sizeLine) (hr : Room k callerA)
    (F : ∀ base : Heap, K.In base → base.Ns mainGlobals mg → FnG P w K mg base k fa fd [x] sp) (hbind : ∀ (s : Shared) (u : Value), BindsTo s fd ⟨[u], []⟩ [(x, u)])
    (hsp : ∀ H : Hp, Only H → SqL K H a (ns.map V.int) → sp [.ref a] H (fun v _ => v = .bl true) fun _ _ _ => False) :
    codeAny (model P w) callerA (.call (.ref fa) ⟨[.ref a], []⟩) (fun r s' => r = .ok (.ret (.bool true)) ∧ OldK s1.heap s'.heap ∧ s'.os = s1.os ∧ AllBare s'.gens) s1 := by
  have rv : Vals (ns.map V.int) vs := L2.vals_ints hi
  have core : ∀ H : Hp, Only H → SqL K H a (ns.map V.int) → HOk P w H s1.heap → (∀ b, H b ≠ none → b = a) → (H a ≠ none → K.lookup a = none) →
      codeAny (model P w) callerA (.call (.ref fa) ⟨[.ref a], []⟩) (fun r s' => r = .ok (.ret (.bool true)) ∧ OldK s1.heap s'.heap ∧ s'.os = s1.os ∧ AllBare s'.gens) s1 := by
    intro H hO hS hok hA hK
    have noneOf : ∀ {b : Addr}, b ≠ a → H b = none := fun {b} hb => Classical.byContradiction fun q => hb (hA b q)
    have noA : ∀ {b : Addr} {o : Obj} {es : Array DictEntry} {ep : Nat}, s1.heap.get? b = some o → o.data = .dict es ep → H b = none := fun {b o es ep} e d => noneOf fun eb => by
      subst eb
      rw [ha] at e
      cases e
      have d' : Data.seq vs.toArray _ = Data.dict es ep := d
      cases d'
    have nsK : ∀ {b : Addr} {m : Str → Option Value}, s1.heap.Ns b m → (hidT s1.heap H).Ns b m := fun {b m} ⟨o, es, ep, e, d, r⟩ => ⟨o, es, ep, hidT_get e (noA e d), d, r⟩
    have hKb : K.In (hidT s1.heap H) := fun b o e => hidT_get (KX b o e) (by
      cases q : H b with
      | none => rfl
      | some u =>
        have e' : b = a := hA b (by rw [q]; simp)
        subst e'
        rw [hK (by rw [q]; simp)] at e
        cases e)
    have hM : Mod K mg (hidT s1.heap H) := ⟨hKb, nsK hns, ⟨mb, nsK hb, hbb⟩, let ⟨mc, h1, h2⟩ := hlim; ⟨mc, nsK h1, h2⟩⟩
    have e0 : Env0 P w K mg (hidT s1.heap H) callerA [] s1 H := ⟨rfl, hM, fun b o e => of_hidT e, Nat.le_of_eq (hidT_size _ _), trivial, fun b hb => absurd (show b ∈ ([] : List Addr) from hb) (by simp), hok, .of_eq hg⟩
    refine codeAny_mono ((F _ hKb (nsK hns)).run callerA [] s1 H ⟨[.ref a], []⟩ [.ref a] [.ref a] _ _ rfl hr e0 (hbind s1 (.ref a)) (.cons rfl .nil) (hsp H hO hS)) fun r s' h => ?_
    cases r with
    | error e => exact False.elim h
    | ok fl =>
      cases fl with
      | next => exact False.elim h
      | brk => exact False.elim h
      | cont => exact False.elim h
      | ret u =>
        obtain ⟨v, H', os, bare, un, hok', r', q⟩ := h
        obtain rfl : v = .bl true := q
        obtain rfl : u = Value.bool true := r'
        refine ⟨rfl, OldK.of_keep fun b o e => ?_, os, bare⟩
        rcases hO b with z | ⟨ob, xs, z⟩
        · exact un.keep b o e z (by intro y; exact absurd (show b ∈ ([] : List Addr) from y) (by simp)) (by simp)
        · obtain ⟨e1, _⟩ := hok b _ z
          obtain ⟨e2, _⟩ := hok' b _ (un.frzs b ob _ z)
          rw [e] at e1
          cases e1
          exact e2
  cases hk : K.lookup a with
  | some o =>
    have e := KX a o hk
    rw [ha] at e
    cases e
    refine core (fun _ => none) (fun _ => .inl rfl) (.inr ⟨_, vs.toArray, _, hk, rfl, rfl, rfl, by rw [List.size_toArray, hi.length]; exact hl, by simpa using rv⟩) (fun b u z => by cases (show (none : Option HO) = some u from z)) (fun b z => absurd rfl z) fun z => absurd rfl z
  | none =>
    refine core (fun b => if b = a then some (.frz { cls := .type "list", data := .seq vs.toArray } (.lst (ns.map V.int))) else none) (fun b => ?_) (.inl (.inr ⟨{ cls := .type "list", data := .seq vs.toArray }, if_pos rfl⟩)) (fun b u z => ?_) (fun b z => ?_) fun _ => hk
    · by_cases hb : b = a
      · exact .inr ⟨_, _, if_pos hb⟩
      · exact .inl (if_neg hb)
    · by_cases hb : b = a
      · have z' := (if_pos hb).symm.trans z
        cases z'
        subst hb
        exact ⟨ha, by rw [List.length_map]; exact hl, vs, _, rv, ha⟩
      · have z' := (if_neg hb).symm.trans z
        cases z'
    · by_cases hb : b = a
      · exact hb
      · exact absurd (if_neg hb) z

theorem walk_ofG {l : PySem.W.OpenLaw} {n k : Nat} {q : Program} {loose : List Str} {XP : (Str → Option Value) → Heap → Prop} {YP : World → Heap → Prop} {d : DefRec} {K : Params → PySem.W.Frag} {sp : PySem.W.Frag → Sp} {x : Str}
    (hn : l.most = some n) (hn2 : n ≤ sizeLine) (hdf : d.params.defaults = []) (hr : Room k callerA)
    (hY : ∀ (w : World) (h : Heap), YP w h → (K w.params).In h)
    (F : ∀ (w : World) (mg : Str → Option Value) (fa : Addr) (h : Heap), (K w.params).In h → h.Ns mainGlobals mg → mg d.name = some (.ref fa) →
      ∃ fd : FuncData, (∀ (s : Shared) (u : Value), BindsTo s fd ⟨[u], []⟩ [(x, u)]) ∧
        ∀ base : Heap, (K w.params).In base → base.Ns mainGlobals mg → FnG l.prog w (K w.params) mg base k fa fd [x] (sp (K w.params)))
    (hsp : ∀ (K : PySem.W.Frag) (H : Hp) (a : Addr) (ns : List Int), ns.length ≤ n → Only H → SqL K H a (ns.map V.int) → sp K [.ref a] H (fun v _ => v = .bl true) fun _ _ _ => False) :
    PySem.W.WalkO q loose XP YP l.row.toRowW d [] (fun f vs => PySem.call f vs) := by
  refine Att.attach_call hn hdf fun w s0 s1 mg mb fa o pm cd doc a vs ns G Y ho hd hcd hmg hobj hints hlen hg => ?_
  have KX := hY w _ Y
  obtain ⟨fd, hb, hF⟩ := F w mg fa _ KX G.T.g hmg
  exact law_callG KX G.T.g G.T.b G.T.builtins G.T.nolimit hg hobj hints (Nat.le_trans hlen hn2) hr hF hb (fun H hO hS => hsp _ H a ns hlen hO hS)
end Ct
end
section
set_option Elab.async false
set_option linter.all false
set_option maxRecDepth 100000
set_option maxHeartbeats 4000000
/-! Sets of pairs with up to some thousand members: the masks 7 .. 2047. -/
namespace Ct
open PySem PySem.Spec PyProof.Rows L2

def MB (m : Nat) : Prop := m = 7 ∨ m = 31 ∨ m = 127 ∨ m = 511 ∨ m = 2047
theorem MB.le {m : Nat} (h : MB m) : 7 ≤ m ∧ m ≤ 2047 := by
  rcases h with e | e | e | e | e <;> omega
theorem MB.odd {m : Nat} (h : MB m) : m % 2 = 1 := by
  rcases h with e | e | e | e | e <;> subst e <;> rfl

/-! the orbit of i -> 5 i + 1, gathered as bits -/
def orb (m : Nat) : Nat → Nat → Nat → Nat × Nat
  | 0, x, acc => (acc, x)
  | n + 1, x, acc => orb m n ((x * 5 + 1) % (m + 1)) (acc ||| (1 <<< x))
theorem lcgI_front (m : Nat) : ∀ (k x : Nat), lcgI m ((x * 5 + 1) % (m + 1)) k = lcgI m x (k + 1)
  | 0, _ => rfl
  | k + 1, x => by
    have ih := lcgI_front m k x
    show (lcgI m ((x * 5 + 1) % (m + 1)) k * 5 + 1) % (m + 1) = (lcgI m x (k + 1) * 5 + 1) % (m + 1)
    rw [ih]
theorem lcgI_plus (m x a : Nat) : ∀ k, lcgI m x (a + k) = lcgI m (lcgI m x a) k
  | 0 => rfl
  | k + 1 => by
    have ih := lcgI_plus m x a k
    show (lcgI m x (a + k) * 5 + 1) % (m + 1) = (lcgI m (lcgI m x a) k * 5 + 1) % (m + 1)
    rw [ih]
theorem orb_spec (m : Nat) : ∀ (n x acc : Nat), (orb m n x acc).2 = lcgI m x n ∧ ∀ j, (orb m n x acc).1.testBit j = true → acc.testBit j = true ∨ ∃ b, b < n ∧ lcgI m x b = j
  | 0, x, acc => ⟨rfl, fun j h => .inl h⟩
  | n + 1, x, acc => by
    obtain ⟨h1, h2⟩ := orb_spec m n ((x * 5 + 1) % (m + 1)) (acc ||| (1 <<< x))
    refine ⟨?_, fun j h => ?_⟩
    · show (orb m n ((x * 5 + 1) % (m + 1)) (acc ||| (1 <<< x))).2 = _
      rw [h1, lcgI_front]
    · rcases h2 j h with k | ⟨b, hb, e⟩
      · rw [Nat.testBit_or, Bool.or_eq_true] at k
        rcases k with k | k
        · exact .inl k
        · refine .inr ⟨0, Nat.succ_pos _, ?_⟩
          show x = j
          rw [Nat.one_shiftLeft, Nat.testBit_two_pow] at k
          exact of_decide_eq_true k
      · exact .inr ⟨b + 1, Nat.succ_lt_succ hb, by rw [← lcgI_front]; exact e⟩
theorem orb7 : orb 7 8 0 0 = (2 ^ 8 - 1, 0) := by decide +kernel
theorem orb31 : orb 31 32 0 0 = (2 ^ 32 - 1, 0) := by decide +kernel
theorem orb127 : orb 127 128 0 0 = (2 ^ 128 - 1, 0) := by decide +kernel
theorem orb511 : orb 511 512 0 0 = (2 ^ 512 - 1, 0) := by decide +kernel
theorem orb2047 : orb 2047 2048 0 0 = (2 ^ 2048 - 1, 0) := by decide +kernel
theorem MB.orb {m : Nat} (h : MB m) : orb m (m + 1) 0 0 = (2 ^ (m + 1) - 1, 0) := by
  rcases h with e | e | e | e | e <;> subst e
  · exact orb7
  · exact orb31
  · exact orb127
  · exact orb511
  · exact orb2047
theorem MB.hit {m : Nat} (h : MB m) {j : Nat} (hj : j ≤ m) : ∃ b, b ≤ m ∧ lcgI m 0 b = j := by
  have e := (orb_spec m (m + 1) 0 0).2 j (by
    rw [h.orb]
    show (2 ^ (m + 1) - 1).testBit j = true
    rw [Nat.testBit_two_pow_sub_one]
    exact decide_eq_true (by omega))
  rcases e with e | ⟨b, hb, e⟩
  · rw [Nat.zero_testBit] at e
    cases e
  · exact ⟨b, by omega, e⟩
theorem MB.round {m : Nat} (h : MB m) : lcgI m 0 (m + 1) = 0 := by
  rw [← (orb_spec m (m + 1) 0 0).1, h.orb]
theorem MB.all {m : Nat} (h : MB m) {i j : Nat} (hi : i ≤ m) (hj : j ≤ m) : ∃ k, k ≤ m ∧ lcgI m i k = j := by
  obtain ⟨a, ha, ea⟩ := h.hit hi
  obtain ⟨b, hb, eb⟩ := h.hit hj
  by_cases c : a ≤ b
  · refine ⟨b - a, by omega, ?_⟩
    rw [← ea, ← lcgI_plus, show a + (b - a) = b by omega, eb]
  · refine ⟨b + (m + 1) - a, by omega, ?_⟩
    rw [← ea, ← lcgI_plus, show a + (b + (m + 1) - a) = (m + 1) + b by omega, lcgI_plus, h.round, eb]
theorem MB.meets {m : Nat} (hm : MB m) (h : Int) {j : Nat} (hj : j ≤ m) : ∃ n, n ≤ m + 12 ∧ runI m (SetTable.bits h) n = j := by
  obtain ⟨k, hk, e⟩ := hm.all (runI_le m (SetTable.bits h) 12) hj
  exact ⟨12 + k, by omega, by rw [runI_tail (bits_lt h)]; exact e⟩
theorem MB.nth {m : Nat} (hm : MB m) (h : Int) {j : Nat} (hj : j ≤ m) : ∃ k, k < 10 * SetTable.turns m ∧ way m h k = j := by
  obtain ⟨n, hn, e⟩ := hm.meets h hj
  obtain ⟨k, hk, e2⟩ := run_nth m (SetTable.bits h) n
  refine ⟨k, by unfold SetTable.turns; omega, ?_⟩
  show (L2.nth m (runAt m (SetTable.bits h % (m + 1)) (SetTable.bits h)) k).j = j
  rw [e2]
  exact e
theorem way_in {m : Nat} {h : Int} {k : Nat} : way m h k ≤ m := by
  have hi : SetTable.bits h % (m + 1) ≤ m := Nat.le_of_lt_succ (Nat.mod_lt _ (Nat.succ_pos _))
  have r := runEnd_bd hi
  have q := nth_in (m := m) k (runAt m (SetTable.bits h % (m + 1)) (SetTable.bits h)) (by
    show SetTable.bits h % (m + 1) + (SetTable.runEnd m (SetTable.bits h % (m + 1)) - SetTable.bits h % (m + 1)) ≤ m
    omega)
  show (L2.nth m (runAt m (SetTable.bits h % (m + 1)) (SetTable.bits h)) k).j ≤ m
  omega

/-! a table from whose hashes each slot is found again -/
structure TB (t : SetTable) (hs : List Int) : Prop where
  ris : Ris t.place.toList
  dm : t.dummies = #[]
  sz : t.place.size = hs.length
  mok : MB t.mask
  bd : ∀ x ∈ t.place.toList, x ≤ t.mask
  reach : ∀ (i : Nat) (h : Int) (j : Nat), hs[i]? = some h → t.place.toList[i]? = some j → ∃ k, way t.mask h k = j ∧ ∀ c, c < k → way t.mask h c ∈ t.place.toList
theorem TB.len {t : SetTable} {hs : List Int} (T : TB t hs) : t.place.toList.length = hs.length := by
  rw [Array.length_toList]
  exact T.sz
theorem TB.first {t : SetTable} {hs : List Int} (T : TB t hs) (hl : hs.length ≤ t.mask) (h : Int) : ∃ K, K < 10 * SetTable.turns t.mask ∧ way t.mask h K ∉ t.place.toList ∧ ∀ k, k < K → way t.mask h k ∈ t.place.toList := by
  obtain ⟨j, hj, hn⟩ := st_missing t.place.toList (t.mask + 1) (by rw [T.len]; omega)
  obtain ⟨k, hk, e⟩ := T.mok.nth h (Nat.le_of_lt_succ hj)
  obtain ⟨K, h1, h2, h3⟩ := st_least (p := fun k => way t.mask h k ∉ t.place.toList) k (by rw [e]; exact hn)
  exact ⟨K, Nat.lt_of_le_of_lt h1 hk, h2, fun c hc => Classical.byContradiction fun q => h3 c hc q⟩
theorem TB.before {t : SetTable} {hs : List Int} (T : TB t hs) {h : Int} {K i j : Nat} (hK : way t.mask h K ∉ t.place.toList) (hi : hs[i]? = some h) (hj : t.place.toList[i]? = some j) : ∃ k, k < K ∧ way t.mask h k = j := by
  obtain ⟨k, e, hb⟩ := T.reach i h j hi hj
  refine ⟨k, ?_, e⟩
  rcases Nat.lt_trichotomy k K with c | c | c
  · exact c
  · exact absurd (by rw [← c, e]; exact List.mem_of_getElem? hj) hK
  · exact absurd (hb K c) hK
theorem TB.put {t : SetTable} {hs : List Int} (T : TB t hs) {h : Int} {K : Nat} (hK : way t.mask h K ∉ t.place.toList) (hb : ∀ k, k < K → way t.mask h k ∈ t.place.toList) :
    (t.put (way t.mask h K)).2 = SetTable.below t.place (way t.mask h K) ∧ SetTable.below t.place (way t.mask h K) ≤ hs.length ∧
    TB (t.put (way t.mask h K)).1 (hs.take (SetTable.below t.place (way t.mask h K)) ++ h :: hs.drop (SetTable.below t.place (way t.mask h K))) ∧
    (t.put (way t.mask h K)).1.mask = t.mask ∧ (t.put (way t.mask h K)).1.led = t.led ∧ (t.put (way t.mask h K)).1.plain = t.plain ∧
    (t.put (way t.mask h K)).1.fill = hs.length + 1 := by
  have hjm : way t.mask h K ≤ t.mask := way_in
  obtain ⟨j, hj⟩ : ∃ j, j = way t.mask h K := ⟨_, rfl⟩
  rw [← hj] at hK hjm ⊢
  obtain ⟨c1, _, _⟩ := below_cut T.ris j
  have hpl : SetTable.below t.place j ≤ t.place.toList.length := by rw [Array.length_toList]; exact c1
  have hph : SetTable.below t.place j ≤ hs.length := by rw [← T.sz]; exact c1
  have hnp : t.place[SetTable.below t.place j]? ≠ some j := fun e => hK (List.mem_of_getElem? (by rw [Array.getElem?_toList]; exact e))
  have hpp := put_place t j
  have hsize : (t.put j).1.place.size = hs.length + 1 := by
    rw [← Array.length_toList, hpp, len_ins _ hpl, T.len]
  have up : ∀ {x : Nat}, x ∈ t.place.toList → x ∈ (t.put j).1.place.toList := fun {x} hx => by
    rw [hpp]
    exact mem_ins.2 (.inr hx)
  refine ⟨rfl, hph, ⟨ris_insert T.ris hnp, put_dm T.dm j, ?_, T.mok, fun x hx => ?_, fun i h' j' h1 h2 => ?_⟩, rfl, rfl, rfl, ?_⟩
  · rw [len_ins _ hph]
    exact hsize
  · rw [hpp] at hx
    rcases mem_ins.1 hx with z | z
    · rw [z]; exact hjm
    · exact T.bd x z
  · rw [tins_get hs hph] at h1
    rw [hpp, tins_get _ hpl] at h2
    show ∃ k, way t.mask h' k = j' ∧ ∀ c, c < k → way t.mask h' c ∈ (t.put j).1.place.toList
    by_cases c : i < SetTable.below t.place j
    · rw [if_pos c] at h1 h2
      obtain ⟨k, e, z⟩ := T.reach i h' j' h1 h2
      exact ⟨k, e, fun c hc => up (z c hc)⟩
    · rw [if_neg c] at h1 h2
      by_cases d : i = SetTable.below t.place j
      · rw [if_pos d] at h1 h2
        obtain rfl : h = h' := Option.some.inj h1
        obtain rfl : j = j' := Option.some.inj h2
        exact ⟨K, hj.symm, fun c hc => up (hb c hc)⟩
      · rw [if_neg d] at h1 h2
        obtain ⟨k, e, z⟩ := T.reach (i - 1) h' j' h1 h2
        exact ⟨k, e, fun c hc => up (z c hc)⟩
  · show (t.put j).1.place.size + (t.put j).1.dummies.size = hs.length + 1
    rw [hsize, put_dm T.dm j] <;> rfl

/-! laying anew -/
theorem mb_free {m : Nat} (hm : MB m) (owner : Array (Option Nat)) (h : Int) {j : Nat} (hj : j ≤ m) (hf : oAt owner j = none) :
    ∃ K, SetTable.layClean.free m owner (SetTable.turns m) (SetTable.bits h % (m + 1)) (SetTable.bits h) = some (way m h K) ∧ oAt owner (way m h K) = none ∧ ∀ k, k < K → oAt owner (way m h k) ≠ none := by
  obtain ⟨n, hn, e⟩ := hm.meets h hj
  have hw : way m h (off m (SetTable.bits h % (m + 1)) (SetTable.bits h) n) = j := by
    show (L2.nth m (runAt m (SetTable.bits h % (m + 1)) (SetTable.bits h)) (off m (SetTable.bits h % (m + 1)) (SetTable.bits h) n)).j = j
    rw [nth_off, itL_run]
    exact e
  obtain ⟨K, k1, k2, k3⟩ := st_least (p := fun k => oAt owner (way m h k) = none) (off m (SetTable.bits h % (m + 1)) (SetTable.bits h) n) (by rw [hw]; exact hf)
  refine ⟨K, ?_, k2, k3⟩
  refine free_spec m owner (SetTable.turns m) n _ _ K (by unfold SetTable.turns; omega) k1 (fun k hk => ?_) ?_
  · have q := k3 k hk
    cases z : oAt owner (L2.nth m (runAt m (SetTable.bits h % (m + 1)) (SetTable.bits h)) k).j with
    | none => exact absurd z q
    | some _ => rfl
  · have q : oAt owner (L2.nth m (runAt m (SetTable.bits h % (m + 1)) (SetTable.bits h)) K).j = none := k2
    rw [q] <;> rfl
theorem mb_step {m : Nat} (hm : MB m) {done : List Int} {owner : Array (Option Nat)} (W : Own m done owner) (hl : done.length ≤ m) (h : Int) :
    ∃ j, SetTable.layClean.free m owner (SetTable.turns m) (SetTable.bits h % (m + 1)) (SetTable.bits h) = some j ∧ Own m (done ++ [h]) (owner.setIfInBounds j (some done.length)) := by
  obtain ⟨ps, hps, hin⟩ := W.ps
  obtain ⟨j0, h0, hn0⟩ := st_missing ps (m + 1) (by omega)
  have hj0 : oAt owner j0 = none := by
    cases z : oAt owner j0 with
    | none => rfl
    | some k => exact absurd (hin j0 (Nat.le_of_lt_succ h0) (by rw [z]; exact fun e => nomatch e)) hn0
  obtain ⟨K, e1, e2, e3⟩ := mb_free hm owner h (Nat.le_of_lt_succ h0) hj0
  have hjm : way m h K ≤ m := way_in
  have hjs : way m h K < owner.size := by rw [W.sz]; exact Nat.lt_succ_of_le hjm
  refine ⟨way m h K, e1, ?_⟩
  have hself := oAt_set_self (some done.length) hjs
  have mono : ∀ {i : Nat}, oAt owner i ≠ none → oAt (owner.setIfInBounds (way m h K) (some done.length)) i ≠ none := fun {i} hi => by
    by_cases c : i = way m h K
    · rw [c, hself]; exact fun e => nomatch e
    · rw [oAt_set_ne _ c]; exact hi
  refine ⟨by rw [Array.size_setIfInBounds]; exact W.sz, fun j k hj e => ?_, fun k hk => ?_, ⟨way m h K :: ps, by rw [List.length_cons, List.length_append, hps] <;> rfl, fun j hj e => ?_⟩⟩
  · by_cases c : j = way m h K
    · rw [c, hself] at e
      have ek : done.length = k := Option.some.inj e
      refine ⟨h, K, ?_, c.symm, fun c' hc => mono (e3 c' hc)⟩
      rw [← ek, List.getElem?_append_right (Nat.le_refl _), Nat.sub_self] <;> rfl
    · rw [oAt_set_ne _ c] at e
      obtain ⟨h', K', a1, a2, a3⟩ := W.at_ j k hj e
      refine ⟨h', K', ?_, a2, fun c' hc => mono (a3 c' hc)⟩
      rw [List.getElem?_append_left (List.getElem?_eq_some_iff.mp a1).1]
      exact a1
  · rw [List.length_append, List.length_singleton] at hk
    by_cases c : k < done.length
    · obtain ⟨j, hj, e⟩ := W.all k c
      refine ⟨j, hj, ?_⟩
      rw [oAt_set_ne _ (fun z => by rw [z, e2] at e; cases e)]
      exact e
    · have ek : k = done.length := by omega
      rw [ek]
      exact ⟨way m h K, hjm, hself⟩
  · by_cases c : j = way m h K
    · rw [c]; exact List.mem_cons_self
    · rw [oAt_set_ne _ c] at e
      exact List.mem_cons_of_mem _ (hin j hj e)
theorem mb_fold {m : Nat} (hm : MB m) : ∀ (rest done : List Int) (owner : Array (Option Nat)), Own m done owner → done.length + rest.length ≤ m →
    ∃ owner', rest.foldl (stepF m) (some (owner, done.length)) = some (owner', (done ++ rest).length) ∧ Own m (done ++ rest) owner'
  | [], done, owner, W, _ => ⟨owner, by rw [List.append_nil] <;> rfl, by rw [List.append_nil]; exact W⟩
  | h :: rest, done, owner, W, hl => by
    rw [List.length_cons] at hl
    obtain ⟨j, e, W'⟩ := mb_step hm W (by omega) h
    have hl' : (done ++ [h]).length = done.length + 1 := by rw [List.length_append] <;> rfl
    obtain ⟨owner', f, W2⟩ := mb_fold hm rest (done ++ [h]) _ W' (by rw [hl']; omega)
    have ea : done ++ [h] ++ rest = done ++ h :: rest := by rw [List.append_assoc] <;> rfl
    rw [ea, hl'] at f
    rw [ea] at W2
    refine ⟨owner', ?_, W2⟩
    rw [List.foldl_cons, stepF_some e]
    exact f
theorem mb_clean {m : Nat} (hm : MB m) {hs : Array Int} (hn : hs.size ≤ m) : ∃ owner, SetTable.layClean m hs = some owner ∧ Own m hs.toList owner := by
  obtain ⟨owner, f, W⟩ := mb_fold hm hs.toList [] _ (Own.init m) (by rw [Array.length_toList]; show 0 + hs.size ≤ m; omega)
  rw [List.nil_append] at W f
  refine ⟨owner, ?_, W⟩
  rw [layClean_eq]
  have f' : hs.toList.foldl (stepF m) (some (Array.replicate (m + 1) none, 0)) = some (owner, hs.toList.length) := f
  rw [f'] <;> rfl
theorem mb_relaid (t : SetTable) {hs : Array Int} {wanted M : Nat} (hw : SetTable.sizeAbove wanted - 1 = M) (hM : MB M) (hn : hs.size ≤ M) :
    ∃ t' order, t.relaid hs wanted = some (t', order) ∧ order.toList.Perm (List.range hs.size) ∧ TB t' (order.toList.map fun i => hs.getD i 0) ∧ t'.mask = M ∧ t'.led = t.led ∧ t'.plain = t.plain := by
  obtain ⟨owner, e, W⟩ := mb_clean hM hn
  have hr : t.relaid hs wanted = some (tabOf t M owner, ((liveOf M owner).map (·.2)).toArray) := by
    rw [relaid_eq, hw, e] <;> rfl
  have ris := ris_live (fun j => owner.getD j none) (List.range (M + 1)) (by
    unfold Ris
    first | exact List.pairwise_lt_range | exact List.pairwise_lt_range _)
  have r1 : Ris ((liveOf M owner).map (·.1)) := ris.1
  have r2 : ∀ x ∈ (liveOf M owner).map (·.1), x ∈ List.range (M + 1) := ris.2
  have nd : ((liveOf M owner).map (·.1)).Nodup := List.Pairwise.imp (fun h => Nat.ne_of_lt h) r1
  have hlen : (liveOf M owner).length = hs.size := by
    obtain ⟨ps, p1, p2⟩ := W.ps
    have a := nat_nodup_len ((liveOf M owner).map (·.1)) ps nd fun x hx => by
      obtain ⟨⟨y, k⟩, hq, ey⟩ := List.mem_map.mp hx
      obtain rfl : y = x := ey
      obtain ⟨b1, b2⟩ := (mem_live W.sz).1 hq
      exact p2 y b1 (by rw [b2]; exact fun z => nomatch z)
    have b := nat_nodup_len (List.range hs.size) ((liveOf M owner).map (·.2)) List.nodup_range fun k hk => by
      obtain ⟨j, b1, b2⟩ := W.all k (by rw [Array.length_toList]; exact List.mem_range.mp hk)
      exact List.mem_map.mpr ⟨(j, k), (mem_live W.sz).2 ⟨b1, b2⟩, rfl⟩
    rw [List.length_map, p1] at a
    rw [List.length_map, List.length_range] at b
    have hz : hs.toList.length = hs.size := rfl
    omega
  refine ⟨tabOf t M owner, ((liveOf M owner).map (·.2)).toArray, hr, ?_, ⟨r1, rfl, ?_, hM, fun x hx => ?_, fun i h j h1 h2 => ?_⟩, rfl, rfl, rfl⟩
  · refine perm_range hs.size _ ?_ fun k hk => ?_
    · show ((liveOf M owner).map (·.2)).length = hs.size
      rw [List.length_map]; exact hlen
    · obtain ⟨j, b1, b2⟩ := W.all k (by rw [Array.length_toList]; exact hk)
      exact List.mem_map.mpr ⟨(j, k), (mem_live W.sz).2 ⟨b1, b2⟩, rfl⟩
  · show ((liveOf M owner).map (·.1)).toArray.size = (((liveOf M owner).map (·.2)).map fun i => hs.getD i 0).length
    rw [List.size_toArray, List.length_map, List.length_map, List.length_map]
  · exact Nat.le_of_lt_succ (List.mem_range.mp (r2 x hx))
  · have h1' : (((liveOf M owner).map (·.2)).map fun i => hs.getD i 0)[i]? = some h := h1
    have h2' : ((liveOf M owner).map (·.1))[i]? = some j := h2
    rw [List.getElem?_map, List.getElem?_map] at h1'
    rw [List.getElem?_map] at h2'
    cases hq : (liveOf M owner)[i]? with
    | none => rw [hq] at h2'; cases h2'
    | some q =>
      obtain ⟨y, k⟩ := q
      rw [hq] at h1' h2'
      obtain rfl : y = j := Option.some.inj h2'
      have eh : hs.getD k 0 = h := Option.some.inj h1'
      obtain ⟨b1, b2⟩ := (mem_live W.sz).1 (List.mem_of_getElem? hq)
      obtain ⟨h0, K, a1, a2, a3⟩ := W.at_ y k b1 b2
      have e0 : hs.getD k 0 = h0 := by
        rw [Array.getD_eq_getD_getElem?, ← Array.getElem?_toList, a1] <;> rfl
      obtain rfl : h0 = h := e0.symm.trans eh
      refine ⟨K, a2, fun c hc => ?_⟩
      show way M h0 c ∈ (liveOf M owner).map (·.1)
      cases z : oAt owner (way M h0 c) with
      | none => exact absurd z (a3 c hc)
      | some k2 => exact List.mem_map.mpr ⟨(way M h0 c, k2), (mem_live W.sz).2 ⟨way_in, z⟩, rfl⟩
theorem size_b1 : SetTable.sizeAbove (SetTable.grown 5) = 32 := by decide +kernel
theorem size_b2 : SetTable.sizeAbove (SetTable.grown 19) = 128 := by decide +kernel
theorem size_b3 : SetTable.sizeAbove (SetTable.grown 77) = 512 := by decide +kernel
theorem size_b4 : SetTable.sizeAbove (SetTable.grown 307) = 2048 := by decide +kernel
end Ct
end
section
set_option Elab.async false
set_option linter.all false
set_option maxRecDepth 100000
set_option maxHeartbeats 8000000
namespace Ct
open PySem PySem.Spec PyProof.Rows L2

/-- the set at a holds the rows L, its table in order -/
structure SB (P : Program) (w : World) (h : Heap) (a : Addr) (L : List (Addr × List Int)) (es : Array (Int × Value)) (ep : Nat) (t : SetTable) : Prop where
  ob : ∃ o, h.get? a = some o ∧ o.ExactSet ∧ o.data = .set es ep t
  rows : es.toList = rowsOf P w L
  tab : TB t (L.map fun p => thash P w p.2)
  nd : (L.map (·.2)).Nodup
  tup : ∀ p ∈ L, IsT P w h p.2 p.1
  plain : t.plain = true
  led : w.params.followText "set-order" = true ∨ t.led = true
  room : L.length * 5 < t.mask * 3
  few : L.length < 1229
section
variable {P : Program} {w : World} {A : Around} {E : Value → Shared → Prop} {s : Shared}
variable {a : Addr} {L : List (Addr × List Int)} {es : Array (Int × Value)} {ep : Nat} {t : SetTable}
theorem SB.size {h : Heap} (R : SB P w h a L es ep t) : es.size = L.length := by
  have h := congrArg List.length R.rows
  unfold rowsOf at h
  rw [Array.length_toList, List.length_map] at h
  exact h
theorem SB.fits {h : Heap} (R : SB P w h a L es ep t) : t.fits es.size = true := by
  have h1 := R.tab.sz
  rw [List.length_map] at h1
  have h2 := R.size
  have h3 := R.room
  unfold SetTable.fits SetTable.fill
  rw [R.tab.dm, Bool.and_eq_true, beq_iff_eq, decide_eq_true_eq]
  show t.place.size = es.size ∧ t.place.size + 0 ≤ t.mask
  omega
theorem SB.entry {h : Heap} (R : SB P w h a L es ep t) {i : Nat} {p : Addr × List Int} (hp : L[i]? = some p) : es[i]? = some (thash P w p.2, Value.ref p.1) := by
  rw [← Array.getElem?_toList, R.rows]
  unfold rowsOf
  rw [List.getElem?_map, hp] <;> rfl
theorem SB.gw {h : Heap} (R : SB P w h a L es ep t) : ¬ t.gaveWay = true := by
  unfold SetTable.gaveWay
  rw [R.tab.mok.odd]
  decide

theorem sb_search (R : SB P w s.heap a L es ep t) {x : Addr} {k : List Int} (hx : IsT P w s.heap k x) (hu : A.units < cLine) {K : Nat} (hKf : K < 10 * SetTable.turns t.mask)
    (hK : way t.mask (thash P w k) K ∉ t.place.toList) (hKb : ∀ c, c < K → way t.mask (thash P w k) c ∈ t.place.toList) {Q : SetFound → Shared → Prop}
    (hin : k ∈ L.map (·.2) → Q (.there none) s) (hout : k ∉ L.map (·.2) → Q (.free (way t.mask (thash P w k) K) false) s) :
    ∀ (f c : Nat) (stand : Option SetTable.Probe), stand.getD (t.probeStart (thash P w k)) = L2.nth t.mask (runAt t.mask (SetTable.bits (thash P w k) % (t.mask + 1)) (SetTable.bits (thash P w k))) c → c ≤ K → K - c < f →
      (∀ (i : Nat) p, L[i]? = some p → p.2 = k → ∃ c', c ≤ c' ∧ c' < K ∧ t.place.toList[i]? = some (way t.mask (thash P w k) c')) →
      wpAny (model P w) A (setSearchFrom a (.ref x) (thash P w k) true f stand) Q E s
  | 0, c, stand, _, _, hf, _ => absurd hf (Nat.not_lt_zero _)
  | f + 1, c, stand, hst, hc, hf, hre => by
    obtain ⟨o, ho, hex, hd⟩ := R.ob
    obtain ⟨p0, hp0⟩ : ∃ p0, p0 = runAt t.mask (SetTable.bits (thash P w k) % (t.mask + 1)) (SetTable.bits (thash P w k)) := ⟨_, rfl⟩
    have hway : ∀ q, way t.mask (thash P w k) q = (L2.nth t.mask p0 q).j := fun q => by rw [hp0]
    rw [← hp0] at hst
    rw [setSearchFrom_succ]
    refine wpAny_bind (wpAny_setState_of ho hd R.fits ?_)
    dsimp only
    refine wp_if_neg R.gw ?_
    try refine wpAny_bind (wpAny_pure ?_)
    have hnd : (L2.nth t.mask p0 c).dummy = none := by
      have key : ∀ (n : Nat) (p : SetTable.Probe), p.dummy = none → (L2.nth t.mask p n).dummy = none := by
        intro n
        induction n with
        | zero => intro p h; exact h
        | succ n ih =>
          intro p h
          refine ih (adv t.mask p) ?_
          unfold adv
          split <;> exact h
      exact key c _ (by rw [hp0]; rfl)
    have sh : ∀ q, L2.nth t.mask (L2.nth t.mask p0 c) q = L2.nth t.mask p0 (c + q) := fun q => (nth_add t.mask c _ q).symm
    have e1 : ∀ q, (L2.nth t.mask (L2.nth t.mask p0 c) q).j = way t.mask (thash P w k) (c + q) := fun q => by rw [hway, sh]
    have spec := go_spec t R.tab.ris R.tab.dm (fun i => (es[i]?.map (·.1)).getD 0) (thash P w k) (10 * SetTable.turns t.mask) (K - c) _ hnd (by omega)
      (fun q hq => by rw [e1]; exact hKb (c + q) (by omega)) (by rw [e1, show c + (K - c) = K by omega]; exact hK)
    have hashAt : ∀ (i : Nat) p, L[i]? = some p → (fun i => (es[i]?.map (·.1)).getD 0) i = thash P w p.2 := fun i p hp => by
      show (es[i]?.map (·.1)).getD 0 = _
      rw [R.entry hp] <;> rfl
    rcases spec with ⟨q, i, hq, hi, hh, hno, hpr⟩ | ⟨hno, hpr⟩
    · have hpr' : t.probe (fun i => (es[i]?.map (·.1)).getD 0) (thash P w k) (stand.getD (t.probeStart (thash P w k))) = some (.candidate (way t.mask (thash P w k) (c + q)) i (L2.nth t.mask p0 (c + (q + 1)))) := by
        rw [hst, ← e1, ← sh]
        exact hpr
      rw [hpr']
      dsimp only
      rw [e1] at hi
      have hil : i < L.length := by
        have h1 : i < t.place.toList.length := (List.getElem?_eq_some_iff.mp hi).1
        rw [R.tab.len, List.length_map] at h1
        exact h1
      have hp : L[i]? = some L[i] := List.getElem?_eq_getElem hil
      generalize L[i] = p at hp
      have hmem : p ∈ L := List.mem_of_getElem? hp
      have hpt := R.tup p hmem
      have rest : wpAny (model P w) A (searchRest a (.ref x) (thash P w k) true f es t (way t.mask (thash P w k) (c + q)) i (L2.nth t.mask p0 (c + (q + 1)))) Q E s := by
        unfold searchRest
        rw [R.entry hp]
        dsimp only
        refine wpAny_bind (wpAny_holding (wpAny_eqBool_tuple hu hpt hx ?_))
        refine wpAny_bind (wpAny_setState_of ho hd R.fits ?_)
        dsimp only
        by_cases hkk : p.2 = k
        · refine wp_if_pos (by simp [hkk]) ?_
          exact wpAny_pure (hin (List.mem_map.mpr ⟨p, hmem, hkk⟩))
        · refine wp_if_neg (by simp [hkk]) ?_
          try refine wpAny_bind (wpAny_pure ?_)
          rw [sameMem]
          dsimp only
          have hsl : t.slot (way t.mask (thash P w k) (c + q)) = .live i := slot_live R.tab.ris hi
          simp only [if_true, hsl, R.entry hp]
          refine wpAny_bind (wpAny_isSame_ref_self (wpAny_bind (wpAny_pure ?_)))
          simp only [if_true]
          refine wp_if_neg (by simp [hkk]) ?_
          refine sb_search R hx hu hKf hK hKb hin hout f (c + (q + 1)) _ (by rw [hp0]; rfl) (by omega) (by omega) fun i0 p1 h0 hk0 => ?_
          obtain ⟨c', a1, a2, a3⟩ := hre i0 p1 h0 hk0
          refine ⟨c', ?_, a2, a3⟩
          rcases Nat.lt_or_ge c' (c + q) with z | z
          · exfalso
            refine hno (c' - c) i0 (by omega) (by rw [e1, show c + (c' - c) = c' by omega]; exact a3) ?_
            exact (hashAt i0 p1 h0).trans (congrArg (thash P w) hk0)
          · rcases Nat.lt_or_ge (c + q) c' with y | y
            · omega
            · exfalso
              have ec : c' = c + q := Nat.le_antisymm y z
              rw [ec] at a3
              have s0 := slot_live R.tab.ris a3
              rw [hsl] at s0
              injection s0 with s0
              rw [← s0, hp] at h0
              exact hkk ((congrArg Prod.snd (Option.some.inj h0)).trans hk0)
      by_cases hl : t.led = true
      · refine wp_if_neg (by simp [hl]) ?_
        try refine wpAny_bind (wpAny_pure ?_)
        exact rest
      · refine wp_if_pos (by simp [hl]) ?_
        refine wpAny_bind (seen_tup hx (fun y hy => ?_) ?_)
        · obtain ⟨e, he, ee⟩ := List.mem_map.mp hy
          have he1 : e ∈ es ∧ e.1 = thash P w k := by simpa using he
          have he2 : e ∈ es.toList := by simpa using he1.1
          rw [R.rows] at he2
          obtain ⟨p2, hp2, e2⟩ := List.mem_map.mp he2
          refine ⟨p2.2, p2.1, ?_, R.tup p2 hp2⟩
          rw [← ee, ← e2]
        · refine wp_if_neg (by decide) ?_
          try refine wpAny_bind (wpAny_pure ?_)
          exact rest
    · have hpr' : t.probe (fun i => (es[i]?.map (·.1)).getD 0) (thash P w k) (stand.getD (t.probeStart (thash P w k))) = some (.empty (way t.mask (thash P w k) K) none) := by
        have e2 : way t.mask (thash P w k) K = (L2.nth t.mask (L2.nth t.mask p0 c) (K - c)).j := by
          rw [e1, show c + (K - c) = K by omega]
        rw [hst, e2]
        exact hpr
      rw [hpr']
      dsimp only
      refine wpAny_pure (hout fun hm => ?_)
      obtain ⟨p1, h0, hk0⟩ := List.mem_map.mp hm
      obtain ⟨i0, hi0, e0⟩ := List.getElem_of_mem h0
      have h00 : L[i0]? = some p1 := by rw [List.getElem?_eq_getElem hi0, e0]
      obtain ⟨c', a1, a2, a3⟩ := hre i0 p1 h00 hk0
      refine hno (c' - c) i0 (by omega) (by rw [e1, show c + (c' - c) = c' by omega]; exact a3) ?_
      exact (hashAt i0 p1 h00).trans (congrArg (thash P w) hk0)

theorem sb_at (R : SB P w s.heap a L es ep t) {x : Addr} {k : List Int} (hx : IsT P w s.heap k x) (hu : A.units < cLine) {Q : SetFound → Shared → Prop}
    (hin : k ∈ L.map (·.2) → Q (.there none) s)
    (hout : ∀ K, k ∉ L.map (·.2) → way t.mask (thash P w k) K ∉ t.place.toList → (∀ c, c < K → way t.mask (thash P w k) c ∈ t.place.toList) → Q (.free (way t.mask (thash P w k) K) false) s) :
    wpAny (model P w) A (setSearch a (.ref x) (thash P w k) true) Q E s := by
  have hroom := R.room
  have hm := R.tab.mok.le
  obtain ⟨K, hKf, hK, hKb⟩ := R.tab.first (by rw [List.length_map]; omega) (thash P w k)
  have hbig : K < 100000 := by
    have : 10 * SetTable.turns t.mask ≤ 20620 := by
      unfold SetTable.turns
      omega
    omega
  unfold setSearch
  refine sb_search R hx hu hKf hK hKb hin (fun hn => hout K hn hK hKb) 100000 0 none rfl (Nat.zero_le _) (by omega) fun i p hp hk => ?_
  have hi : (L.map fun p => thash P w p.2)[i]? = some (thash P w k) := by rw [List.getElem?_map, hp, ← hk] <;> rfl
  have hil : i < t.place.toList.length := by
    rw [R.tab.len, List.length_map]
    exact (List.getElem?_eq_some_iff.mp hp).1
  have hj := List.getElem?_eq_getElem hil
  obtain ⟨c, hc, e⟩ := R.tab.before hK hi hj
  exact ⟨c, Nat.zero_le _, hc, by rw [hj, e]⟩

theorem sb_relay {o : Obj} (ho : s.heap.get? a = some o) (hex : o.ExactSet) (hd : o.data = .set es ep t) (hrows : es.toList = rowsOf P w L) (hsz : t.place.size = es.size) (hdm : t.dummies = #[]) (hfl : es.size ≤ t.mask)
    (nd : (L.map (·.2)).Nodup) (tup : ∀ p ∈ L, IsT P w s.heap p.2 p.1) (pl : t.plain = true) (ld : w.params.followText "set-order" = true ∨ t.led = true) (few : L.length < 1229) {wanted M : Nat}
    (hw : SetTable.sizeAbove wanted - 1 = M) (hM : MB M) (hw2 : SetTable.sizeAbove wanted ≤ 2048) (hn : L.length * 5 < M * 3) {Q : Unit → Shared → Prop}
    (hQ : ∀ h' L' es' ep' t', Heap.SameBut a s.heap h' → SB P w h' a L' es' ep' t' → L'.Perm L → Q () { s with heap := h' }) : wpAny (model P w) A (setRelay a wanted) Q E s := by
  have hsl : es.size = L.length := by
    have h := congrArg List.length hrows
    unfold rowsOf at h
    rw [Array.length_toList, List.length_map] at h
    exact h
  have hfits : t.fits es.size = true := by
    unfold SetTable.fits SetTable.fill
    rw [hdm, Bool.and_eq_true, beq_iff_eq, decide_eq_true_eq]
    show t.place.size = es.size ∧ t.place.size + 0 ≤ t.mask
    omega
  obtain ⟨t', order, e, hp, T, em, el, epl⟩ := mb_relaid t (hs := es.map (·.1)) (wanted := wanted) hw hM (by rw [Array.size_map, hsl]; omega)
  rw [Array.size_map, hsl] at hp
  obtain ⟨L2', r1, r2, r3⟩ := order_rows L es order hrows hp
  rw [← r3] at T
  have hs2 : (order.filterMap (es[·]?)).size = es.size := by
    have h := congrArg List.length r1
    unfold rowsOf at h
    rw [Array.length_toList, List.length_map, r2.length_eq] at h
    rw [h, hsl]
  rw [setRelay_eq]
  refine wpAny_bind (wpAny_setState_of ho hd hfits ?_)
  dsimp only
  refine wp_if_neg (by rw [sizeLine_eq]; omega) ?_
  try refine wpAny_bind (wpAny_pure ?_)
  rw [e]
  dsimp only
  refine wpAny_bind ?_
  refine wp_if_neg (by rw [hs2]; simp) ?_
  try refine wpAny_bind (wpAny_pure ?_)
  refine wpAny_pure ?_
  dsimp only
  refine wpAny_storeSet_of ho hd ?_ (by rw [hs2, hsl, sizeLine_eq]; omega)
  have sb : Heap.SameBut a s.heap (s.heap.update a (Obj.putSet (order.filterMap (es[·]?)) t')) := Heap.SameBut.update ..
  refine hQ _ L2' (order.filterMap (es[·]?)) (ep + 1) t' sb ?_ r2
  refine ⟨⟨_, store_at ho hd, ⟨hex.1, hex.2.1, hex.2.2⟩, rfl⟩, r1, T, ?_, fun p hpm => isT_same (tup p (r2.mem_iff.mp hpm)) ho hd sb, by rw [epl]; exact pl, by rw [el]; exact ld, ?_, by rw [r2.length_eq]; exact few⟩
  · exact (r2.map (·.2)).nodup_iff.mpr nd
  · rw [r2.length_eq, em]
    exact hn

theorem sb_add (R : SB P w s.heap a L es ep t) {x : Addr} {k : List Int} (hx : IsT P w s.heap k x) (hu : A.units < cLine) (hfew : L.length + 1 < 1229) {Q : Bool → Shared → Prop}
    (hQ : ∀ b h' L' es' ep' t', Heap.SameBut a s.heap h' → SB P w h' a L' es' ep' t' → (k ∈ L.map (·.2) → L' = L) → (k ∉ L.map (·.2) → L'.Perm ((x, k) :: L)) → Q b { s with heap := h' }) :
    wpAny (model P w) A (setAddHashed a (.ref x) (thash P w k)) Q E s := by
  obtain ⟨o, ho, hex, hd⟩ := R.ob
  have hsl := R.size
  have hroom := R.room
  unfold setAddHashed
  refine wpAny_holding ?_
  rw [show (100000 : Nat) = 99999 + 1 from rfl, setAddHashedIn_succ]
  refine wpAny_bind (wpAny_setState_of ho hd R.fits ?_)
  dsimp only
  refine wp_if_neg (by simp [byScan, Value.scannable]) ?_
  try refine wpAny_bind (wpAny_pure ?_)
  refine wpAny_bind (sb_at R hx hu (fun hm => ?_) fun K hm hK hb => ?_)
  · dsimp only
    exact wpAny_pure (hQ false s.heap L es ep t (Heap.SameBut.refl a s.heap) R (fun _ => rfl) fun z => absurd hm z)
  · dsimp only
    refine wpAny_bind (wpAny_setState_of ho hd R.fits ?_)
    dsimp only
    obtain ⟨q1, q2, q3, q4, q5, q6, q9⟩ := R.tab.put hK hb
    have hp1 : (t.put (way t.mask (thash P w k) K)).1.plain = true := by rw [q6]; exact R.plain
    generalize t.put (way t.mask (thash P w k) K) = pt at q1 q3 q4 q5 q6 q9 hp1 ⊢
    obtain ⟨t1, p⟩ := pt
    dsimp only at q1 q3 q4 q5 q6 q9 hp1 ⊢
    subst q1
    first
      | (refine wpAny_bind ?_; refine wp_if_pos hp1 ?_; refine hashBy_tup hx ?_)
      | refine wp_if_pos hp1 (wpAny_bind (hashBy_tup hx ?_))
    simp only [if_true]
    have hin : (SetTable.insertAt es (SetTable.below t.place (way t.mask (thash P w k) K)) (thash P w k, Value.ref x)).toList = rowsOf P w (L.take (SetTable.below t.place (way t.mask (thash P w k) K)) ++ (x, k) :: L.drop (SetTable.below t.place (way t.mask (thash P w k) K))) := by
      rw [SetTable.toList_insertAt, rows_put, R.rows]
    generalize SetTable.below t.place (way t.mask (thash P w k) K) = p at q2 q3 hin ⊢
    have pm := put_perm L p (x, k)
    have hlen : (L.take p ++ (x, k) :: L.drop p).length = L.length + 1 := pm.length_eq
    have hhs : (L.take p ++ (x, k) :: L.drop p).map (fun p => thash P w p.2) = (L.map fun p => thash P w p.2).take p ++ thash P w k :: (L.map fun p => thash P w p.2).drop p := by
      rw [List.map_append, List.map_cons, List.map_take, List.map_drop]
    rw [← hhs] at q3
    have nd1 : ((L.take p ++ (x, k) :: L.drop p).map (·.2)).Nodup := by
      refine (pm.map (·.2)).nodup_iff.mpr ?_
      rw [List.map_cons]
      exact List.nodup_cons.mpr ⟨hm, R.nd⟩
    have hes : (SetTable.insertAt es p (thash P w k, Value.ref x)).size = L.length + 1 := by
      have h := congrArg List.length hin
      unfold rowsOf at h
      rw [Array.length_toList, List.length_map, hlen] at h
      exact h
    generalize SetTable.insertAt es p (thash P w k, Value.ref x) = es1 at hin hes ⊢
    generalize L.take p ++ (x, k) :: L.drop p = L1 at pm hlen q3 nd1 hin
    refine wpAny_bind (wpAny_storeSet_of ho hd ?_ (by rw [hes, sizeLine_eq]; omega))
    have sb : Heap.SameBut a s.heap (s.heap.update a (Obj.putSet es1 t1)) := Heap.SameBut.update ..
    have ho1 := store_at (es' := es1) (t' := t1) ho hd
    generalize s.heap.update a (Obj.putSet es1 t1) = h1 at sb ho1 ⊢
    have tup1 : ∀ p ∈ L1, IsT P w h1 p.2 p.1 := fun p hp => by
      rcases List.mem_cons.mp (pm.mem_iff.mp hp) with e | hp
      · rw [e]; exact isT_same hx ho hd sb
      · exact isT_same (R.tup p hp) ho hd sb
    have ld1 : w.params.followText "set-order" = true ∨ t1.led = true := by rw [q5]; exact R.led
    by_cases hf : t1.tooFull = true
    · first
        | (refine wpAny_bind ?_; refine wp_if_pos (by simp [hf]) ?_)
        | (refine wp_if_pos (by simp [hf]) ?_; refine wpAny_bind ?_)
      have hfull : (L.length + 1) * 5 ≥ t1.mask * 3 := by
        have h := hf
        unfold SetTable.tooFull at h
        rw [decide_eq_true_eq, q9, List.length_map] at h
        exact h
      rw [hsl]
      have hsz1 : t1.place.size = es1.size := by
        have h := q3.sz
        rw [List.length_map, hlen] at h
        rw [h, hes]
      rw [q4] at hfull
      have cases2 : ∃ M, SetTable.sizeAbove (SetTable.grown (L.length + 1)) - 1 = M ∧ MB M ∧ SetTable.sizeAbove (SetTable.grown (L.length + 1)) ≤ 2048 ∧ (L.length + 1) * 5 < M * 3 := by
        rcases R.tab.mok with e | e | e | e | e
        · have e2 : L.length + 1 = 5 := by rw [e] at hfull hroom; omega
          rw [e2, size_b1]
          exact ⟨31, rfl, .inr (.inl rfl), by decide, by decide⟩
        · have e2 : L.length + 1 = 19 := by rw [e] at hfull hroom; omega
          rw [e2, size_b2]
          exact ⟨127, rfl, .inr (.inr (.inl rfl)), by decide, by decide⟩
        · have e2 : L.length + 1 = 77 := by rw [e] at hfull hroom; omega
          rw [e2, size_b3]
          exact ⟨511, rfl, .inr (.inr (.inr (.inl rfl))), by decide, by decide⟩
        · have e2 : L.length + 1 = 307 := by rw [e] at hfull hroom; omega
          rw [e2, size_b4]
          exact ⟨2047, rfl, .inr (.inr (.inr (.inr rfl))), by decide, by decide⟩
        · exfalso; rw [e] at hfull; omega
      obtain ⟨M, g1, g2, g3, g4⟩ := cases2
      refine sb_relay (s := { s with heap := h1 }) ho1 ⟨hex.1, hex.2.1, hex.2.2⟩ rfl hin hsz1 q3.dm (by rw [hes, q4]; have := R.tab.mok.le; omega) nd1 tup1 hp1 ld1 (by rw [hlen]; exact hfew) g1 g2 g3 (by rw [hlen]; exact g4) ?_
      intro h2 L2' es2 ep2 t2 sb2 R2 pm2
      refine wpAny_pure (hQ true h2 L2' es2 ep2 t2 (sb.trans sb2) R2 (fun z => absurd z hm) fun _ => pm2.trans pm)
    · first
        | refine wp_if_neg (by simp [hf]) ?_
        | (refine wpAny_bind ?_; refine wp_if_neg (by simp [hf]) ?_; refine wpAny_pure ?_)
      refine wpAny_pure (hQ true h1 L1 es1 (ep + 1) t1 sb ⟨⟨_, ho1, ⟨hex.1, hex.2.1, hex.2.2⟩, rfl⟩, hin, q3, nd1, tup1, hp1, ld1, ?_, by rw [hlen]; exact hfew⟩ (fun z => absurd z hm) fun _ => pm)
      have h := hf
      unfold SetTable.tooFull at h
      rw [decide_eq_true_eq, q9, List.length_map] at h
      rw [hlen]
      omega
theorem SB.keep {h h' : Heap} (R : SB P w h a L es ep t) (ha : ∀ o, h.get? a = some o → h'.get? a = some o) (ht : ∀ p ∈ L, IsT P w h' p.2 p.1) : SB P w h' a L es ep t := by
  obtain ⟨o, ho, r⟩ := R.ob
  exact ⟨⟨o, ha o ho, r⟩, R.rows, R.tab, R.nd, ht, R.plain, R.led, R.room, R.few⟩
theorem sb_fresh {h : Heap} (ho : h.get? a = some { cls := .type "set", dict := none, data := .set #[] 0 (.fresh 0 0 (!w.params.followText "set-order")) }) : SB P w h a [] #[] 0 (.fresh 0 0 (!w.params.followText "set-order")) where
  ob := ⟨_, ho, ⟨rfl, rfl, rfl⟩, rfl⟩
  rows := rfl
  tab := ⟨List.Pairwise.nil, rfl, rfl, .inl rfl, fun x hx => (by cases hx), fun i h j hi => (by simp at hi)⟩
  nd := List.nodup_nil
  tup := fun p hp => (by cases hp)
  plain := rfl
  led := by
    show _ ∨ (!w.params.followText "set-order") = true
    cases w.params.followText "set-order"
    · exact .inr rfl
    · exact .inl rfl
  room := by
    show 0 * 5 < 7 * 3
    decide
  few := by
    show 0 < 1229
    decide
end
end Ct
end
section
set_option Elab.async false
set_option linter.all false
set_option maxRecDepth 100000
set_option maxHeartbeats 8000000
namespace Ct
open PySem PySem.Spec PyProof.Rows L2
/-- a set as it is made -/
abbrev so (w : World) : Obj := { cls := .type "set", dict := none, data := .set #[] 0 (.fresh 0 0 (!w.params.followText "set-order")) }
section
variable {P : Program} {w : World} {A : Around} {E : Value → Shared → Prop} {s : Shared}

/-- the loop of set.update over tuples -/
theorem sb_update {I : Addr} {fp wr : List Addr} {G : Array GenState → Array GenState → Prop} {n : Nat} {Pv : Nat → Value → Prop} {St : Nat → Shared → Prop} {R : Result → Shared → Prop}
    (W : WalksS P w A.in1 I fp wr G n Pv St) (S : Addr) (hSf : S ∉ fp) (ks : List (Addr × List Int)) (hn : n = ks.length) (hfew : ks.length < 1229) (hval : ∀ i v, Pv i v → ∃ p, ks[i]? = some p ∧ v = .ref p.1)
    (h0 : Heap) (hk : ∀ p ∈ ks, IsT P w h0 p.2 p.1) (hS0 : h0.get? S = none) (hw0 : ∀ b ∈ wr, h0.get? b = none) (hu : A.in1.units < cLine) :
    ∀ (k i : Nat) (s : Shared), n - i = k → i ≤ n → St i s → (∀ b o, h0.get? b = some o → s.heap.get? b = some o) → (∃ L es ep t, SB P w s.heap S L es ep t ∧ Got ks i L) →
      (∀ s' L es ep t, Moved (S :: wr) G s s' → SB P w s'.heap S L es ep t → Got ks n L → (∀ b o, h0.get? b = some o → s'.heap.get? b = some o) → R (.ok (.ret .none)) s') →
      codeAny (model P w) A (.builtin "set.update.loop" ⟨[.ref S, .ref I], []⟩) R s := by
  have hSw : S ∉ wr := fun h => hSf (W.sub _ h)
  have hsub : ∀ b ∈ wr, b ∈ S :: wr := fun b hb => List.mem_cons_of_mem _ hb
  have keepM : ∀ {s s' : Shared}, Moved wr G s s' → (∀ b o, h0.get? b = some o → s.heap.get? b = some o) → ∀ b o, h0.get? b = some o → s'.heap.get? b = some o := fun hm hkp b o e =>
    hm.heap b o (fun hb => by rw [hw0 b hb] at e; cases e) (hkp b o e)
  intro k
  induction k with
  | zero =>
    intro i s hk' hi hst hkp ⟨L, es, ep, t, hS, g⟩ hR
    obtain rfl : i = n := by omega
    refine codeAny_builtin F.entry_set_update_loop ?_
    rw [Around.under_plainId F.plain_set_update_loop _]
    show wpAny _ A.in1 (pyNext (.ref I) >>= _) _ _ s
    refine wpAny_bind (W.done s _ _ hst fun s' hm => ?_)
    show wpAny _ A.in1 (ret Value.none) _ _ s'
    have hkp' := keepM hm hkp
    have sub : ∀ p ∈ L, p ∈ ks := fun p hp => List.mem_of_mem_take (g.sub p hp)
    exact wpAny_pure (hR s' L es ep t (hm.mono hsub) (hS.keep (fun o e => hm.heap S o hSw e) fun p hp => isT_keep (hk p (sub p hp)) hkp') g hkp')
  | succ k ih =>
    intro i s hk' hi hst hkp ⟨L, es, ep, t, hS, g⟩ hR
    have hlt : i < n := by omega
    refine codeAny_builtin F.entry_set_update_loop ?_
    rw [Around.under_plainId F.plain_set_update_loop _]
    show wpAny _ A.in1 (pyNext (.ref I) >>= _) _ _ s
    refine wpAny_bind (W.item i s _ _ hlt hst fun v s' hP hst' hm => ?_)
    obtain ⟨p, hp, rfl⟩ := hval i v hP
    have hkp' := keepM hm hkp
    have sub : ∀ p ∈ L, p ∈ ks := fun p hp => List.mem_of_mem_take (g.sub p hp)
    have hS' : SB P w s'.heap S L es ep t := hS.keep (fun o e => hm.heap S o hSw e) fun q hq => isT_keep (hk q (sub q hq)) hkp'
    have hx : IsT P w s'.heap p.2 p.1 := isT_keep (hk p (List.mem_of_getElem? hp)) hkp'
    show wpAny _ A.in1 (holding [Value.ref p.1] (setAdd S (.ref p.1)) >>= _) _ _ s'
    refine wpAny_bind (wpAny_holding ?_)
    unfold setAdd
    refine wpAny_holding ?_
    refine wpAny_bind (wpAny_pyHash_tuple hu hx ?_)
    refine sb_add (s := { s' with toks := s'.toks + (p.2.length + 1) }) hS' hx hu (by have := g.len; omega) fun b h' L' es' ep' t' hsb hS2 c1 c2 => ?_
    have g' : Got ks (i + 1) L' := by
      rcases Classical.em (p.2 ∈ L.map (·.2)) with c | c
      · rw [c1 c]; exact g.same hp c
      · exact g.more hp (c2 c)
    have hkp2 : ∀ b o, h0.get? b = some o → h'.get? b = some o := fun b o e => (hsb.2 b (fun z => by rw [z, hS0] at e; cases e)).trans (hkp' b o e)
    refine wpAny_pure ⟨plainId_quiet F.plain_set_update_loop _, ih (i + 1) _ (by omega) hlt (W.frame _ s' _ _ hst' (Nat.le_add_right _ _) fun b hb o e => ?_) hkp2 ⟨L', es', ep', t', hS2, g'⟩ fun s'' L2' es2 ep2 t2 hm'' hS'' g'' hkp'' => ?_⟩
    · rw [hsb.2 b (fun h : b = S => hSf (by rw [← h]; exact hb))]; exact e
    · refine hR s'' L2' es2 ep2 t2 (Moved.trans W.gtrans ((hm.mono hsub).then_heap (Nat.le_add_right _ _) fun b o hb e => ?_) hm'') hS'' g'' hkp''
      rw [hsb.2 b (fun h : b = S => hb (by rw [h]; exact List.mem_cons_self))]; exact e

/-- set(xs) of tuples of ints, fewer than 1229 -/
theorem sb_call {l : Addr} {items : Array Value} (ks : List (Addr × List Int)) {Q : Value → Shared → Prop} (hh : A.handled = none) (hl : s.heap.IsList l items) (hit : items.toList = ks.map fun p => Value.ref p.1)
    (hk : ∀ p ∈ ks, IsT P w s.heap p.2 p.1) (hfew : ks.length < 1229) (hu : A.units + 3 < cLine)
    (h : ∀ (h' : Heap) (tk : Nat) L es ep t, SB P w h' s.heap.objs.size L es ep t → Got ks ks.length L → (∀ b o, s.heap.get? b = some o → h'.get? b = some o) → Q (.ref s.heap.objs.size) { s with heap := h', toks := tk }) :
    wpAny (model P w) A (call (.type "set") [.ref l]) Q E s := by
  have hisz : items.size = ks.length := by
    have q := congrArg List.length hit
    rw [Array.length_toList, List.length_map] at q
    exact q
  obtain ⟨c, tl, hmro⟩ := F.called_set.mro
  have hmade := F.called_set.made
  have hsub := F.called_set.sub
  refine wpAny_call (codeAny_of_tree ?_)
  show wpAny _ _ (callAny (.type "set") _) _ _ _
  refine wpAny_pure ⟨Code.quiet_builtin _ (by decide +kernel), codeAny_builtin F.entry_type_call ?_⟩
  rw [Around.under_plain (weight_type_call_type "set" [.ref l] []) rfl]
  have h1 := F.called_set.notType
  have h2 := F.called_set.canCreate
  have hct := F.typeCall_set_1 (.ref l)
  repeat (any_goals (first | assumption | wp_step))
  refine codeAny_mono (code_set_led1 (.ref l) (E := E) (Q₁ := fun obj s₁ => obj = .ref s.heap.objs.size ∧ s₁ = { s with heap := s.heap.push (so w) }) ⟨rfl, rfl⟩) fun r s₁ hr => ?_
  cases r with
  | error e => exact hr
  | ok fl =>
    cases fl with
    | ret obj =>
      obtain ⟨rfl, rfl⟩ := hr
      have hS : (s.heap.push (so w)).get? s.heap.objs.size = some (so w) := Heap.get?_push_size _ rfl
      have hT : Shared.TypeIs { s with heap := s.heap.push (so w) } (.ref s.heap.objs.size) "set" := ⟨_, hS, rfl⟩
      have hli := F.called_set.init.lookup
      have hbi := F.called_set.init.bind (.ref s.heap.objs.size)
      repeat (any_goals (first | assumption | wp_step))
      refine codeAny_mono (codeAny_call_builtin (R := wants (fun r s₂ => r = .none ∧ ∃ h' tk L es ep t, s₂ = { s with heap := h', toks := tk } ∧ SB P w h' s.heap.objs.size L es ep t ∧ Got ks ks.length L ∧
          (∀ b o, s.heap.get? b = some o → h'.get? b = some o)) E) F.called_set.init.plain F.entry_set_init (check_set_init_1 hT ?_)) fun r₂ s₂ hr₂ => ?_
      · obtain ⟨ol, hol, hcl, nl, hdl⟩ := hl
        obtain ⟨ocls, odict, odata, oslots⟩ := ol
        simp only at hcl hdl
        subst hcl; subst hdl
        have hol' : (s.heap.push (so w)).get? l = some { cls := .type "list", dict := odict, data := .seq items nl, slots := oslots } := Heap.get?_push_of_some _ hol
        have hsls := F.sub_list_set
        have hslf := F.sub_list_frozenset
        have hne : (Value.type "list" == Value.type "dict") = false := by decide
        have hl1 : (s.heap.push (so w)).IsList l items := ⟨_, hol', rfl, nl, rfl⟩
        unfold Builtin.«set.__init__» noKeywords Builtin.Frozenset.updateFrom
        generalize hPI : pyIter = PI
        wp_walk
        subst hPI
        refine wpAny_pyIter_list hl1 ?_
        refine wpAny_bind (wpAny_runValue ?_)
        have hlS : l < s.heap.objs.size := Heap.lt_size hol
        have hh3 : A.in1.in1.in1.handled = none := by simp [hh]
        have hneI : l ≠ (s.heap.push (so w)).objs.size := by
          rw [Heap.size_push]; exact Nat.ne_of_lt (Nat.lt_succ_of_lt hlS)
        have hSf : s.heap.objs.size ∉ [(s.heap.push (so w)).objs.size, l] := by
          rw [Heap.size_push]; simp only [List.mem_cons, List.mem_singleton, List.not_mem_nil, or_false, not_or]
          exact ⟨Nat.ne_of_lt (Nat.lt_succ_self _), Nat.ne_of_gt hlS⟩
        have hval : ∀ (i : Nat) (v : Value), items[i]? = some v → ∃ p, ks[i]? = some p ∧ v = .ref p.1 := fun i v hv => by
          have q : items.toList[i]? = some v := by rw [Array.getElem?_toList]; exact hv
          rw [hit, List.getElem?_map] at q
          cases hq : ks[i]? with
          | none => rw [hq] at q; cases q
          | some p =>
            rw [hq] at q
            exact ⟨p, rfl, (Option.some.inj q).symm⟩
        have none_of : ∀ b, s.heap.objs.size ≤ b → s.heap.get? b = none := fun b hb => by
          cases q : s.heap.get? b with
          | none => rfl
          | some o => exact absurd (Nat.lt_of_lt_of_le (Heap.lt_size q) hb) (Nat.lt_irrefl _)
        refine sb_update ((Walks.list hh3 _ l hneI items).toS) s.heap.objs.size
          hSf ks hisz hfew hval s.heap hk (none_of _ (Nat.le_refl _)) (fun b hb => none_of b (by
            rw [List.mem_singleton.mp hb, Heap.size_push]
            exact Nat.le_succ _)) hu (items.size - 0) 0 _ (by omega) (Nat.zero_le _)
          ⟨⟨_, Heap.get?_push_size _ rfl, rfl, rfl⟩, (hl1.push _)⟩ (fun b o e => Heap.get?_push_of_some _ (Heap.get?_push_of_some _ e)) ?hS0 ?hR
        case hS0 =>
          have hget : ((s.heap.push (so w)).push { cls := .type "list_iterator", data := .fields #[.ref l, .int 0 0] }).get? s.heap.objs.size = some (so w) := Heap.get?_push_of_some _ hS
          exact ⟨[], #[], 0, _, sb_fresh hget, Got.zero ks⟩
        case hR =>
          intro s' L es ep t hm hS' g' hkp
          obtain ⟨h', g2, d', tk', os'⟩ := s'
          have eg : g2 = s.gens := hm.gens
          have ed : d' = s.drawn := hm.drawn
          have eo : os' = s.os := hm.os
          subst eg; subst ed; subst eo
          show wpAny _ _ _ _ _ _
          refine wpAny_pure ?_
          show wpAny _ _ (ret Value.none) _ _ _
          rw [hisz] at g'
          exact wpAny_pure ⟨rfl, h', tk', L, es, ep, t, rfl, hS', g', hkp⟩
      · cases r₂ with
        | error e => exact hr₂
        | ok fl₂ =>
          cases fl₂ with
          | ret r =>
            obtain ⟨rfl, h', tk, L, es, ep, t, rfl, hS', g', hk'⟩ := hr₂
            repeat (any_goals (first | assumption | wp_step))
            exact h _ _ _ _ _ _ hS' g' hk'
          | _ => exact hr₂.elim
    | _ => exact hr.elim
end
end Ct
end
section
set_option Elab.async false
set_option linter.all false
set_option maxRecDepth 100000
set_option maxHeartbeats 8000000
namespace Ct
open PySem PySem.Spec PyProof.Rows L2

/-! ### pairs of ints that stand in the heap -/
def IsP (H : Hp) (v : V) (p : P2) : Prop := ∃ t, v = .ref t ∧ H t = some (.tup [.int p.1, .int p.2])
abbrev Prs (H : Hp) : List V → List P2 → Prop := Paired (IsP H)
theorem IsP.ext {H H' : Hp} {v : V} {p : P2} (h : IsP H v p) (e : Same H H') : IsP H' v p := let ⟨t, a, b⟩ := h; ⟨t, a, e _ _ b⟩
theorem Prs.ext {H H' : Hp} {vs : List V} {ps : List P2} (h : Prs H vs ps) (e : Same H H') : Prs H' vs ps := L2.Paired.mapP h fun _ _ q => q.ext e
theorem Prs.length {H : Hp} {vs : List V} {ps : List P2} (h : Prs H vs ps) : vs.length = ps.length := Paired.length h
theorem Prs.app {H : Hp} : ∀ {vs ws : List V} {ps qs : List P2}, Prs H vs ps → Prs H ws qs → Prs H (vs ++ ws) (ps ++ qs)
  | _, _, _, _, .nil, k => k
  | _, _, _, _, .cons h t, k => .cons h (Prs.app t k)
theorem Prs.get : ∀ {H : Hp} {vs : List V} {ps : List P2} {i : Nat} {v : V}, Prs H vs ps → vs[i]? = some v → ∃ p, ps[i]? = some p ∧ IsP H v p
  | _, _, _, _, _, .nil, e => by simp at e
  | _, _, _, 0, _, .cons r _, e => by simp at e; subst e; exact ⟨_, rfl, r⟩
  | _, _, _, i + 1, v, .cons _ t, e => by
    obtain ⟨p, h1, h2⟩ := Prs.get (i := i) (v := v) t (by simpa using e)
    exact ⟨p, by simpa using h1, h2⟩
/-- which pair a value is -/
def kP (H : Hp) : V → P2
  | .ref t => match H t with
    | some (.tup [.int x, .int y]) => (x, y)
    | _ => (0, 0)
  | _ => (0, 0)
theorem IsP.k {H : Hp} {v : V} {p : P2} (h : IsP H v p) : kP H v = p := by
  obtain ⟨t, rfl, e⟩ := h
  show (match H t with | some (.tup [.int x, .int y]) => (x, y) | _ => (0, 0)) = p
  rw [e]
theorem Prs.map {H : Hp} : ∀ {vs : List V} {ps : List P2}, Prs H vs ps → vs.map (kP H) = ps
  | _, _, .nil => rfl
  | _, _, .cons h t => by rw [List.map_cons, h.k, Prs.map t]
theorem Prs.all {H : Hp} : ∀ {vs : List V} {ps : List P2}, Prs H vs ps → ∀ v ∈ vs, IsP H v (kP H v)
  | _, _, .nil, v, h => by cases h
  | _, _, .cons h t, v, hv => by
    rcases List.mem_cons.mp hv with e | hv
    · rw [e, h.k]; exact h
    · exact Prs.all t v hv
theorem Prs.of {H : Hp} : ∀ {vs : List V}, (∀ v ∈ vs, IsP H v (kP H v)) → Prs H vs (vs.map (kP H))
  | [], _ => .nil
  | v :: vs, h => .cons (h v List.mem_cons_self) (Prs.of fun u hu => h u (List.mem_cons_of_mem _ hu))
def encP (H : Hp) (v : V) : PyData := .tuple [.int (kP H v).1, .int (kP H v).2]
def encI : V → PyData
  | .int i => .int i
  | _ => .int 0
def valI : V → Int
  | .int i => i
  | _ => 0
theorem encI_eq : encI = fun v => PyData.int (valI v) := by
  funext v
  cases v <;> rfl

theorem each_of_paired {R : V → Value → Prop} : ∀ {xs : List V} {us : List Value}, Paired R xs us → PySem.W.EachIs (fun u x => R x u) us xs
  | _, _, .nil => .nil
  | _, _, .cons h t => .cons h (each_of_paired t)
theorem vals_of_each : ∀ {us : List Value} {xs : List V}, PySem.W.EachIs (fun u x => RelV x u) us xs → Vals xs us
  | _, _, .nil => .nil
  | _, _, .cons h t => .cons h (vals_of_each t)
theorem each_and {α β : Type} {R S : α → β → Prop} : ∀ {as : List α} {bs : List β}, PySem.W.EachIs R as bs → (∀ b ∈ bs, ∀ a, R a b → S a b) → PySem.W.EachIs S as bs
  | _, _, .nil, _ => .nil
  | _, _, .cons h t, k => .cons (k _ List.mem_cons_self _ h) (each_and t fun b hb => k b (List.mem_cons_of_mem _ hb))

section
variable {P : Program} {w : World} {A : Around} {E : Value → Shared → Prop} {s : Shared} {X : Cx}

/-- the sorting of a new list of what was gathered -/
theorem sort_tail {β : Type} {vs : List Value} {bs : List β} {enc : β → PyData} {R : Value → β → Prop} {Q : PySem.Fin → Shared → Prop} (e : PySem.W.EachIs R vs bs) (er : PySem.W.EachIs (fun v b => Reads s.heap v (enc b) []) vs bs)
    (hal : PySem.W.AllAlike (bs.map enc)) (hk : PySem.W.Sortable (bs.map enc)) (hL : bs.length ≤ sizeLine) (hu : ∀ b, b ∈ bs → A.units + 1 + (enc b).depth < cLine)
    (h : ∀ h' out, (∀ b o, s.heap.get? b = some o → h'.get? b = some o) → (∃ c, h'.get? s.heap.objs.size = some (seqObj "list" (List.toArray out) c)) → PySem.W.EachIs R out (bs.mergeSort (PySem.W.dataLe false enc)) → Q (.done (.ret (.ref s.heap.objs.size))) { s with heap := h' }) :
    wpAny (model P w) A (do let l ← newList vs; let _ ← holding [l] (call (.builtin "list.sort") [l] []); ret l) Q E s := by
  refine wpAny_bind (wpAny_newList ?_ (by rw [e.length]; exact hL))
  have hoL : (s.heap.push (seqObj "list" vs.toArray 0)).get? s.heap.objs.size = some (seqObj "list" vs.toArray 0) := Heap.get?_push_size _ rfl
  refine wpAny_bind (wpAny_holding (PySem.W.list_sort_data (s := { s with heap := s.heap.push (seqObj "list" vs.toArray 0) }) hoL e
    (er.mono fun v b r => ⟨[], PyProof.Rows.Reads.keeps (fun _ _ q => Heap.get?_push_of_some _ q) r, by simp⟩) hal hk hL hu fun out ho eo => ?_))
  obtain ⟨c, hc⟩ := sortedHeap_at (vs := vs) (out := out.toArray) hoL
  refine wpAny_pure (h _ out (fun b u q => ?_) ⟨c, hc⟩ eo)
  have hlt := Heap.lt_size q
  show (sortedHeap (s.heap.push (seqObj "list" vs.toArray 0)) s.heap.objs.size vs out.toArray).get? b = some u
  rw [sortedHeap_old (Nat.ne_of_lt hlt) (by rw [size_push']; exact Nat.lt_succ_of_lt hlt)]
  exact Heap.get?_push_of_some _ q

/-- encP reads off -/
theorem reads_P {pins : List (Addr × Obj)} {σ : L2.St} {H : Hp} (I : Inv X pins σ H s) {v : Value} {x : V} (r : RelV x v) (h : IsP H x (kP H x)) : Reads s.heap v (encP H x) [] := by
  obtain ⟨t, e, ht⟩ := h
  obtain ⟨_, its, r2, o, ho, hc, n, hd⟩ := I.hok _ _ ht
  obtain ⟨u1, u2, rfl, ⟨t1, rfl⟩, ⟨t2, rfl⟩⟩ := vals2 r2
  subst e
  obtain rfl : v = Value.ref t := r
  exact .tuple ho hc hd (.cons (.int _ _) (.cons (.int _ _) .nil))
theorem sortP_ok {H : Hp} {xs : List V} {ps : List P2} (h : Prs H xs ps) : (xs.mergeSort (PySem.W.dataLe false (encP H))).map (kP H) = psort ps ∧ Prs H (xs.mergeSort (PySem.W.dataLe false (encP H))) (psort ps) := by
  have e1 : (xs.mergeSort (PySem.W.dataLe false (encP H))).map (kP H) = psort ps := by
    unfold psort
    rw [← h.map]
    refine PySem.W.sort_maps (kP H) fun a _ b _ => ?_
    have q := PySem.W.dataLe_ii (β := V) (fun v => (kP H v).1) (fun v => (kP H v).2)
    show PySem.W.dataLe false (fun v => PyData.tuple [.int (kP H v).1, .int (kP H v).2]) a b = leP (kP H a) (kP H b)
    rw [q]
    rfl
  refine ⟨e1, ?_⟩
  rw [← e1]
  exact Prs.of fun v hv => h.all v ((List.mergeSort_perm xs _).mem_iff.mp hv)
theorem alikeP (H : Hp) (xs : List V) : PySem.W.AllAlike (xs.map (encP H)) := PySem.W.AllAlike.of fun a b => by
  unfold encP
  rfl
theorem alikeI (xs : List V) : PySem.W.AllAlike (xs.map encI) := PySem.W.AllAlike.of fun a b => by
  rw [encI_eq]
  rfl
theorem sortableP (H : Hp) (xs : List V) : PySem.W.Sortable (xs.map (encP H)) := PySem.W.Sortable.tuples fun b => ⟨_, _, rfl⟩
theorem sortableI (xs : List V) : PySem.W.Sortable (xs.map encI) := PySem.W.Sortable.others fun b => by
  rw [encI_eq]
  exact ⟨(fun e => by cases e), (fun _ e => by cases e)⟩

/-- the end of every sorted(..) -/
theorem sort_fin {pins : List (Addr × Obj)} {σ : L2.St} {H : Hp} {Q : VK} (I : Inv X pins σ H s) (hu : X.A.units + 64 < cLine) {vs : List Value} {xs : List V} {enc : V → PyData} (rv : Vals xs vs) (hz : xs.length ≤ sizeLine)
    (er : ∀ x ∈ xs, ∀ v, RelV x v → Reads s.heap v (enc x) []) (hal : PySem.W.AllAlike (xs.map enc)) (hk : PySem.W.Sortable (xs.map enc)) (hd : ∀ x, (enc x).depth ≤ 1)
    (q : ∀ p, H p = none → Q (.ref p) (upd H p (.lst (xs.mergeSort (PySem.W.dataLe false enc))))) :
    wpAny (model X.prog X.w) X.A.in1 (do let l ← newList vs; let _ ← holding [l] (call (.builtin "list.sort") [l] []); ret l) (fun fin s' => ∃ v, fin = .done (.ret v) ∧ EP X pins σ Q v s') X.xe s := by
  have ee := each_of_paired rv
  refine sort_tail ee (each_and ee fun x hx v r => er x hx v r) hal hk hz (fun b _ => ?_) fun h' out k ⟨c, hc⟩ eo => ?_
  · have := hd b
    show X.A.units + 1 + 1 + (enc b).depth < cLine
    omega
  · have hn : H s.heap.objs.size = none := I.hok.fresh (Nat.le_refl _)
    exact ⟨_, rfl, .ref s.heap.objs.size, upd H s.heap.objs.size (.lst (xs.mergeSort (PySem.W.dataLe false enc))), I.laid (t' := s.toks) k (Nat.le_refl _) ⟨by rw [List.length_mergeSort]; exact hz, out, c, vals_of_each eo, hc⟩, rfl, q _ hn⟩
theorem depthP (H : Hp) (v : V) : (encP H v).depth ≤ 1 := by
  unfold encP
  simp [PyData.depth, PyData.depthAll]
theorem depthI (v : V) : (encI v).depth ≤ 1 := by
  rw [encI_eq]
  simp [PyData.depth]

/-- sorted(xs), a list of pairs, any length -/
def rSortP (K : PySem.W.Frag) : List V → Hp → VK → Prop := fun vs H Q => ∃ a xs ps, vs = [V.ref a] ∧ SqL K H a xs ∧ Prs H xs ps ∧ ∀ p ys, H p = none → Prs H ys (psort ps) → Q (.ref p) (upd H p (.lst ys))
theorem cr_sortP (hu : X.A.units + 64 < cLine) : CallR X (.builtin "sorted") (rSortP X.K) := by
  intro pins s σ H vs us Q I r h
  obtain ⟨a, xs, ps, rfl, hs, hp, q⟩ := h
  obtain ⟨its, rv, hl, hz⟩ := I.list hs
  rw [Vals.ref1 r]
  refine Calls.call_function_entry kind_sorted plain_sorted entry_sorted (args_sorted1 _) ?_
  unfold Builtin.«sorted»
  refine wpAny_bind (m := checkCount "sorted" 1 1 _) (wpAny_pure ?_)
  refine wpAny_bind (PyProof.Rows.collect_list hl.isList ?_ (by rw [← rv.length]; exact hz))
  have k : ∀ b u, s.heap.get? b = some u → ((s.heap.push (seqObj "list" #[] 0)).update s.heap.objs.size (Obj.mapSeq fun x => x ++ its.toArray)).get? b = some u := fun b u e => by
    have hlt := Heap.lt_size e
    rw [Heap.get?_update_ne _ _ _ _ (Nat.ne_of_lt hlt)]
    exact Heap.get?_push_of_some _ e
  have I1 := I.kept (t' := s.toks) k
  exact sort_fin I1 hu rv hz (fun x hx v r => reads_P I1 r (hp.all x hx)) (alikeP H xs) (sortableP H xs) (depthP H) fun p hn => q p _ hn (sortP_ok hp).2

theorem reads_I {h : Heap} {v : Value} {x : V} {n : Int} (r : RelV x v) (e : x = .int n) : Reads h v (encI x) [] := by
  subst e
  obtain ⟨t, rfl⟩ := r
  exact .int _ _
theorem sortI_ok (ns : List Int) : (ns.map V.int).mergeSort (PySem.W.dataLe false encI) = (isort ns).map V.int := by
  unfold isort
  symm
  refine PySem.W.sort_maps V.int fun a _ b _ => ?_
  rw [encI_eq, PySem.W.dataLe_int]
  rfl
theorem vals_ints : ∀ {us : List Value} {ks : List Int}, IntsAre us ks → Vals (ks.map V.int) us
  | _, _, .nil => .nil
  | _, _, .cons n t h => .cons ⟨t, rfl⟩ (vals_ints h)
/-- sorted(d), d a dict whose keys are ints, any number -/
def rSortD : List V → Hp → VK → Prop := fun vs H Q => ∃ (a : Addr) (kvs : List (Key × V)) (ks : List Int), vs = [.ref a] ∧ Rd H a (.dK kvs) ∧ kvs.map (·.1) = ks.map Sum.inl ∧ ∀ p, H p = none → Q (.ref p) (upd H p (.lst ((isort ks).map V.int)))
theorem cr_sortD (hu : X.A.units + 64 < cLine) (hcalm : X.calm = true) : CallR X (.builtin "sorted") rSortD := by
  intro pins s σ H vs us Q I r q
  obtain ⟨a, kvs, ks, rfl, hd, hks, q⟩ := q
  rw [Vals.ref1 r]
  obtain ⟨z, lo, vs, rel, dd⟩ := dk_rd I.hok hd
  obtain ⟨ep, hat⟩ := dd.dictAt
  have hkeys : vs.map (·.1) = ks.map Sum.inl := rel.keys.symm.trans hks
  have hl : vs.length = ks.length := by
    have e := congrArg List.length hkeys
    rw [List.length_map, List.length_map] at e
    exact e
  have hlk : kvs.length = ks.length := by
    have e := congrArg List.length hks
    rw [List.length_map, List.length_map] at e
    exact e
  have h16 : vs.length ≤ sizeLine := by rw [hl, ← hlk]; exact z
  refine Calls.call_function_entry kind_sorted plain_sorted entry_sorted (args_sorted1 _) ?_
  unfold Builtin.«sorted»
  refine wpAny_bind (m := checkCount "sorted" 1 1 _) (wpAny_pure ?_)
  refine wpAny_bind (PySem.W.kdu_collect (A := X.A.in1) (PySem.W.kdl_dict (knd := mixKind X.prog X.w) (kvs := vs) (ep := ep) lo) (I.ok.hd hcalm) hat h16 fun h' tk acc hk hacc => ?_)
  have hal : acc.toList.length = ks.length := by rw [Array.length_toList, hacc.1, hl]
  have hS : IntsAre acc.toList ks := ints_each hal fun j v e => by
    obtain ⟨k, x, e1, e2⟩ := hacc.2 j v (by rw [← Array.getElem?_toList]; exact e)
    have e3 : (vs.map (·.1))[j]? = some k := by rw [List.getElem?_map, e1]; rfl
    rw [hkeys, List.getElem?_map] at e3
    cases e4 : ks[j]? with
    | none => rw [e4] at e3; cases e3
    | some y =>
      rw [e4] at e3
      have e5 : Sum.inl y = k := Option.some.inj e3
      subst e5
      rcases keyIs_shape (show keyIs (Sum.inl y) v = true from e2) with ⟨i, t, ek, ev⟩ | ⟨z, t, ek, ev⟩
      · cases ek
        exact ⟨y, t, rfl, ev⟩
      · cases ek
  have I1 : Inv X pins σ H { s with heap := h', toks := tk } := I.kept hk
  have rv : Vals (ks.map V.int) acc.toList := vals_ints hS
  refine sort_fin I1 hu rv (by rw [List.length_map, ← hlk]; exact z) (fun x hx v r => ?_) (alikeI _) (sortableI _) depthI fun p hn => ?_
  · obtain ⟨n, _, e⟩ := List.mem_map.mp hx
    exact reads_I r e.symm
  · rw [sortI_ok]
    exact q p hn

/-! ### set(xs), xs a list of pairs; sorted of it -/
def row (p : P2) : List Int := [p.1, p.2]
theorem row_inj {p q : P2} (h : row p = row q) : p = q := by
  unfold row at h
  injection h with h1 h2
  injection h2 with h2 _
  exact P2.ext' h1 h2
structure SB0 (P : Program) (w : World) (h : Heap) (a : Addr) (L : List (Addr × List Int)) : Prop where
  ex : ∃ (es : Array (Int × Value)) (ep : Nat) (t : SetTable), (∃ o, h.get? a = some o ∧ o.ExactSet ∧ o.data = .set es ep t) ∧ es.toList = rowsOf P w L ∧ TB t (L.map fun p => thash P w p.2) ∧ (L.map (·.2)).Nodup ∧ t.plain = true ∧
    (w.params.followText "set-order" = true ∨ t.led = true) ∧ L.length * 5 < t.mask * 3 ∧ L.length < 1229
def SBO (P : Program) (w : World) (a : Addr) (L : List (Addr × List Int)) : HO := .ext fun h => SB0 P w h a L
theorem SB.s0 {h : Heap} {a : Addr} {L : List (Addr × List Int)} {es : Array (Int × Value)} {ep : Nat} {t : SetTable} (R : SB P w h a L es ep t) : SB0 P w h a L :=
  ⟨es, ep, t, R.ob, R.rows, R.tab, R.nd, R.plain, R.led, R.room, R.few⟩
theorem SB0.full {h : Heap} {a : Addr} {L : List (Addr × List Int)} (R : SB0 P w h a L) (ht : ∀ p ∈ L, IsT P w h p.2 p.1) : ∃ es ep t, SB P w h a L es ep t := by
  obtain ⟨es, ep, t, h1, h2, h3, h4, h5, h6, h7, h8⟩ := R.ex
  exact ⟨es, ep, t, h1, h2, h3, h4, ht, h5, h6, h7, h8⟩
theorem SB0.ok {H : Hp} {h : Heap} {a : Addr} {L : List (Addr × List Int)} (R : SB0 P w h a L) : ObjOk P w H h a (SBO P w a L) := by
  have ⟨es, ep, t, ⟨o, ho, r⟩, q⟩ := R.ex
  refine ⟨R, ⟨o, ho⟩, fun h1 h2 p k => ?_⟩
  have ⟨es', ep', t', ⟨o', ho', r'⟩, q'⟩ := SB0.ex p
  exact ⟨es', ep', t', ⟨o', k o' ho', r'⟩, q'⟩
/-- the rows of a list of pairs -/
theorem rows_ex {H : Hp} : ∀ {xs : List V} {ps : List P2}, Prs H xs ps → ∃ ks : List (Addr × List Int), xs = ks.map (fun p => V.ref p.1) ∧ ks.map (·.2) = ps.map row ∧ ∀ k ∈ ks, ∃ p : P2, p ∈ ps ∧ k.2 = row p ∧ H k.1 = some (.tup [.int p.1, .int p.2])
  | _, _, .nil => ⟨[], rfl, rfl, fun _ h => by cases h⟩
  | _, _, .cons (b := p) ⟨t, e, ht⟩ r => by
    obtain ⟨ks, e1, e2, e3⟩ := rows_ex r
    refine ⟨(t, row p) :: ks, by rw [List.map_cons, e, e1], by rw [List.map_cons, List.map_cons, e2], fun k hk => ?_⟩
    rcases List.mem_cons.mp hk with z | z
    · rw [z]; exact ⟨p, List.mem_cons_self, rfl, ht⟩
    · obtain ⟨q, h1, h2, h3⟩ := e3 k z
      exact ⟨q, List.mem_cons_of_mem _ h1, h2, h3⟩
/-- the set at a has just these pairs -/
def SetP (P : Program) (w : World) (H : Hp) (a : Addr) (ps : List P2) : Prop := ∃ L, H a = some (SBO P w a L) ∧ (∀ k ∈ L, ∃ p : P2, p ∈ ps ∧ k.2 = row p ∧ H k.1 = some (.tup [.int p.1, .int p.2])) ∧ ∀ p ∈ ps, row p ∈ L.map (·.2)
def rSetP (K : PySem.W.Frag) (P : Program) (w : World) : List V → Hp → VK → Prop := fun vs H Q => ∃ l xs ps, vs = [V.ref l] ∧ SqL K H l xs ∧ Prs H xs ps ∧ ps.length < 1229 ∧
  ∀ a o, H a = none → SetP P w (upd H a o) a ps → Q (.ref a) (upd H a o)
theorem cr_setP (hc : X.calm = true) (hu : X.A.units + 64 < cLine) : CallR X (.type "set") (rSetP X.K X.prog X.w) := by
  intro pins s σ H vs us Q I r h
  obtain ⟨l, xs, ps, rfl, hl, hp, hf, q⟩ := h
  rw [Vals.ref1 r]
  obtain ⟨ks, e1, e2, e3⟩ := rows_ex hp
  subst e1
  obtain ⟨its, rv, pl, hz⟩ := I.list hl
  have hlen : ks.length = ps.length := by
    have e := congrArg List.length e2
    rw [List.length_map, List.length_map] at e
    exact e
  have hn : H s.heap.objs.size = none := I.hok.fresh (Nat.le_refl _)
  refine sb_call (P := X.prog) (w := X.w) ks (I.ok.hd hc) pl.isList (by simpa using refs_of_vals rv) (fun p hp => ?_) (by omega) (by omega) fun h' tk L es ep t R g k => ?_
  · obtain ⟨q, _, z1, z2⟩ := e3 p hp
    rw [z1]
    exact I.isT (SqT.of z2)
  · refine ⟨.ref s.heap.objs.size, upd H s.heap.objs.size (SBO X.prog X.w s.heap.objs.size L), I.laid (t' := tk) k (Nat.le_refl _) R.s0.ok, rfl, q _ _ hn ⟨L, upd_same, fun p hp => ?_, fun p hp => ?_⟩⟩
    · obtain ⟨q, z0, z1, z2⟩ := e3 p (List.mem_of_mem_take (g.sub p hp))
      exact ⟨q, z0, z1, by rw [upd_ne (ne_of_none z2 hn)]; exact z2⟩
    · have hm : row p ∈ ks.map (·.2) := by rw [e2]; exact List.mem_map.mpr ⟨p, hp, rfl⟩
      obtain ⟨k, hk, ek⟩ := List.mem_map.mp hm
      rw [← ek]
      exact g.all k (by rw [List.take_length]; exact hk)
def rSortS (P : Program) (w : World) : List V → Hp → VK → Prop := fun vs H Q => ∃ a ps, vs = [V.ref a] ∧ SetP P w H a ps ∧ ∀ p ys, H p = none → Prs H ys (pset ps) → Q (.ref p) (upd H p (.lst ys))
theorem cr_sortS (hu : X.A.units + 64 < cLine) (hc : X.calm = true) : CallR X (.builtin "sorted") (rSortS X.prog X.w) := by
  intro pins s σ H vs us Q I r h
  obtain ⟨a, ps, rfl, ⟨L, ha, hL, hps⟩, q⟩ := h
  rw [Vals.ref1 r]
  have R0 : SB0 X.prog X.w s.heap a L := (I.hok a _ ha).1
  obtain ⟨es, ep, t, R⟩ := R0.full fun k hk => by
    obtain ⟨p, _, z1, z2⟩ := hL k hk
    rw [z1]
    exact I.isT (SqT.of z2)
  obtain ⟨o, ho, hex, hd⟩ := R.ob
  have hsz := R.size
  have hfew := R.few
  refine Calls.call_function_entry kind_sorted plain_sorted entry_sorted (args_sorted1 _) ?_
  unfold Builtin.«sorted»
  refine wpAny_bind (m := checkCount "sorted" 1 1 _) (wpAny_pure ?_)
  refine wpAny_bind (collect_set (A := X.A.in1) (I.ok.hd hc) ⟨o, ho, hex.1, hd⟩ R.fits (by unfold scanBound; omega) R.tab.ris R.led fun s1 out k1 hz g1 o1 pm => ?_)
  have hes : es.toList.map (·.2) = L.map fun q => Value.ref q.1 := by
    rw [R.rows]
    unfold rowsOf
    rw [List.map_map] <;> rfl
  rw [hes] at pm
  have I1 : Inv X pins σ H { s with heap := s1.heap, gens := s1.gens, drawn := s1.drawn, toks := s1.toks } := I.call (ch := []) (Un.kept k1) (I.hok.kept k1) (by rw [g1]; exact I.bare) (fun _ z => nomatch z)
  have es1 : s1 = { s with heap := s1.heap, gens := s1.gens, drawn := s1.drawn, toks := s1.toks } := by
    cases s1
    cases s
    cases o1
    rfl
  rw [← es1] at I1
  obtain ⟨xs, hxs⟩ : ∃ xs : List V, xs = out.map bkV := ⟨_, rfl⟩
  have href : ∀ u ∈ out, ∃ b, u = Value.ref b := fun u hu => by
    obtain ⟨q, _, e⟩ := List.mem_map.mp (pm.mem_iff.mp hu)
    exact ⟨_, e.symm⟩
  have rv : Vals xs out := by rw [hxs]; exact bkV_vals href
  have pmx : xs.Perm (L.map fun q => V.ref q.1) := by
    rw [hxs]
    have z := pm.map bkV
    rw [List.map_map] at z
    exact z
  have all : ∀ v ∈ xs, ∃ k ∈ L, ∃ p : P2, p ∈ ps ∧ k.2 = row p ∧ v = .ref k.1 ∧ IsP H v p := fun v hv => by
    obtain ⟨k, hk, e⟩ := List.mem_map.mp (pmx.mem_iff.mp hv)
    obtain ⟨p, z0, z1, z2⟩ := hL k hk
    exact ⟨k, hk, p, z0, z1, e.symm, ⟨k.1, e.symm, z2⟩⟩
  have hP : Prs H xs (xs.map (kP H)) := Prs.of fun v hv => by
    obtain ⟨k, _, p, _, _, _, h⟩ := all v hv
    rw [h.k]
    exact h
  have nd : (xs.map (kP H)).Nodup := by
    have n1 : ((L.map fun q => V.ref q.1).map (kP H)).Nodup := by
      have e : (((L.map fun q => V.ref q.1).map (kP H)).map row) = L.map (·.2) := by
        rw [List.map_map, List.map_map]
        refine List.map_congr_left fun k hk => ?_
        obtain ⟨p, _, z1, z2⟩ := hL k hk
        have : kP H (V.ref k.1) = p := (show IsP H (V.ref k.1) p from ⟨k.1, rfl, z2⟩).k
        show row (kP H (V.ref k.1)) = k.2
        rw [this, z1]
      exact nodup_of_map (f := row) (by rw [e]; exact R.nd)
    exact (pmx.map (kP H)).nodup_iff.mpr n1
  have memb : ∀ p, p ∈ xs.map (kP H) ↔ p ∈ ps := fun p => by
    constructor
    · intro hp
      obtain ⟨v, hv, e⟩ := List.mem_map.mp hp
      obtain ⟨k, _, q, z0, _, _, h⟩ := all v hv
      rw [← e, h.k]
      exact z0
    · intro hp
      obtain ⟨k, hk, e⟩ := List.mem_map.mp (hps p hp)
      have hv : V.ref k.1 ∈ xs := pmx.mem_iff.mpr (List.mem_map.mpr ⟨k, hk, rfl⟩)
      obtain ⟨q, _, z1, z2⟩ := hL k hk
      have eq : q = p := row_inj (z1.symm.trans e)
      refine List.mem_map.mpr ⟨_, hv, ?_⟩
      rw [(show IsP H (V.ref k.1) q from ⟨k.1, rfl, z2⟩).k, eq]
  have hlen : xs.length ≤ sizeLine := by
    rw [pmx.length_eq, List.length_map, sizeLine_eq]
    omega
  refine sort_fin I1 hu rv hlen (fun x hx v r => reads_P I1 r (hP.all x hx)) (alikeP H xs) (sortableP H xs) (depthP H) fun p hn => q p _ hn ?_
  have z := (sortP_ok hP).2
  rw [psort_nodup nd, pset_congr memb] at z
  exact z
end
end Ct
end
section
set_option Elab.async false
set_option linter.all false
set_option maxRecDepth 100000
set_option maxHeartbeats 4000000
/-! Readings, one step each. -/
namespace Ct
open PySem PySem.Spec L2
variable {K : PySem.W.Frag} {H H1 H2 H3 : Hp} {σ : L2.St} {Q : VK} {D : Ends} {p q : Addr} {o u : HO} {v x y : V}

/-! ### heaps -/
def But (f : Addr) (H H' : Hp) : Prop := ∀ b o, b ≠ f → H b = some o → H' b = some o
theorem same_upd (hp : H p = none) (e : upd H p o = H2) : Same H H2 := fun b u h => by
  rw [← e, upd_ne (ne_of_none h hp)]
  exact h
theorem upd_at (e : upd H p o = H2) : H2 p = some o := by
  rw [← e]
  exact upd_same
theorem but_upd (e : upd H p o = H2) : But p H H2 := fun b u n h => by
  rw [← e, upd_ne n]
  exact h
theorem Same.but (s : Same H H2) : But p H H2 := fun b u _ h => s b u h
theorem But.trans (a : But p H H1) (b : But p H1 H2) : But p H H2 := fun c u n h => b c u n (a c u n h)
theorem But.rfl' : But p H H := fun _ _ _ h => h
theorem But.free (a : But p H H2) (hp : H2 p = some o) (h : H2 q = none) : H q = none := by
  cases e : H q with
  | none => rfl
  | some u =>
    by_cases c : q = p
    · rw [c, hp] at h
      cases h
    · rw [a q u c e] at h
      cases h
/-- what was changed is new -/
theorem But.same (a : But p H1 H2) (s : Same H H1) (n : H p = none) : Same H H2 := fun b u h => a b u (ne_of_none h n) (s b u h)
theorem ne_lst_tup {xs ys : List V} (h : H p = some (.lst xs)) (h' : H q = some (.tup ys)) : p ≠ q := ne_of h h' (by intro z; cases z)
theorem ne_tup_lst {xs ys : List V} (h : H p = some (.tup ys)) (h' : H q = some (.lst xs)) : p ≠ q := ne_of h h' (by intro z; cases z)

/-- the walk halts here: a heap wants a name -/
def Hold (p : Prop) : Prop := p
theorem hold {p : Prop} (h : p) : Hold p := h
/-! ### statements -/
theorem r_seq {t u : TS} (h : t { D with nx := u D } σ H) : tSeq t u D σ H := h
theorem r_next (h : D.nx σ H) : tNext D σ H := h
theorem r_asg {te : TE} {g : TG} (h : te σ H fun x H1 => g x σ H1 D.nx) : tAsg te g D σ H := h
theorem r_drop {te : TE} (h : te σ H fun _ H1 => D.nx σ H1) : tDrop te D σ H := h
theorem r_ret {te : TE} (h : te σ H D.rt) : tRet te D σ H := h
theorem r_retN (h : D.rt .non H) : tRetN D σ H := h
theorem r_if {c : TT} {t u : TS} (h : c σ H fun b H1 => if b = true then t D σ H1 else u D σ H1) : tIfS c t u D σ H := h
theorem r_name {i : Nat} {k : L2.St → Hp → Prop} (h : k (σ.set i (some v)) H) : gName i v σ H k := h
theorem r_gsub {to ti : TE} {t : TSet} {k : L2.St → Hp → Prop} (h : to σ H fun o H1 => ti σ H1 fun i H2 => t o i v H2 fun H3 => k σ H3) : gSub to ti t v σ H k := h
theorem r_gtup {n : Nat} {t : TGs} {xs : List V} {k : L2.St → Hp → Prop} (h1 : SqT K H p xs) (h2 : xs.length = n) (h : t xs σ H k) : gTup K n t (.ref p) σ H k := ⟨p, xs, rfl, h1, h2, h⟩
theorem r_gcons {t : TG} {u : TGs} {vs : List V} {k : L2.St → Hp → Prop} (h : t v σ H fun σ' H' => u vs σ' H' k) : gCons t u (v :: vs) σ H k := ⟨v, vs, rfl, h⟩
theorem r_gnil {k : L2.St → Hp → Prop} (h : k σ H) : gNil [] σ H k := ⟨rfl, h⟩
theorem r_par {i j : Nat} {ta : TA} (h : ta σ H fun vs H1 => ∃ v w, vs = [v, w] ∧ D.nx ((σ.set i (some v)).set j (some w)) H1) : tPar i j ta D σ H := h
theorem r_par3 {i j l : Nat} {ta : TA} (h : ta σ H fun vs H1 => ∃ u v w, vs = [u, v, w] ∧ D.nx (((σ.set i (some u)).set j (some v)).set l (some w)) H1) : tPar3 i j l ta D σ H := h
theorem r_fldS {ta tv : TE} {f : Str} (h : tv σ H fun y H1 => ta σ H1 fun x H2 => ∃ a C dx fs, x = .ref a ∧ H2 a = some (.ins C dx fs) ∧ Cls K C ∧ NoAttr K C f ∧ fs.length < 1000 ∧ D.nx σ (upd H2 a (.ins C dx (putF f y fs)))) : sFld K ta tv f D σ H := h

/-! ### expressions -/
theorem r_var {i : Nat} (h1 : σ[i]? = some (some v)) (h : Q v H) : tVar i σ H Q := ⟨v, h1, h⟩
theorem r_c (h : Q v H) : tC v σ H Q := h
theorem r_op {r : R2} {ta tb : TE} (h : ta σ H fun x H1 => tb σ H1 fun y H2 => r x y H2 Q) : tOp r ta tb σ H Q := h
theorem r_un {r : V → Hp → VK → Prop} {ta : TE} (h : ta σ H fun x H1 => r x H1 Q) : tUn r ta σ H Q := h
theorem r_i0 {g : Int → Int → V} {i j : Int} (h : Q (g i j) H) : rI0 g (.int i) (.int j) H Q := ⟨i, j, rfl, rfl, h⟩
theorem r_i {C : Int → Int → Prop} {g : Int → Int → V} {i j : Int} (hc : C i j) (h : Q (g i j) H) : rI C g (.int i) (.int j) H Q := ⟨i, j, rfl, rfl, hc, h⟩
/-- a remainder, by its bounds alone -/
theorem r_modB {i j : Int} (hj : 0 < j) (h : ∀ m, 0 ≤ m → m < j → Q (.int m) H) : rI (fun _ j => 0 < j) (fun i j => .int (i % j)) (.int i) (.int j) H Q := ⟨i, j, rfl, rfl, hj, h _ (Int.emod_nonneg _ (by omega)) (Int.emod_lt_of_pos _ hj)⟩
theorem r_u {g : Int → V} {i : Int} (h : Q (g i) H) : rU g (.int i) H Q := ⟨i, rfl, h⟩
theorem r_eq (hs : scal x y = true) (h : Q (.bl (decide (x = y))) H) : rEq x y H Q := ⟨hs, h⟩
theorem r_ne (hs : scal x y = true) (h : Q (.bl (!decide (x = y))) H) : rNe x y H Q := ⟨hs, h⟩
theorem r_test {t : TE} {k : Bool → Hp → Prop} (h : t σ H fun x H' => ∃ c, x = .bl c ∧ k c H') : tTest t σ H k := h
theorem r_b {t : TE} {k : Bool → Hp → Prop} (h : t σ H fun x H' => ∃ c, x = .bl c ∧ k c H') : tB t σ H k := h
theorem r_exb {b : Bool} {k : Bool → Prop} (h : k b) : ∃ c, V.bl b = .bl c ∧ k c := ⟨b, rfl, h⟩
theorem r_and {t u : TT} {k : Bool → Hp → Prop} (h : t σ H fun c H1 => if c = true then u σ H1 k else k false H1) : tAnd t u σ H k := h
theorem r_or {t u : TT} {k : Bool → Hp → Prop} (h : t σ H fun c H1 => if c = true then k true H1 else u σ H1 k) : tOr t u σ H k := h
theorem r_not {t : TT} {k : Bool → Hp → Prop} (h : t σ H fun c H1 => k (!c) H1) : tNot t σ H k := h
theorem r_andV {ta tb : TE} (h : ta σ H fun x H1 => ∃ c, x = .bl c ∧ if c = true then tb σ H1 Q else Q (.bl false) H1) : tAndV ta tb σ H Q := h
theorem r_orV {ta tb : TE} (h : ta σ H fun x H1 => ∃ c, x = .bl c ∧ if c = true then Q (.bl true) H1 else tb σ H1 Q) : tOrV ta tb σ H Q := h
theorem r_notV {ta : TE} (h : ta σ H fun x H1 => ∃ c, x = .bl c ∧ Q (.bl (!c)) H1) : tNotV ta σ H Q := h
theorem r_ifE {t : TT} {ta tb : TE} (h : t σ H fun c H1 => if c = true then ta σ H1 Q else tb σ H1 Q) : tIf t ta tb σ H Q := h
theorem r_chain {r r' : R2} {ta tb tc : TE} (h : ta σ H fun x H1 => tb σ H1 fun y H2 => r x y H2 fun z H3 => ∃ k, z = .bl k ∧ (if k = true then tc σ H3 fun w' H4 => r' y w' H4 Q else Q (.bl false) H3)) : tChain r r' ta tb tc σ H Q := h
theorem r_nilA {k : List V → Hp → Prop} (h : k [] H) : tNil σ H k := h
theorem r_consA {ta : TE} {tr : TA} {k : List V → Hp → Prop} (h : ta σ H fun x H1 => tr σ H1 fun xs H2 => k (x :: xs) H2) : tCons ta tr σ H k := h
theorem r_lst {t : TA} (h : t σ H fun xs H1 => xs.length ≤ sizeLine ∧ ∀ p, H1 p = none → Q (.ref p) (upd H1 p (.lst xs))) : tLst t σ H Q := h
theorem r_tup {t : TA} (h : t σ H fun xs H1 => xs.length ≤ sizeLine ∧ ∀ p, H1 p = none → Q (.ref p) (upd H1 p (.tup xs))) : tTup t σ H Q := h
theorem r_cb {r : List V → Hp → VK → Prop} {t : TA} (h : t σ H fun vs H1 => r vs H1 Q) : tCB r t σ H Q := h
theorem r_call {sp : Sp} {dvs : List V} {E : XK} {t : TA} (h : t σ H fun vs H1 => sp (vs ++ dvs) H1 Q E) : tCall sp dvs E t σ H Q := h
theorem r_fld {ta : TE} {f : Str} (h : ta σ H fun x H1 => ∃ a C dx fs v, x = .ref a ∧ H1 a = some (.ins C dx fs) ∧ Cls K C ∧ NoAttr K C f ∧ fs.lookup f = some v ∧ Q v H1) : tFld K ta f σ H Q := h
theorem r_bm {T : String} {r : V → List V → Hp → VK → Prop} {to : TE} {t : TA} (h : to σ H fun x H1 => tyV K T x H1 ∧ t σ H1 fun xs H2 => r x xs H2 Q) : tBM K T r to t σ H Q := h
theorem r_bm0 {T : String} {r : V → List V → Hp → VK → Prop} {to : TE} (h : to σ H fun x H1 => tyV K T x H1 ∧ r x [] H1 Q) : tBM0 K T r to σ H Q := h
theorem r_lc {wi : TI} {g : TG} {tt : TT} {te : TE} {vs : List Nat} (h : wi σ H fun J H1 => ∀ D, H1 D = none → ∃ W : Nat → Nat → Hp → Prop, (∃ m, W 0 m (upd H1 D (.lst []))) ∧ ∀ i m H, W i m H →
  (J.stop i H ∧ Q (.ref D) H) ∨ (J.go i H ∧ ∃ Nx : Hp → Prop, (∀ H', Nx H' → ∃ m', m' < m ∧ W (i + 1) m' H') ∧ ∀ x H', J.yld i H x H' → g x (wipe σ vs) H' fun σ2 H2 => wipe σ2 vs = wipe σ vs ∧ tt σ2 H2 fun b H3 =>
    if b = true then te σ2 H3 fun y H4 => ∃ acc, H4 D = some (.lst acc) ∧ acc.length < sizeLine ∧ Nx (upd H4 D (.lst (acc ++ [y]))) else Nx H3)) : tLc wi g tt te vs σ H Q := h
theorem r_for {wi : TI} {g : TG} {tb : TS} (h : wi σ H fun J H1 => ∃ W : Nat → Nat → L2.St → Hp → Prop, (∃ m, W 0 m σ H1) ∧ ∀ i m σ H, W i m σ H →
  (J.stop i H ∧ D.nx σ H) ∨ (J.go i H ∧ ∃ N : L2.St → Hp → Prop, (∀ σ' H', N σ' H' → ∃ m', m' < m ∧ W (i + 1) m' σ' H') ∧ ∀ x H', J.yld i H x H' → g x σ H' fun σ2 H2 => tb { D with nx := N, ct := N, bk := D.nx } σ2 H2)) : tFor wi g tb D σ H := h

/-! ### lists -/
theorem r_ixL {xs : List V} {i : Int} (h1 : SqL K H p xs) (h2 : atI xs i = some v) (h : Q v H) : rIxL K (.ref p) (.int i) H Q := ⟨p, xs, i, v, rfl, rfl, h1, h2, h⟩
theorem r_ixT {xs : List V} {i : Int} (h1 : SqT K H p xs) (h2 : atI xs i = some v) (h : Q v H) : rIxT K (.ref p) (.int i) H Q := ⟨p, xs, i, v, rfl, rfl, h1, h2, h⟩
theorem r_setL {xs : List V} {i : Int} {j : Nat} {k : Hp → Prop} (h1 : H p = some (.lst xs)) (h2 : ixN xs.length i = some j) (h : Hold (k (upd H p (.lst (xs.set j v))))) : rSetL (.ref p) (.int i) v H k := ⟨p, xs, i, j, rfl, rfl, h1, h2, h⟩
theorem r_append {xs : List V} (h1 : H p = some (.lst xs)) (h2 : xs.length < sizeLine) (h : Hold (Q .non (upd H p (.lst (xs ++ [y]))))) : rAppend (.ref p) [y] H Q := ⟨p, xs, y, rfl, rfl, h1, h2, h⟩
theorem r_tyL {xs : List V} {C : Prop} (h1 : SqL K H p xs) (h : C) : tyV K "list" (.ref p) H ∧ C := ⟨.inl ⟨rfl, _, h1⟩, h⟩
/-! ### comprehensions over a list -/
theorem r_iList {tl : TE} {R : It → Hp → Prop} (h : tl σ H fun x H1 => ∃ a, x = .ref a ∧ (∃ xs, SqL K H1 a xs) ∧ R (Itl K a) H1) : iList K tl σ H R := h
theorem r_iRng1 {ta : TA} {R : It → Hp → Prop} (h : ta σ H fun vs H1 => ∃ j : Int, vs = [.int j] ∧ -(2 ^ 62) ≤ j ∧ j < 2 ^ 62 ∧ R (Itr 0 j.toNat) H1) : iRng1 ta σ H R := h
theorem r_wipe {σ' : L2.St} {vs : List Nat} {C : Prop} (e : wipe σ vs = wipe σ' vs) (h : C) : wipe σ vs = wipe σ' vs ∧ C := ⟨e, h⟩
theorem r_yes {k : Bool → Hp → Prop} (h : k true H) : tYes σ H k := h
def PvL (H : Hp) (D : Addr) (I : Nat → List V → Hp → Prop) (i : Nat) (G : Hp) : Prop := ∃ acc, G D = some (.lst acc) ∧ acc.length ≤ i ∧ Same H G ∧ H D = none ∧ I i acc G
/-- a comprehension over what x is -/
def LcGo (K : PySem.W.Frag) (x : V) (g : TG) (tt : TT) (te : TE) (vs : List Nat) (σ : L2.St) (H : Hp) (Q : VK) : Prop := ∃ a, x = V.ref a ∧ (∃ xs, SqL K H a xs) ∧ ∀ D, H D = none → ∃ W : Nat → Nat → Hp → Prop, (∃ m, W 0 m (upd H D (.lst []))) ∧ ∀ i m H, W i m H →
      ((Itl K a).stop i H ∧ Q (.ref D) H) ∨ ((Itl K a).go i H ∧ ∃ Nx : Hp → Prop, (∀ H', Nx H' → ∃ m', m' < m ∧ W (i + 1) m' H') ∧ ∀ x H', (Itl K a).yld i H x H' → g x (wipe σ vs) H' fun σ2 H2 => wipe σ2 vs = wipe σ vs ∧ tt σ2 H2 fun b H3 =>
        if b = true then te σ2 H3 fun y H4 => ∃ acc, H4 D = some (.lst acc) ∧ acc.length < sizeLine ∧ Nx (upd H4 D (.lst (acc ++ [y]))) else Nx H3)
theorem r_lcL {tl : TE} {g : TG} {tt : TT} {te : TE} {vs : List Nat} (h : tl σ H fun x H1 => LcGo K x g tt te vs σ H1 Q) : tLc (iList K tl) g tt te vs σ H Q := h
theorem lcL {a : Addr} {xs : List V} {g : TG} {tt : TT} {te : TE} {vs : List Nat} (I : Nat → List V → Hp → Prop) (hl : SqL K H a xs) (h0 : ∀ G, Same H G → I 0 [] G)
    (hs : ∀ i x G D, i < xs.length → xs[i]? = some x → PvL H D I i G → g x (wipe σ vs) G fun σ2 H2 => wipe σ2 vs = wipe σ vs ∧ tt σ2 H2 fun b H3 =>
      if b = true then te σ2 H3 fun y H4 => ∃ acc, H4 D = some (.lst acc) ∧ acc.length < sizeLine ∧ PvL H D I (i + 1) (upd H4 D (.lst (acc ++ [y]))) else PvL H D I (i + 1) H3)
    (hd : ∀ acc G D, Same H G → H D = none → G D = some (.lst acc) → acc.length ≤ xs.length → I xs.length acc G → Q (.ref D) G) : LcGo K (.ref a) g tt te vs σ H Q := by
  refine ⟨a, rfl, ⟨xs, hl⟩, fun D hD => lc_list (K := K) (a := a) (xs := xs) (Qd := fun G => Q (.ref D) G) (fun i G => PvL H D I i G) ?_ (fun i G _ ⟨_, _, _, s, _⟩ => s.seq hl) (fun i x G hx p => ?_) (fun G ⟨acc, h1, h2, h3, _, h5⟩ => hd acc G D h3 hD h1 h2 h5)⟩
  · have s := same_upd (o := .lst []) hD rfl
    exact ⟨[], upd_same, Nat.zero_le _, s, hD, h0 _ s⟩
  · exact hs i x G D (List.getElem?_eq_some_iff.mp hx).1 hx p
/-- a for over what x is -/
def FoGo (K : PySem.W.Frag) (x : V) (g : TG) (tb : TS) (D : Ends) (σ : L2.St) (H : Hp) : Prop := ∃ a, x = V.ref a ∧ (∃ xs, SqL K H a xs) ∧ ∃ W : Nat → Nat → L2.St → Hp → Prop, (∃ m, W 0 m σ H) ∧ ∀ i m σ H, W i m σ H →
  ((Itl K a).stop i H ∧ D.nx σ H) ∨ ((Itl K a).go i H ∧ ∃ N : L2.St → Hp → Prop, (∀ σ' H', N σ' H' → ∃ m', m' < m ∧ W (i + 1) m' σ' H') ∧ ∀ x H', (Itl K a).yld i H x H' → g x σ H' fun σ2 H2 => tb { D with nx := N, ct := N, bk := D.nx } σ2 H2)
theorem r_foL {tl : TE} {g : TG} {tb : TS} (h : tl σ H fun x H1 => FoGo K x g tb D σ H1) : tFor (iList K tl) g tb D σ H := h
theorem foL {a : Addr} {xs : List V} {g : TG} {tb : TS} (hl : SqL K H a xs) (Pv : Nat → L2.St → Hp → Prop) (h0 : Pv 0 σ H) (hk : ∀ i σ H, i ≤ xs.length → Pv i σ H → SqL K H a xs)
    (hs : ∀ i x σ H, i < xs.length → xs[i]? = some x → Pv i σ H → g x σ H fun σ2 H2 => tb { D with nx := Pv (i + 1), ct := Pv (i + 1), bk := D.nx } σ2 H2) (hd : ∀ σ H, Pv xs.length σ H → D.nx σ H) : FoGo K (.ref a) g tb D σ H :=
  ⟨a, rfl, ⟨xs, hl⟩, for_list (K := K) (a := a) (xs := xs) Pv h0 hk (fun i x σ H e p => hs i x σ H (List.getElem?_eq_some_iff.mp e).1 e p) hd⟩
/-- a for over range(n) -/
def RgGo (vs : List V) (g : TG) (tb : TS) (D : Ends) (σ : L2.St) (H : Hp) : Prop := ∃ j : Int, vs = [.int j] ∧ -(2 ^ 62) ≤ j ∧ j < 2 ^ 62 ∧ ∃ W : Nat → Nat → L2.St → Hp → Prop, (∃ m, W 0 m σ H) ∧ ∀ i m σ H, W i m σ H →
  ((Itr 0 j.toNat).stop i H ∧ D.nx σ H) ∨ ((Itr 0 j.toNat).go i H ∧ ∃ N : L2.St → Hp → Prop, (∀ σ' H', N σ' H' → ∃ m', m' < m ∧ W (i + 1) m' σ' H') ∧ ∀ x H', (Itr 0 j.toNat).yld i H x H' → g x σ H' fun σ2 H2 => tb { D with nx := N, ct := N, bk := D.nx } σ2 H2)
theorem r_foR {ta : TA} {g : TG} {tb : TS} (h : ta σ H fun vs H1 => RgGo vs g tb D σ H1) : tFor (iRng1 ta) g tb D σ H := h
theorem foR {j : Int} {g : TG} {tb : TS} (hj : -(2 ^ 62) ≤ j ∧ j < 2 ^ 62) (Pv : Nat → L2.St → Hp → Prop) (h0 : Pv 0 σ H)
    (hs : ∀ i σ H, i < j.toNat → Pv i σ H → g (.int i) σ H fun σ2 H2 => tb { D with nx := Pv (i + 1), ct := Pv (i + 1), bk := D.nx } σ2 H2) (hd : ∀ σ H, Pv j.toNat σ H → D.nx σ H) : RgGo [.int j] g tb D σ H :=
  ⟨j, rfl, hj.1, hj.2, for_range (lo := 0) (n := j.toNat) Pv h0 (fun i σ H hi p => by rw [Int.zero_add]; exact hs i σ H hi p) hd⟩
/-- a turn's end -/
theorem lcT {I : Nat → List V → Hp → Prop} {i : Nat} {acc : List V} {G H4 : Hp} {D' : Addr} (h : G D' = some (.lst acc)) (hl : acc.length ≤ i) (hi : i < sizeLine) (s0 : Same H G) (hD : H D' = none) (s : Same G H4)
    (hI : ∀ H5, But D' H4 H5 → H4 D' = some (.lst acc) → I (i + 1) (acc ++ [y]) H5) : ∃ acc', H4 D' = some (.lst acc') ∧ acc'.length < sizeLine ∧ PvL H D' I (i + 1) (upd H4 D' (.lst (acc' ++ [y]))) := by
  have h4 := s _ _ h
  refine ⟨acc, h4, Nat.lt_of_le_of_lt hl hi, acc ++ [y], upd_same, by rw [List.length_append]; exact Nat.succ_le_succ hl, ?_, hD, hI _ (but_upd rfl) h4⟩
  exact fun b u e => by
    rw [upd_ne (ne_of_none e hD)]
    exact s _ _ (s0 _ _ e)
theorem lcN {I : Nat → List V → Hp → Prop} {i : Nat} {acc : List V} {G H4 : Hp} {D' : Addr} (h : G D' = some (.lst acc)) (hl : acc.length ≤ i) (s0 : Same H G) (hD : H D' = none) (s : Same G H4) (hI : I (i + 1) acc H4) : PvL H D' I (i + 1) H4 :=
  ⟨acc, s _ _ h, Nat.le_succ_of_le hl, s0.trans s, hD, hI⟩
theorem But.ip {f : Addr} {xs : List V} {v : V} {p : P2} (b : But f H H2) (hf : H f = some (.lst xs)) (h : IsP H v p) : IsP H2 v p := by
  obtain ⟨t, e, ht⟩ := h
  exact ⟨t, e, b _ _ (ne_tup_lst ht hf) ht⟩
theorem But.prs {f : Addr} {xs vs : List V} {ps : List P2} (b : But f H H2) (hf : H f = some (.lst xs)) (h : Prs H vs ps) : Prs H2 vs ps := L2.Paired.mapP h fun _ _ q => b.ip hf q
theorem iteB {A B : Prop} {b : Bool} (h1 : b = true → A) (h2 : b = false → B) : if b = true then A else B := by
  cases b
  · rw [if_neg Bool.false_ne_true]; exact h2 rfl
  · rw [if_pos rfl]; exact h1 rfl
theorem iteD {A B : Prop} {c : Prop} [Decidable c] (h1 : c → A) (h2 : ¬ c → B) : if decide c = true then A else B := iteB (fun h => h1 (of_decide_eq_true h)) fun h => h2 (of_decide_eq_false h)
theorem iteNT {A B : Prop} (h : B) : if (!true) = true then A else B := by rw [Bool.not_true]; exact iteF h
theorem iteNF {A B : Prop} (h : A) : if (!false) = true then A else B := by rw [Bool.not_false]; exact iteT h
theorem iteYes {A B : Prop} {c : Prop} [Decidable c] (hc : c) (h : A) : if decide c = true then A else B := by rw [decide_eq_true hc, if_pos rfl]; exact h
theorem iteNo {A B : Prop} {c : Prop} [Decidable c] (hc : ¬ c) (h : B) : if decide c = true then A else B := by rw [decide_eq_false hc, if_neg Bool.false_ne_true]; exact h
theorem iteND {A B : Prop} {c : Prop} [Decidable c] (h1 : ¬ c → A) (h2 : c → B) : if (!decide c) = true then A else B := by
  by_cases h : c
  · rw [decide_eq_true h]; exact iteF (h2 h)
  · rw [decide_eq_false h]; exact iteT (h1 h)
end Ct
end
section
set_option Elab.async false
set_option linter.all false
set_option maxRecDepth 100000
/-! The dict of the greatest claims while it is filled; dicts' readings. -/
namespace Ct
open PySem L2
abbrev Ke (k : Int) : Key := Sum.inl k
structure Best (kvs : List (Key × V)) (l : List P2) : Prop where
  keys : ∃ ks : List Int, kvs.map (·.1) = ks.map Sum.inl ∧ ks.Nodup ∧ ∀ k, k ∈ ks ↔ ∃ p ∈ l, p.1 = k
  val : ∀ k : Int, (valV kvs (Ke k)).getD (.int 0) = .int (mx l k)
  has : ∀ k : Int, (∃ p ∈ l, p.1 = k) → valV kvs (Ke k) = some (.int (mx l k))
  no : ∀ k : Int, (¬ ∃ p ∈ l, p.1 = k) → valV kvs (Ke k) = none
  len : kvs.length ≤ l.length
theorem Best.nil : Best [] [] := ⟨⟨[], rfl, List.nodup_nil, fun k => by simp⟩, fun _ => rfl, fun k h => by simp at h, fun _ _ => rfl, Nat.le_refl _⟩
theorem Best.put {kvs : List (Key × V)} {l : List P2} (b : Best kvs l) (p : P2) : Best (putK kvs (Ke p.1) (.int (if mx l p.1 > p.2 then mx l p.1 else p.2))) (l ++ [p]) := by
  have hm : mx (l ++ [p]) p.1 = if mx l p.1 > p.2 then mx l p.1 else p.2 := by rw [mx_snoc, if_pos rfl]
  have hne : ∀ k, k ≠ p.1 → mx (l ++ [p]) k = mx l k := fun k h => by rw [mx_snoc, if_neg (Ne.symm h)]
  have hv : ∀ k : Int, valV (putK kvs (Ke p.1) (.int (if mx l p.1 > p.2 then mx l p.1 else p.2))) (Ke k) = if k = p.1 then some (.int (mx (l ++ [p]) k)) else valV kvs (Ke k) := fun k => by
    rw [valV_put]
    by_cases e : k = p.1
    · subst e
      rw [if_pos rfl, if_pos rfl, hm]
    · rw [if_neg e, if_neg (fun z => e (Sum.inl.inj z))]
  have hex : ∀ k, (∃ q ∈ l ++ [p], q.1 = k) ↔ (∃ q ∈ l, q.1 = k) ∨ k = p.1 := fun k => by
    constructor
    · rintro ⟨q, hq, e⟩
      rcases List.mem_append.mp hq with z | z
      · exact .inl ⟨q, z, e⟩
      · rw [List.mem_singleton.mp z] at e; exact .inr e.symm
    · rintro (⟨q, hq, e⟩ | e)
      · exact ⟨q, List.mem_append_left _ hq, e⟩
      · exact ⟨p, List.mem_append_right _ (List.mem_singleton.mpr rfl), e.symm⟩
  obtain ⟨ks, k1, k2, k3⟩ := b.keys
  refine ⟨?_, fun k => ?_, fun k h => ?_, fun k h => ?_, ?_⟩
  · by_cases c : ∃ q ∈ l, q.1 = p.1
    · refine ⟨ks, ?_, k2, fun k => ?_⟩
      · have ha : (kvs.any fun kv => decide (kv.1 = Ke p.1)) = true := by
          rw [valV_any, b.has _ c] <;> rfl
        unfold putK
        rw [if_pos ha, List.map_map, ← k1]
        refine List.map_congr_left fun kv _ => ?_
        show (if kv.1 = Ke p.1 then (kv.1, _) else kv).1 = kv.1
        split <;> rfl
      · rw [k3, hex]
        constructor
        · exact .inl
        · rintro (h | h)
          · exact h
          · rw [h]; exact c
    · have hn : valV kvs (Ke p.1) = none := b.no _ c
      refine ⟨ks ++ [p.1], ?_, ?_, fun k => ?_⟩
      · rw [putK_new _ hn, List.map_append, k1, List.map_append] <;> rfl
      · refine List.nodup_append.mpr ⟨k2, by simp, fun x hx y hy => ?_⟩
        rw [List.mem_singleton.mp hy]
        intro e
        rw [e] at hx
        exact c ((k3 _).mp hx)
      · rw [List.mem_append, List.mem_singleton, k3, hex]
  · rw [hv]
    by_cases e : k = p.1
    · rw [if_pos e] <;> rfl
    · rw [if_neg e, hne k e]; exact b.val k
  · rw [hv]
    by_cases e : k = p.1
    · rw [if_pos e]
    · rw [if_neg e, hne k e]
      exact b.has k (((hex k).mp h).resolve_right e)
  · rw [hv, if_neg (fun e => h ((hex k).mpr (.inr e)))]
    exact b.no k fun z => h ((hex k).mpr (.inl z))
  · have h1 := length_putK kvs (Ke p.1) (.int (if mx l p.1 > p.2 then mx l p.1 else p.2))
    have h2 := b.len
    rw [List.length_append]
    show _ ≤ l.length + 1
    omega
variable {K : PySem.W.Frag} {H H1 H2 H3 : Hp} {σ : L2.St} {Q : VK} {D : Ends} {p q : Addr} {o u : HO} {v x y : V}
theorem r_dput {td ty tv : TE} (h : tv σ H fun v H1 => td σ H1 fun x H2 => ty σ H2 fun y H3 => ∃ a H4, x = .ref a ∧ DPut H3 a y v H4 ∧ D.nx σ H4) : sDPut td ty tv D σ H := h
theorem e_dput {kvs : List (Key × V)} {n : Int} {N : Hp → Prop} (h1 : H p = some (.dK kvs)) (h2 : kvs.length < sizeLine) (h : Hold (N (upd H p (.dK (putK kvs (Ke n) v))))) : ∃ a H4, V.ref p = .ref a ∧ DPut H a (.int n) v H4 ∧ N H4 := ⟨p, _, rfl, DPut.k (k := Ke n) h1 h2, h⟩
theorem r_dget {td ty : TE} (h : td σ H fun x H1 => ty σ H1 fun y H2 => ∃ a v, x = .ref a ∧ DGet H2 a y (some v) ∧ Q v H2) : tDGet td ty σ H Q := h
theorem e_dget {kvs : List (Key × V)} {n : Int} {N : V → Prop} (h1 : H p = some (.dK kvs)) (h2 : valV kvs (Ke n) = some v) (h : N v) : ∃ a v, V.ref p = .ref a ∧ DGet H a (.int n) (some v) ∧ N v := ⟨p, v, rfl, h2 ▸ DGet.k (k := Ke n) h1, h⟩
theorem r_dget2 {td ty tx : TE} (h : td σ H fun x H1 => ∃ a, x = .ref a ∧ IsD H1 a ∧ ty σ H1 fun y H2 => tx σ H2 fun z H3 => ∃ o, DGet H3 a y o ∧ Q (o.getD z) H3) : tDGet2 td ty tx σ H Q := h
theorem e_isd {kvs : List (Key × V)} {C : Addr → Prop} (h1 : H p = some (.dK kvs)) (h : C p) : ∃ a, V.ref p = .ref a ∧ IsD H a ∧ C a := ⟨p, rfl, .inl ⟨kvs, .inl h1⟩, h⟩
theorem e_dget2 {kvs : List (Key × V)} {n : Int} {N : Option V → Prop} (h1 : H p = some (.dK kvs)) (h : N (valV kvs (Ke n))) : ∃ o, DGet H p (.int n) o ∧ N o := ⟨_, DGet.k (k := Ke n) h1, h⟩
theorem sz64 {n : Nat} (h : Nat.ble n 64 = true) : n ≤ sizeLine := Nat.le_trans (Nat.le_of_ble_eq_true h) (by rw [sizeLine_eq]; decide)
theorem r_star {te : TE} {t : TA} {k : List V → Hp → Prop} (h : te σ H fun x H1 => ∃ p xs, x = V.ref p ∧ (SqT K H1 p xs ∨ SqL K H1 p xs) ∧ t σ H1 fun ys H2 => k (xs ++ ys) H2) : StX.tStar K te t σ H k := h
theorem e_int1 {i : Int} {C : Int → Prop} (h : C i) : ∃ j, [V.int i] = [V.int j] ∧ C j := ⟨i, rfl, h⟩
theorem e_int2 {i j : Int} {C : Int → Int → Prop} (h : C i j) : ∃ i' j', [V.int i, V.int j] = [V.int i', V.int j'] ∧ C i' j' := ⟨i, j, rfl, h⟩
theorem e_two {C : V → V → Prop} (h : C x y) : ∃ v w, [x, y] = [v, w] ∧ C v w := ⟨x, y, rfl, h⟩
theorem e_lenL {xs : List V} {C : Addr → List V → Prop} (h1 : SqL K H p xs) (h : C p xs) : ∃ q ys, [V.ref p] = [V.ref q] ∧ (SqL K H q ys ∨ SqT K H q ys) ∧ C q ys := ⟨p, xs, rfl, .inl h1, h⟩
theorem e_lenT {xs : List V} {C : Addr → List V → Prop} (h1 : SqT K H p xs) (h : C p xs) : ∃ q ys, [V.ref p] = [V.ref q] ∧ (SqL K H q ys ∨ SqT K H q ys) ∧ C q ys := ⟨p, xs, rfl, .inr h1, h⟩
theorem r_popAt {xs : List V} {i : Int} {k : Nat} (h1 : H p = some (.lst xs)) (h2 : -(2 ^ 63) ≤ i ∧ i < 2 ^ 63) (h3 : seqIndex? i xs.length = some k) (h4 : xs[k]? = some y) (h : Hold (Q y (upd H p (.lst (xs.eraseIdx k))))) : rPopAt (.ref p) [.int i] H Q := ⟨p, xs, i, k, y, rfl, rfl, h1, h2.1, h2.2, h3, h4, h⟩
theorem r_dnew (h : ∀ p, H p = none → Q (.ref p) (upd H p (.dK []))) : tDNewK σ H Q := h
end Ct
end
section
set_option Elab.async false
set_option linter.all false
set_option maxRecDepth 100000
/-! Lists of pairs as data: ==, repr. -/
namespace Ct
open PySem L2
/-- a new list of pairs -/
def PL (H : Hp) (l : Addr) (ps : List P2) : Prop := ∃ xs, H l = some (.lst xs) ∧ Prs H xs ps
theorem PL.ext {H H' : Hp} {l : Addr} {ps : List P2} (h : PL H l ps) (e : Same H H') : PL H' l ps := let ⟨xs, a, b⟩ := h; ⟨xs, e _ _ a, b.ext e⟩
abbrev dP (p : P2) : PyData := PySem.W.Datum.toD p
def dL (ps : List P2) : PyData := .list (ps.map dP)
def dLL (qs : List (List P2)) : PyData := .list (qs.map dL)
variable {K : PySem.W.Frag} {H : Hp}
theorem IsP.dp {v : V} {p : P2} (h : IsP H v p) : Dp K H v (dP p) := by
  obtain ⟨t, rfl, ht⟩ := h
  exact .tup (SqT.of ht) (.cons (.int _) (.cons (.int _) .nil))
theorem Prs.dp : ∀ {vs : List V} {ps : List P2}, Prs H vs ps → DpAll K H vs (ps.map dP)
  | _, _, .nil => .nil
  | _, _, .cons h t => .cons h.dp (Prs.dp t)
theorem PL.dp {l : Addr} {ps : List P2} (h : PL H l ps) : Dp K H (.ref l) (dL ps) := by
  obtain ⟨xs, h1, h2⟩ := h
  exact .lst (SqL.of h1) h2.dp
theorem dL_eqv (ps qs : List P2) : PyData.eqv (dL ps) (dL qs) = decide (ps = qs) := PySem.W.Datum.eqv ps qs
theorem canP : ∀ ps : List P2, PyData.canLayAll0 (ps.map dP) = true
  | [] => rfl
  | p :: ps => by
    show (PyData.canLay0 (dP p) && PyData.canLayAll0 (ps.map dP)) = true
    rw [canP ps]
    rfl
theorem dL_depth (ps : List P2) : (dL ps).depth ≤ 2 := PySem.W.Datum.depth_le ps
theorem dL_shaped (ps : List P2) : SeqAt.shaped (dL ps) = true := by
  unfold SeqAt.shaped
  have h1 : (dL ps).canLay0 = true := by
    show PyData.canLayAll0 _ = true
    exact canP ps
  have h2 := dL_depth ps
  rw [h1, decide_eq_true (by omega)]
  rfl
/-- a pair of small numbers -/
def Sm (p : P2) : Prop := 0 ≤ p.1 ∧ p.1 < 64 ∧ 0 ≤ p.2 ∧ p.2 < 64
theorem small_log {i : Int} (h0 : 0 ≤ i) (h : i < 64) : i.natAbs.log2 < 6 := by
  by_cases e : i.natAbs = 0
  · rw [e]; decide
  · exact (Nat.log2_lt e).mpr (by omega)
theorem small_show {i : Int} (h0 : 0 ≤ i) (h : i < 64) : (PyData.shown (.int i)).length ≤ 8 := by
  have e := int_text_length_le (a := i) (k := 6) (by decide) (small_log h0 h)
  show (Str.ofString (toString i)).length ≤ 8
  rw [PySem.ofString_length]
  omega
theorem small_weight {i : Int} (h0 : 0 ≤ i) (h : i < 64) : (PyData.int i).weight ≤ 6 := by
  show (if i == 0 then 0 else i.natAbs.log2 + 1) ≤ 6
  have := small_log h0 h
  split <;> omega
theorem dP_weight {p : P2} (h : Sm p) : (dP p).weight ≤ 14 := by
  have h1 := small_weight h.1 h.2.1
  have h2 := small_weight h.2.2.1 h.2.2.2
  show (PyData.int p.1).weight + 1 + ((PyData.int p.2).weight + 1 + 0) ≤ 14
  omega
theorem dL_weight : ∀ {ps : List P2}, (∀ p ∈ ps, Sm p) → (dL ps).weight ≤ 15 * ps.length
  | [], _ => Nat.le_refl _
  | p :: ps, h => by
    have h1 := dP_weight (h p List.mem_cons_self)
    have h2 := dL_weight (ps := ps) fun q hq => h q (List.mem_cons_of_mem _ hq)
    have e : (dL (p :: ps)).weight = (dP p).weight + 1 + (dL ps).weight := rfl
    rw [e, List.length_cons]
    omega
theorem dP_short {p : P2} (h : Sm p) : PyData.leavesShort 8 (dP p) = true := by
  show (decide ((PyData.shown (.int p.1)).length ≤ 8) && (decide ((PyData.shown (.int p.2)).length ≤ 8) && true)) = true
  rw [decide_eq_true (small_show h.1 h.2.1), decide_eq_true (small_show h.2.2.1 h.2.2.2)]
  rfl
theorem dL_short : ∀ {ps : List P2}, (∀ p ∈ ps, Sm p) → PyData.leavesShort 8 (dL ps) = true
  | [], _ => rfl
  | p :: ps, h => by
    show (PyData.leavesShort 8 (dP p) && PyData.leavesShort 8 (dL ps)) = true
    rw [dP_short (h p List.mem_cons_self), dL_short (ps := ps) fun q hq => h q (List.mem_cons_of_mem _ hq)]
    rfl
theorem dP_showable {p : P2} (h : Sm p) : (dP p).showable = true := by
  show (decide (p.1.natAbs.log2 < 1920) && (decide (p.2.natAbs.log2 < 1920) && true)) = true
  have h1 := small_log h.1 h.2.1
  have h2 := small_log h.2.2.1 h.2.2.2
  rw [decide_eq_true (by omega), decide_eq_true (by omega)]
  rfl
theorem dL_showable : ∀ {ps : List P2}, (∀ p ∈ ps, Sm p) → (dL ps).showable = true
  | [], _ => rfl
  | p :: ps, h => by
    show ((dP p).showable && (dL ps).showable) = true
    rw [dP_showable (h p List.mem_cons_self), dL_showable (ps := ps) fun q hq => h q (List.mem_cons_of_mem _ hq)]
    rfl
theorem dL_noDict : ∀ (ps : List P2), (dL ps).hasDict = false
  | [] => rfl
  | p :: ps => by
    show ((dP p).hasDict || (dL ps).hasDict) = false
    rw [dL_noDict ps]
    rfl
/-- two lists of pairs in a list: fit for repr -/
def ShowsD (d : PyData) : Prop := d.showable = true ∧ d.hasDict = false ∧ d.depth ≤ 60 ∧ d.shown.length ≤ sizeLine
theorem two_shows {ps qs : List P2} (hp : ∀ p ∈ ps, Sm p) (hq : ∀ p ∈ qs, Sm p) (h1 : ps.length ≤ 1000) (h2 : qs.length ≤ 1000) : ShowsD (.list [dL ps, dL qs]) := by
  refine ⟨?_, ?_, ?_, PyData.shown_fits (B := 8) (by decide) (by decide) ?_ ?_⟩
  · show ((dL ps).showable && ((dL qs).showable && true)) = true
    rw [dL_showable hp, dL_showable hq]
    rfl
  · show ((dL ps).hasDict || ((dL qs).hasDict || false)) = false
    rw [dL_noDict, dL_noDict]
    rfl
  · show max (dL ps).depth (max (dL qs).depth 0) + 1 ≤ 60
    have e1 := dL_depth ps
    have e2 := dL_depth qs
    omega
  · show (PyData.leavesShort 8 (dL ps) && (PyData.leavesShort 8 (dL qs) && true)) = true
    rw [dL_short hp, dL_short hq]
    rfl
  · show (dL ps).weight + 1 + ((dL qs).weight + 1 + 0) ≤ 2 ^ 20
    have e1 := dL_weight hp
    have e2 := dL_weight hq
    omega
theorem two_dp {t l m : Addr} {ps qs : List P2} (h : H t = some (.lst [.ref l, .ref m])) (hl : PL H l ps) (hm : PL H m qs) : Dp K H (.ref t) (.list [dL ps, dL qs]) := .lst (SqL.of h) (.cons hl.dp (.cons hm.dp .nil))
theorem Prs.erase {H : Hp} : ∀ {vs : List V} {ps : List P2} (j : Nat), Prs H vs ps → Prs H (vs.eraseIdx j) (ps.eraseIdx j)
  | _, _, _, .nil => .nil
  | _, _, 0, .cons _ t => t
  | _, _, j + 1, .cons h t => .cons h (Prs.erase j t)
theorem erase_perm : ∀ {ls : List P2} {j : Nat} {p : P2}, ls[j]? = some p → (p :: ls.eraseIdx j).Perm ls
  | [], _, _, h => by cases h
  | x :: ls, 0, p, h => by
    cases h
    exact .refl _
  | x :: ls, j + 1, p, h => (List.Perm.swap x p _).trans (.cons x (erase_perm (ls := ls) (j := j) h))
theorem shuffle_perm {ls fs ps : List P2} {j : Nat} {p : P2} (h : ls[j]? = some p) (e : (ls ++ fs).Perm ps) : (ls.eraseIdx j ++ (fs ++ [p])).Perm ps := by
  refine List.Perm.trans ?_ e
  rw [← List.append_assoc]
  refine List.perm_append_comm.trans ?_
  show (p :: (ls.eraseIdx j ++ fs)).Perm (ls ++ fs)
  rw [← List.cons_append]
  exact (erase_perm h).append_right fs
/-- a change of what is new -/
theorem But.ins {f m : Addr} {H G G' : Hp} (b : But f H G) (n : H m = none) (c : But m G G') : But f H G' := fun x o hx e => c x o (ne_of_none e n) (b x o hx e)
end Ct
end
section
set_option Elab.async false
set_option linter.all false
set_option maxRecDepth 100000
/-! Comprehensions over a dict's keys, the dict under a lock. -/
namespace Ct
open PySem L2
variable {K : PySem.W.Frag} {H H1 H2 H3 : Hp} {σ : L2.St} {Q : VK} {D : Ends} {p q : Addr} {o u : HO} {v x y : V}
def LcR (g : TG) (tt : TT) (te : TE) (vs : List Nat) (σ : L2.St) (Q : VK) (J : It) (H1 : Hp) : Prop := ∀ D, H1 D = none → ∃ W : Nat → Nat → Hp → Prop, (∃ m, W 0 m (upd H1 D (.lst []))) ∧ ∀ i m H, W i m H →
  (J.stop i H ∧ Q (.ref D) H) ∨ (J.go i H ∧ ∃ Nx : Hp → Prop, (∀ H', Nx H' → ∃ m', m' < m ∧ W (i + 1) m' H') ∧ ∀ x H', J.yld i H x H' → g x (wipe σ vs) H' fun σ2 H2 => wipe σ2 vs = wipe σ vs ∧ tt σ2 H2 fun b H3 =>
    if b = true then te σ2 H3 fun y H4 => ∃ acc, H4 D = some (.lst acc) ∧ acc.length < sizeLine ∧ Nx (upd H4 D (.lst (acc ++ [y]))) else Nx H3)
def LcK (g : TG) (tt : TT) (te : TE) (vs : List Nat) (σ : L2.St) (Q : VK) (x : V) (H1 : Hp) : Prop := ∃ d o, x = .ref d ∧ ((∃ kvs, H1 d = some (.frz o (.dK kvs)) ∧ LcR g tt te vs σ Q (Itk d o kvs) H1) ∨ ∃ kvs, H1 d = some (.frz o (.dT kvs)) ∧ LcR g tt te vs σ Q (Itkt d o kvs) H1)
theorem r_lcK {td : TE} {g : TG} {tt : TT} {te : TE} {vs : List Nat} (h : td σ H fun x H1 => LcK g tt te vs σ Q x H1) : tLc (iKeys td) g tt te vs σ H Q := h
theorem lcK {d : Addr} {od : Obj} {kvs : List (Key × V)} {g : TG} {tt : TT} {te : TE} {vs : List Nat} (I : Nat → List V → Hp → Prop) (hd : H d = some (.frz od (.dK kvs))) (h0 : ∀ G, Same H G → I 0 [] G)
    (hs : ∀ i k v G D, kvs[i]? = some (k, v) → PvL H D I i G → g (kV k) (wipe σ vs) G fun σ2 H2 => wipe σ2 vs = wipe σ vs ∧ tt σ2 H2 fun b H3 =>
      if b = true then te σ2 H3 fun y H4 => ∃ acc, H4 D = some (.lst acc) ∧ acc.length < sizeLine ∧ PvL H D I (i + 1) (upd H4 D (.lst (acc ++ [y]))) else PvL H D I (i + 1) H3)
    (he : ∀ acc G D, Same H G → H D = none → G D = some (.lst acc) → acc.length ≤ kvs.length → I kvs.length acc G → Q (.ref D) G) : LcK g tt te vs σ Q (.ref d) H := by
  refine ⟨d, od, rfl, .inl ⟨kvs, hd, fun D hD => ?_⟩⟩
  refine lc_it walk_keys (Qd := fun G => Q (.ref D) G) (fun i G => PvL H D I i G) ?_ (fun i G _ ⟨_, _, _, s, _⟩ => s _ _ hd) (fun i x G G' hi p ⟨e, k, v, hk, ex⟩ => ?_) (fun G ⟨acc, h1, h2, h3, _, h5⟩ => he acc G D h3 hD h1 h2 h5)
  · have s := same_upd (o := .lst []) hD rfl
    exact ⟨[], upd_same, Nat.zero_le _, s, hD, h0 _ s⟩
  · subst e
    subst ex
    exact hs i k v G' D hk p
theorem r_lockE {t : TE} (h : ∃ d u, H d = some u ∧ Mut (some u) ∧ ∀ od, t σ (upd H d (.frz od u)) fun v H' => H' d = some (.frz od u) ∧ Q v (upd H' d u)) : tLockE t σ H Q := h
theorem e_dgetF {kvs : List (Key × V)} {n : Int} {od : Obj} {N : V → Prop} (h1 : H p = some (.frz od (.dK kvs))) (h2 : valV kvs (Ke n) = some v) (h : N v) : ∃ a v, V.ref p = .ref a ∧ DGet H a (.int n) (some v) ∧ N v := ⟨p, v, rfl, h2 ▸ .inl ⟨kvs, Ke n, .inr ⟨od, h1⟩, rfl, rfl⟩, h⟩
/-- locked, walked, unlocked: nothing old has changed -/
theorem lock_same {d : Addr} {od : Obj} {u : HO} {H G : Hp} (h : H d = some u) (s : Same (upd H d (.frz od u)) G) : Same H (upd G d u) := fun b o e => by
  by_cases c : b = d
  · subst c
    rw [upd_same, ← h, e]
  · rw [upd_ne c]
    exact s _ _ (by rw [upd_ne c]; exact e)
end Ct
end
section
set_option Elab.async false
set_option linter.all false
set_option maxRecDepth 100000
/-! for over range(i, j); a comprehension over range(j); slices. -/
namespace Ct
open PySem L2
variable {K : PySem.W.Frag} {H H1 H2 H3 : Hp} {σ : L2.St} {Q : VK} {D : Ends} {p q : Addr} {o u : HO} {v x y : V}
def Rg2Go (vs : List V) (g : TG) (tb : TS) (D : Ends) (σ : L2.St) (H : Hp) : Prop := ∃ i j : Int, vs = [.int i, .int j] ∧ (-(2 ^ 62) ≤ i ∧ i < 2 ^ 62 ∧ -(2 ^ 62) ≤ j ∧ j < 2 ^ 62) ∧ ∃ W : Nat → Nat → L2.St → Hp → Prop, (∃ m, W 0 m σ H) ∧ ∀ n m σ H, W n m σ H →
  ((Itr i (j - i).toNat).stop n H ∧ D.nx σ H) ∨ ((Itr i (j - i).toNat).go n H ∧ ∃ N : L2.St → Hp → Prop, (∀ σ' H', N σ' H' → ∃ m', m' < m ∧ W (n + 1) m' σ' H') ∧ ∀ x H', (Itr i (j - i).toNat).yld n H x H' → g x σ H' fun σ2 H2 => tb { D with nx := N, ct := N, bk := D.nx } σ2 H2)
theorem r_foR2 {ta : TA} {g : TG} {tb : TS} (h : ta σ H fun vs H1 => Rg2Go vs g tb D σ H1) : tFor (iRng2 ta) g tb D σ H := h
theorem foR2 {i j : Int} {g : TG} {tb : TS} (hj : -(2 ^ 62) ≤ i ∧ i < 2 ^ 62 ∧ -(2 ^ 62) ≤ j ∧ j < 2 ^ 62) (Pv : Nat → L2.St → Hp → Prop) (h0 : Pv 0 σ H)
    (hs : ∀ n σ H, n < (j - i).toNat → Pv n σ H → g (.int (i + n)) σ H fun σ2 H2 => tb { D with nx := Pv (n + 1), ct := Pv (n + 1), bk := D.nx } σ2 H2) (hd : ∀ σ H, Pv (j - i).toNat σ H → D.nx σ H) : Rg2Go [.int i, .int j] g tb D σ H :=
  ⟨i, j, rfl, hj, for_range (lo := i) (n := (j - i).toNat) Pv h0 hs hd⟩
def LcRg (g : TG) (tt : TT) (te : TE) (ws : List Nat) (σ : L2.St) (Q : VK) (vs : List V) (H1 : Hp) : Prop := ∃ j : Int, vs = [.int j] ∧ -(2 ^ 62) ≤ j ∧ j < 2 ^ 62 ∧ LcR g tt te ws σ Q (Itr 0 j.toNat) H1
theorem r_lcR {ta : TA} {g : TG} {tt : TT} {te : TE} {ws : List Nat} (h : ta σ H fun vs H1 => LcRg g tt te ws σ Q vs H1) : tLc (iRng1 ta) g tt te ws σ H Q := h
theorem lcR {j : Int} {g : TG} {tt : TT} {te : TE} {ws : List Nat} (hj : -(2 ^ 62) ≤ j ∧ j < 2 ^ 62) (I : Nat → List V → Hp → Prop) (h0 : ∀ G, Same H G → I 0 [] G)
    (hs : ∀ (i : Nat) G D, i < j.toNat → PvL H D I i G → g (.int i) (wipe σ ws) G fun σ2 H2 => wipe σ2 ws = wipe σ ws ∧ tt σ2 H2 fun b H3 =>
      if b = true then te σ2 H3 fun y H4 => ∃ acc, H4 D = some (.lst acc) ∧ acc.length < sizeLine ∧ PvL H D I (i + 1) (upd H4 D (.lst (acc ++ [y]))) else PvL H D I (i + 1) H3)
    (he : ∀ acc G D, Same H G → H D = none → G D = some (.lst acc) → acc.length ≤ j.toNat → I j.toNat acc G → Q (.ref D) G) : LcRg g tt te ws σ Q [.int j] H := by
  refine ⟨j, rfl, hj.1, hj.2, fun D hD => ?_⟩
  refine lc_range (lo := 0) (n := j.toNat) (Qd := fun G => Q (.ref D) G) (fun i G => PvL H D I i G) ?_ (fun i G hi p => ?_) (fun G ⟨acc, h1, h2, h3, _, h5⟩ => he acc G D h3 hD h1 h2 h5)
  · have s := same_upd (o := .lst []) hD rfl
    exact ⟨[], upd_same, Nat.zero_le _, s, hD, h0 _ s⟩
  · rw [Int.zero_add]
    exact hs i G D hi p
end Ct
end
section
set_option Elab.async false
set_option linter.all false
set_option maxRecDepth 100000
set_option maxHeartbeats 4000000
/-! xs[::2] -/
namespace Ct
open PySem PySem.Spec PyProof.Rows L2
/-- every second item, from the first on -/
def evens {α : Type} : List α → List α
  | [] => []
  | [x] => [x]
  | x :: _ :: r => x :: evens r
theorem evens_len {α : Type} : ∀ xs : List α, (evens xs).length = (xs.length + 1) / 2
  | [] => by simp [evens]
  | [_] => by simp [evens]
  | x :: y :: r => by
    show (evens r).length + 1 = (r.length + 2 + 1) / 2
    rw [evens_len r]
    omega
theorem evens_pick {α : Type} : ∀ xs : List α, ((List.range ((xs.length + 1) / 2)).filterMap fun k => xs[2 * k]?) = evens xs
  | [] => by simp [evens]
  | [x] => by simp [evens, List.range_succ]
  | x :: y :: r => by
    have e : ((x :: y :: r).length + 1) / 2 = (r.length + 1) / 2 + 1 := by
      show (r.length + 2 + 1) / 2 = _
      omega
    rw [e, List.range_succ_eq_map, List.filterMap_cons]
    show x :: List.filterMap _ ((List.range ((r.length + 1) / 2)).map Nat.succ) = x :: evens r
    rw [List.filterMap_map, ← evens_pick r]
    congr 1
theorem Vals.evens : ∀ {vs : List V} {us : List Value}, Vals vs us → Vals (Ct.evens vs) (Ct.evens us)
  | _, _, .nil => .nil
  | _, _, .cons h .nil => .cons h .nil
  | _, _, .cons h (.cons _ t) => .cons h (Vals.evens t)
theorem pick2 (items : Array Value) : slicePick items none none (some 2) = (evens items.toList).toArray := by
  unfold slicePick
  have hb : sliceBounds none none (some 2) items.size = (0, (items.size : Int), 2) := by
    first
    | rfl
    | simp [sliceBounds]
  rw [hb]
  show ((sliceRange 0 (items.size : Int) 2).filterMap (items[·]?)).toArray = _
  congr 1
  unfold sliceRange
  rw [← evens_pick items.toList, List.filterMap_map, Array.length_toList]
  have hc : (if (2 : Int) > 0 then (if (0 : Int) < (items.size : Int) then ((items.size : Int) - 0 + 2 - 1) / 2 else 0) else (if (0 : Int) > (items.size : Int) then (0 - (items.size : Int) - 2 - 1) / (-2) else 0)).toNat = (items.size + 1) / 2 := by
    rw [if_pos (by decide)]
    split <;> omega
  simp only [hc]
  refine congrArg (fun f => List.filterMap f _) (funext fun k => ?_)
  show items[(0 + 2 * (k : Int)).toNat]? = items.toList[2 * k]?
  have hk : (0 + 2 * (k : Int)).toNat = 2 * k := by omega
  rw [hk, Array.getElem?_toList]
def tEv2 (K : PySem.W.Frag) (te : TE) : TE := fun σ H Q => te σ H fun x H1 => ∃ a xs, x = .ref a ∧ SqL K H1 a xs ∧ ∀ p, H1 p = none → Q (.ref p) (upd H1 p (.lst (evens xs)))
section
variable {X : Cx}
theorem pe_ev2 {e : Expr} {te : TE} {k p1 p3 pos} (he : PE X e te) : PE X (.Subscript e (.Slice none none (some (.Constant (.int 2) k p1)) p3) pos) (tEv2 X.K te) := by
  refine ⟨fun pins s σ H Q I h => ?_⟩
  refine Subscript_ (thn (he.run pins s σ H _ I h) fun v s1 ⟨x, H1, I1, r1, q1⟩ => ?_)
  obtain ⟨a, xs, ex, hx, q⟩ := q1
  subst ex
  cases r1
  have hst : PO X (some (.Constant (.int 2) k p1)) (tPart (tC (.int 2))) := po_some pe_int
  refine wpAny_Slice (thn (po_none.run pins s1 σ H1 (fun o H2 => o = none ∧ H2 = H1) I1 ⟨rfl, rfl⟩) fun vl s2 ⟨l, H2, I2, pl, el, e2⟩ => ?_)
  subst el e2
  refine thn (po_none.run pins s2 σ H2 (fun o H3 => o = none ∧ H3 = H2) I2 ⟨rfl, rfl⟩) fun vu s3 ⟨u, H3, I3, pu, eu, e3⟩ => ?_
  subst eu e3
  refine thn (hst.run pins s3 σ H3 (fun o H4 => o = some 2 ∧ H4 = H3) I3 ⟨2, rfl, rfl, rfl⟩) fun vs s4 ⟨o, H4, I4, ps, eo, e4⟩ => ?_
  subst eo e4
  have I5 : Inv X pins σ H4 { s4 with heap := s4.heap.push { cls := .type "slice", data := .fields #[vl, vu, vs] } } := I4.kept (t' := s4.toks) fun b ob q => Heap.get?_push_of_some _ q
  obtain ⟨its, r, ht, hz⟩ := I5.list hx
  have hlen := r.length
  show wpAny (model X.prog X.w) X.A (subscriptTail e (.Slice none none (some (.Constant (.int 2) k p1)) p3) (.ref a) (.ref s4.heap.objs.size)) (EP X pins σ Q) X.xe { s4 with heap := s4.heap.push { cls := .type "slice", data := .fields #[vl, vu, vs] } }
  refine tail_any (ops := [.ref a, .ref s4.heap.objs.size]) ht.isList.typeIs (PySem.slot_list_getitem.lookup) ?_ (by with_unfolding_all rfl)
  refine wpAny_getItem_list_slice ht.isList (Heap.IsSliceOf.new _ vl vu vs) pl pu ps (by decide) ?_ (by rw [List.size_toArray]; omega)
  rw [pick2]
  refine ⟨.ref _, _, I5.laid (t' := s4.toks) (o := .lst (evens xs)) (fun b ob q => Heap.get?_push_of_some _ q) (Nat.le_refl _) ?_, rfl, q _ (I5.hok.fresh (Nat.le_refl _))⟩
  exact ⟨by rw [evens_len]; have := hz; omega, _, 0, Vals.evens r, Heap.get?_push_size _ rfl⟩
end
end Ct
end
section
set_option Elab.async false
set_option linter.all false
set_option maxRecDepth 100000
/-! Rounds of an order; comprehensions over range(i, j, c); lists of lists of pairs. -/
namespace Ct
open PySem L2
/-- neighbours as pairs -/
def pairsOf : List Int → List P2
  | x :: y :: r => (x, y) :: pairsOf r
  | _ => []
def rds : Nat → List Int → List (List P2)
  | 0, _ => []
  | n + 1, l => pset (pairsOf l) :: rds n (evens l)
theorem pairsOf_fst : ∀ {l : List Int}, ∀ p ∈ pairsOf l, p.1 ∈ l ∧ p.2 ∈ l
  | [], p, h => by simp [pairsOf] at h
  | [x], p, h => by simp [pairsOf] at h
  | x :: y :: r, p, h => by
    rcases List.mem_cons.mp h with z | z
    · rw [z]; exact ⟨by simp, by simp⟩
    · have := pairsOf_fst (l := r) p z
      exact ⟨by simp [this.1], by simp [this.2]⟩
theorem pairsOf_nodup : ∀ {l : List Int}, l.Nodup → (pairsOf l).Nodup
  | [], _ => List.nodup_nil
  | [x], _ => List.nodup_nil
  | x :: y :: r, h => by
    obtain ⟨h1, h2⟩ := List.nodup_cons.mp h
    obtain ⟨h3, h4⟩ := List.nodup_cons.mp h2
    refine List.nodup_cons.mpr ⟨fun z => h1 ?_, pairsOf_nodup h4⟩
    exact List.mem_cons_of_mem _ (pairsOf_fst _ z).1
theorem evens_sub {α : Type} : ∀ l : List α, (evens l).Sublist l
  | [] => by simp [evens]
  | [x] => by simp [evens]
  | x :: y :: r => by
    show (x :: evens r).Sublist (x :: y :: r)
    exact ((evens_sub r).cons y).cons₂ x
theorem evens_map {α β : Type} (f : α → β) : ∀ l : List α, evens (l.map f) = (evens l).map f
  | [] => by simp [evens]
  | [x] => by simp [evens]
  | x :: y :: r => by
    show f x :: evens (r.map f) = f x :: (evens r).map f
    rw [evens_map f r]
theorem pairsOf_len : ∀ {l : List Int} {n : Nat}, l.length = 2 * n → (pairsOf l).length = n
  | [], n, h => by
    have h' : 0 = 2 * n := h
    show 0 = n
    omega
  | [x], n, h => by
    have h' : 1 = 2 * n := h
    omega
  | x :: y :: r, n, h => by
    have h' : r.length + 2 = 2 * n := h
    show (pairsOf r).length + 1 = n
    have := pairsOf_len (l := r) (n := n - 1) (by omega)
    omega
theorem pairsOf_at : ∀ {l : List Int} {i : Nat} {x y : Int}, l[2 * i]? = some x → l[2 * i + 1]? = some y → (pairsOf l)[i]? = some (x, y)
  | [], i, x, y, h, _ => by simp at h
  | [a], i, x, y, h, h' => by simp at h'
  | a :: b :: r, 0, x, y, h, h' => by
    cases h
    cases h'
    rfl
  | a :: b :: r, i + 1, x, y, h, h' => by
    show (pairsOf r)[i]? = some (x, y)
    exact pairsOf_at (l := r) h h'
/-- a list of lists of pairs -/
def IsL (H : Hp) (v : V) (ps : List P2) : Prop := ∃ a, v = .ref a ∧ PL H a ps
def RL (H : Hp) (l : Addr) (pss : List (List P2)) : Prop := ∃ vs, H l = some (.lst vs) ∧ Paired (IsL H) vs pss
theorem IsL.ext {H H' : Hp} {v : V} {ps : List P2} (h : IsL H v ps) (e : Same H H') : IsL H' v ps := let ⟨a, x, y⟩ := h; ⟨a, x, y.ext e⟩
theorem isLs_ext {H H' : Hp} {vs : List V} {pss : List (List P2)} (h : Paired (IsL H) vs pss) (e : Same H H') : Paired (IsL H') vs pss := L2.Paired.mapP h fun _ _ q => q.ext e
theorem RL.ext {H H' : Hp} {l : Addr} {pss : List (List P2)} (h : RL H l pss) (e : Same H H') : RL H' l pss := let ⟨vs, x, y⟩ := h; ⟨vs, e _ _ x, isLs_ext y e⟩
theorem isLs_app {H : Hp} : ∀ {vs ws : List V} {ps qs : List (List P2)}, Paired (IsL H) vs ps → Paired (IsL H) ws qs → Paired (IsL H) (vs ++ ws) (ps ++ qs)
  | _, _, _, _, .nil, h => h
  | _, _, _, _, .cons a b, h => .cons a (isLs_app b h)
def LcC (g : TG) (tt : TT) (te : TE) (ws : List Nat) (σ : L2.St) (Q : VK) (vs : List V) (H1 : Hp) : Prop := ∃ (i j c : Int) (n : Nat), vs = [.int i, .int j, .int c] ∧ RgC i j c n ∧ LcR g tt te ws σ Q (Itc i c n) H1
theorem r_lcC {ta : TA} {g : TG} {tt : TT} {te : TE} {ws : List Nat} {σ : L2.St} {H : Hp} {Q : VK} (h : ta σ H fun vs H1 => LcC g tt te ws σ Q vs H1) : tLc (iRng3 ta) g tt te ws σ H Q := h
theorem lcC {i j c : Int} {n : Nat} {g : TG} {tt : TT} {te : TE} {ws : List Nat} {σ : L2.St} {H : Hp} {Q : VK} (hr : RgC i j c n) (I : Nat → List V → Hp → Prop) (h0 : ∀ G, Same H G → I 0 [] G)
    (hs : ∀ (k : Nat) G D, k < n → PvL H D I k G → g (.int (i + k * c)) (wipe σ ws) G fun σ2 H2 => wipe σ2 ws = wipe σ ws ∧ tt σ2 H2 fun b H3 =>
      if b = true then te σ2 H3 fun y H4 => ∃ acc, H4 D = some (.lst acc) ∧ acc.length < sizeLine ∧ PvL H D I (k + 1) (upd H4 D (.lst (acc ++ [y]))) else PvL H D I (k + 1) H3)
    (he : ∀ acc G D, Same H G → H D = none → G D = some (.lst acc) → acc.length ≤ n → I n acc G → Q (.ref D) G) : LcC g tt te ws σ Q [.int i, .int j, .int c] H := by
  refine ⟨i, j, c, n, rfl, hr, fun D hD => ?_⟩
  refine lc_it walk_rangeC (Qd := fun G => Q (.ref D) G) (fun k G => PvL H D I k G) ?_ (fun _ _ _ _ => trivial) (fun k x G G' hk p ⟨e, ex⟩ => ?_) (fun G ⟨acc, h1, h2, h3, _, h5⟩ => he acc G D h3 hD h1 h2 h5)
  · have s := same_upd (o := .lst []) hD rfl
    exact ⟨[], upd_same, Nat.zero_le _, s, hD, h0 _ s⟩
  · subst e
    subst ex
    exact hs k G' D hk p
theorem rg2 {m : Nat} (h : m ≤ 5) : RgC 0 ((2 ^ (m + 1) : Nat) : Int) 2 (2 ^ m) := by
  have hm : m = 0 ∨ m = 1 ∨ m = 2 ∨ m = 3 ∨ m = 4 ∨ m = 5 := by omega
  rcases hm with rfl | rfl | rfl | rfl | rfl | rfl <;> exact ⟨by decide, by decide, by decide, by decide⟩
/-- a while by a measure -/
theorem r_while {c : TT} {tb : TS} {D : Ends} {σ : L2.St} {H : Hp} (W : Nat → L2.St → Hp → Prop) (m : Nat) (h0 : W m σ H)
    (hs : ∀ m σ H, W m σ H → c σ H fun b H1 => if b = true then ∃ N : L2.St → Hp → Prop, (∀ σ' H', N σ' H' → ∃ m', m' < m ∧ W m' σ' H') ∧ tb { D with nx := N, ct := N, bk := D.nx } σ H1 else D.nx σ H1) : tWhile c tb D σ H := ⟨W, ⟨m, h0⟩, hs⟩
end Ct
end
section
set_option Elab.async false
set_option linter.all false
set_option maxRecDepth 100000
set_option maxHeartbeats 4000000
/-! Operators of own classes: ==, +, len, whatever they answer. -/
namespace Ct
open PySem PySem.Spec PyProof.Rows L2
def pick {α : Type} (ix : List Nat) (xs : List α) : List α := ix.filterMap (xs[·]?)
theorem Vals.pick : ∀ (ix : List Nat) {vs : List V} {us : List Value}, Vals vs us → Vals (Ct.pick ix vs) (Ct.pick ix us)
  | [], _, _, _ => .nil
  | i :: ix, vs, us, r => by
    have ih := Vals.pick ix r
    unfold Ct.pick at *
    cases e : vs[i]? with
    | none => rw [List.filterMap_cons_none e, List.filterMap_cons_none (r.none_of e)]; exact ih
    | some v =>
      obtain ⟨u, eu, ru⟩ := r.get e
      rw [List.filterMap_cons_some e, List.filterMap_cons_some eu]
      exact .cons ru ih
structure Isi (K : PySem.W.Frag) (C : Addr) : Prop where
  ha : PySem.W.findIn K (.ref C) "__class__" = some (some (.builtin "object.__class__"))
  hn : PySem.W.specialIn K (.builtin "object.__class__") "__get__" = some (some (.builtin "getset_descriptor.__get__"))
  htk : PySem.W.takesIn K (.builtin "object.__class__") = some true
  hm : PySem.W.mroIn K C (.type "object") = some true
theorem Isi.ty {K : PySem.W.Frag} {H : Hp} {a C dx : Addr} {fs : List (Str × V)} (h : Isi K C) (cl : Cls K C) (e : H a = some (.ins C dx fs)) : TyX K H (.ref a) (.ref C) := .base (.ins e cl h.ha h.hn h.htk h.hm)
theorem Isi.kit {K : PySem.W.Frag} (C : Addr) : PySem.W.kitOne K (.ref C) (.ref C) = some true := by
  unfold PySem.W.kitOne
  rw [if_pos (by simp)]
section
variable {X : Cx} {n : Nat} {f C : Addr} {fd : FuncData} {ps : List Str} {sp : Sp}
theorem own_run {A : Around} {pins : List (Addr × Obj)} {σ : L2.St} {H : Hp} {s : Shared} {vs : List V} {us : List Value} {Q : VK} (F : FnOk X.prog X.w X.K X.mg X.base CX0 n f fd ps sp) (hb : Binds X.K fd ps []) (hr : Room n A) (hfr : A.frames = X.A.frames)
    (I : Inv X pins σ H s) (r : Vals vs us) (h : sp vs H Q E0) : wpAny (model X.prog X.w) A (call (.ref f) us) (EP X pins σ Q) X.xe s := by
  have e0 : Env0 X.prog X.w X.K X.mg X.base A X.stack s H := by
    have e := I.env0
    exact ⟨by rw [hfr]; exact e.frames, e.mod, e.bs, e.bsz, e.funs, e.frf, e.hok, e.bare⟩
  have hl := F.len _ _ _ _ h
  refine wpAny_call (codeAny_mono (F.run A X.stack s H ⟨us, []⟩ us vs _ E0 hr e0 (by
    have := hb s us I.kIn (by rw [List.append_nil, ← r.length]; exact hl)
    simpa using this) r h) fun r s' hq => ?_)
  cases r with
  | error e => exact False.elim hq
  | ok fl =>
    cases fl with
    | ret w => exact I.after hq
    | next => exact False.elim hq
    | brk => exact False.elim hq
    | cont => exact False.elim hq
/-- x == y of two instances of one class with an own == -/
def rEqO (C : Addr) (sp : Sp) : R2 := fun x y H Q => ∃ a b dx dy fs gs, x = .ref a ∧ y = .ref b ∧ H a = some (.ins C dx fs) ∧ H b = some (.ins C dy gs) ∧ sp [.ref a, .ref b] H (fun v H' => ∃ k, v = .bl k ∧ Q (.bl k) H') E0
theorem op_eqO (F : FnOk X.prog X.w X.K X.mg X.base CX0 n f fd ps sp) (me : Meth X.K C "__eq__" f) (hb : Binds X.K fd ps []) (hr : Room n X.A) : OpR X (compareOp .Eq) (rEqO C sp) := by
  intro pins s σ H x y v u Q I rx ry hq
  obtain ⟨a, b, dx, dy, fs, gs, rfl, rfl, ha, hb', h⟩ := hq
  cases rx
  cases ry
  obtain ⟨mA, J, _⟩ := ins_get I.hok ha
  obtain ⟨mB, J', _⟩ := ins_get I.hok hb'
  obtain ⟨od, J, _⟩ := J.look
  obtain ⟨od', J', _⟩ := J'.look
  obtain ⟨m, hF⟩ := I.fr
  show wpAny (model X.prog X.w) X.A (richCompare .Eq (.ref a) (.ref b)) (EP X pins σ Q) X.xe s
  refine PySem.W.cmp_K (op := .Eq) (tb := .ref C) hr.units0 hF I.ok.mod.kin J J'.type (by simp [PySem.W.notFirst]) me.at_ me.fn ?_
  refine thn (own_run (vs := [V.ref a, V.ref b]) F hb hr rfl I (.cons rfl (.cons rfl .nil)) h) fun w s' ⟨z, H', I', rz, k, ez, q⟩ => ?_
  subst ez
  cases rz
  exact ⟨.bl k, H', I', rfl, q⟩
/-- x + y of two instances of one class with an own + that gives an object -/
def rAddO (C : Addr) (sp : Sp) : R2 := fun x y H Q => ∃ a b dx dy fs gs, x = .ref a ∧ y = .ref b ∧ H a = some (.ins C dx fs) ∧ H b = some (.ins C dy gs) ∧ sp [.ref a, .ref b] H (fun v H' => ∃ k, v = .ref k ∧ Q (.ref k) H') E0
theorem op_addO (F : FnOk X.prog X.w X.K X.mg X.base CX0 n f fd ps sp) (me : Meth X.K C "__add__" f) (sf : PySem.W.selfFirst X.K C = true) (hb : Binds X.K fd ps []) (hr : Room n X.A) : OpR X (binaryOp .Add) (rAddO C sp) := by
  intro pins s σ H x y v u Q I rx ry hq
  obtain ⟨a, b, dx, dy, fs, gs, rfl, rfl, ha, hb', h⟩ := hq
  cases rx
  cases ry
  obtain ⟨mA, J, _⟩ := ins_get I.hok ha
  obtain ⟨mB, J', _⟩ := ins_get I.hok hb'
  obtain ⟨od, J, _⟩ := J.look
  obtain ⟨od', J', _⟩ := J'.look
  obtain ⟨m, hF⟩ := I.fr
  refine PySem.W.binop_K hF I.ok.mod.kin J J'.type sf me.at_ me.fn ?_
  refine thn (own_run (vs := [V.ref a, V.ref b]) F hb hr rfl I (.cons rfl (.cons rfl .nil)) h) fun w s' ⟨z, H', I', rz, k, ez, q⟩ => ?_
  subst ez
  cases rz
  exact ⟨.ref k, H', I', rfl, q⟩
/-- len(x), x an instance with an own __len__ -/
def rLenO (C : Addr) (sp : Sp) : List V → Hp → VK → Prop := fun vs H Q => ∃ a dx fs, vs = [.ref a] ∧ H a = some (.ins C dx fs) ∧ sp [.ref a] H (fun v H' => ∃ k : Int, v = .int k ∧ 0 ≤ k ∧ k < 2 ^ 62 ∧ Q (.int k) H') E0
theorem call_lenO (F : FnOk X.prog X.w X.K X.mg X.base CX0 n f fd ps sp) (me : Meth X.K C "__len__" f) (hb : Binds X.K fd ps []) (hr : Room (n + 1) X.A) : CallR X (.builtin "len") (rLenO C sp) := by
  intro pins s σ H vs us Q I r hq
  obtain ⟨a, dx, fs, rfl, ha, h⟩ := hq
  rw [Vals.ref1 r]
  obtain ⟨mA, J, _⟩ := ins_get I.hok ha
  obtain ⟨od, J, _⟩ := J.look
  obtain ⟨m, hF⟩ := I.fr
  refine PySem.W.len_K hF I.ok.mod.kin J me.at_ me.fn ?_
  refine thn (own_run (vs := [V.ref a]) F hb hr.in1 rfl I (.cons rfl .nil) h) fun w s' ⟨z, H', I', rz, k, ez, k0, k1, q⟩ => ?_
  subst ez
  obtain ⟨t, rfl⟩ := rz
  exact ⟨⟨k0, by omega⟩, .int k, H', I'.tok _, ⟨_, rfl⟩, q⟩
end
end Ct
end
section
set_option Elab.async false
set_option linter.all false
set_option maxRecDepth 100000
set_option maxHeartbeats 4000000
/-! o.m(k = v, ..) of an own class, by name alone. -/
namespace Ct
open PySem PySem.Spec PyProof.Rows L2
def tMethK (C : Addr) (m : Str) (n : Nat) (sp : Sp) (gV : List V → List V → List V) (E : XK) (ta : TE) (tk : TA) : TE := fun σ H Q => ta σ H fun x H1 => ∃ a dx fs, x = .ref a ∧ H1 a = some (.ins C dx fs) ∧ fs.lookup m = none ∧
  tk σ H1 fun zs H2 => zs.length = n ∧ sp (gV [x] zs) H2 Q E
section
variable {X : Cx} {CX : CXT} {k : Nat} {f C : Addr} {fd : FuncData} {ps ks : List Str} {sp : Sp} {E : XK} {m : Str} {apos pos : Pos} {o : Expr} {kws : List Keyword} {ta : TE} {tk : TA} {g : List Value → List Value → List Value} {gV : List V → List V → List V}
theorem run_fnN {pins : List (Addr × Obj)} {σ : L2.St} {H : Hp} {s : Shared} {Q : VK} {us ws : List Value} {vs zs : List V} (F : FnOk X.prog X.w X.K X.mg X.base CX k f fd ps sp) (hr : Room k X.A) (hb : KBn X.K fd ps 1 ks g gV) (hx : Passes CX X E)
    (I : Inv X pins σ H s) (r : Vals vs us) (rz : Vals zs ws) (l1 : us.length = 1) (l2 : zs.length = ks.length) (h : sp (gV vs zs) H Q E) : wpAny (model X.prog X.w) X.A (call (.ref f) us (ks.zip ws)) (EP X pins σ Q) X.xe s := by
  have r2 := hb.rel r rz
  refine wpAny_call (codeAny_mono (F.run X.A X.stack s H ⟨us, ks.zip ws⟩ (g us ws) (gV vs zs) Q E hr I.env0 (hb.to s us ws I.kIn l1 (rz.length.symm.trans l2)) r2 h) fun r s' hq => ?_)
  cases r with
  | error e => exact hx pins σ H s e s' I hq
  | ok fl =>
    cases fl with
    | ret u => exact I.after hq
    | next => exact False.elim hq
    | brk => exact False.elim hq
    | cont => exact False.elim hq
theorem pe_methK0 {pl : Sem Bool} (he : PE X o ta) (c : Cls X.K C) (hm : Meth X.K C m f) (F : FnOk X.prog X.w X.K X.mg X.base CX k f fd ps sp) (hr : Room k X.A) (hb : KBn X.K fd ps 1 ks g gV) (hx : Passes CX X E) (hkw : PK X kws tk)
    (hall : (backToKw pos (keywordEach kws X.env)).all (·.1.isSome) = true := by rfl) (hks : (backToKw pos (keywordEach kws X.env)).filterMap (·.1) = ks := by rfl)
    (hpl : ((backTo pos (starEach [] X.env)).any (·.1) || (backToKw pos (keywordEach kws X.env)).any (·.1.isNone)) = false := by rfl)
    (ht : eval (.Call (.Attribute o m apos) [] kws pos) X.env = (do
      let ov ← eval o X.env
      standAt apos.atName
      let (f, first) ← holding [ov] (getMethod ov m pl)
      callWith pos f first (backTo pos (starEach [] X.env)) (backToKw pos (keywordEach kws X.env))) := by rfl) :
    PE X (.Call (.Attribute o m apos) [] kws pos) (tMethK C m ks.length sp gV E ta tk) := by
  refine ⟨fun pins s σ H Q I h => ?_⟩
  refine PySem.W.methodCall_KW (pl := pl) (thn (he.run pins s σ H _ I h) fun u s1 ⟨x, H1, I1, rx, a, dx, fs, ex, ea, l, q⟩ => ?_) ht
  subst ex
  obtain rfl : u = Value.ref a := rx
  refine getmeth_ok I1 ea c hm l ?_
  refine PySem.W.callWith_KW0 (first := [.ref a]) (h₀ := X.base) I.ok.mod.kin hm.kp hall ?_ hpl
  refine thn (hkw.run pos pins s1 σ H1 _ I1 q) fun ws s2 ⟨zs, H2, I2, rz, l2, q2⟩ => ⟨I2.kIn, ?_⟩
  rw [hks]
  exact run_fnN (us := [.ref a]) (vs := [.ref a]) F hr hb hx I2 (.cons rfl .nil) rz rfl l2 q2
end
end Ct
end
section
set_option Elab.async false
set_option linter.all false
set_option maxRecDepth 100000
/-! sorted(d), d a dict whose keys are pairs of ints. -/
namespace Ct
open PySem PySem.Spec PyProof.Rows L2
variable {X : Cx}
def keyP (p : P2) : List Key := [.inl p.1, .inl p.2]
def rSortT : List V → Hp → VK → Prop := fun vs H Q => ∃ (a : Addr) (kvs : List (List Key × V)) (ps : List P2), vs = [.ref a] ∧ Rd H a (.dT kvs) ∧ kvs.map (·.1) = ps.map keyP ∧ ∀ p ys, H p = none → Prs H ys (psort ps) → Q (.ref p) (upd H p (.lst ys))
theorem prs_keys {H : Hp} : ∀ {kvs : List (List Key × V)} {bs : List Addr} {ps : List P2}, IsKeys H kvs bs → kvs.map (·.1) = ps.map keyP → Prs H (bs.map V.ref) ps
  | _, _, [], .nil, _ => .nil
  | _, _, p :: ps, .nil, e => by cases e
  | _, _, [], .cons h t, e => by cases e
  | kv :: kvs, b :: bs, p :: ps, .cons h t, e => by
    rw [List.map_cons, List.map_cons] at e
    obtain ⟨e1, e2⟩ := List.cons.inj e
    refine .cons ⟨b, rfl, ?_⟩ (prs_keys t e2)
    rw [h, e1]
    rfl
theorem cr_sortT (hu : X.A.units + 64 < cLine) (hc : X.calm = true) : CallR X (.builtin "sorted") rSortT := by
  intro pins s σ H xs us Q I r h
  obtain ⟨d, kvs, ps, rfl, hd, hks, q⟩ := h
  rw [Vals.ref1 r]
  obtain ⟨z, hs, ks, pr, o, es, ep, ho, hx, hdt, he, hn⟩ := (show ObjOk X.prog X.w H s.heap d (.dT kvs) from hd.ok I.hok)
  have l1 : es.size = ks.length := size_of_entries he
  have l2 : kvs.length = ks.length := Paired.length pr
  refine Calls.call_function_entry kind_sorted plain_sorted entry_sorted (args_sorted1 _) ?_
  unfold Builtin.«sorted»
  refine wpAny_bind (m := checkCount "sorted" 1 1 _) (wpAny_pure ?_)
  refine wpAny_bind (PySem.W.kdu_collect (A := X.A.in1) (kdl_raw hs hx hdt) (I.ok.hd hc) ho (by omega) fun h' tk acc hk hacc => ?_)
  have ea : acc.toList = ks.map fun x => Value.ref x.2.1 := by
    have hl : acc.toList.length = ks.length := by rw [Array.length_toList, hacc.1]; exact l1
    apply List.ext_getElem?
    intro j
    rw [List.getElem?_map]
    cases hj : acc.toList[j]? with
    | none =>
      have h1 := List.getElem?_eq_none_iff.mp hj
      rw [List.getElem?_eq_none (by omega)]
      all_goals rfl
    | some v =>
      obtain ⟨en, hen, hv⟩ := hacc.2 j v (by rw [← Array.getElem?_toList]; exact hj)
      have qe := entry_at he j
      rw [hen] at qe
      cases hb : ks[j]? with
      | none =>
        rw [hb] at qe
        exact nomatch (show some en = none from qe)
      | some b =>
        rw [hb] at qe
        have e2 : en = entryOfKey (tupleKind (mixKind X.prog X.w)) b := Option.some.inj qe
        rw [hv, e2]
        all_goals rfl
  have eb : acc.toList = (ks.map fun x => x.2.1).map Value.ref := by rw [ea, List.map_map]; all_goals rfl
  have rv : Vals ((ks.map fun x => x.2.1).map V.ref) acc.toList := by rw [eb]; exact vals_refs _
  have hp := prs_keys (isKeys_of pr) hks
  have I1 : Inv X pins σ H { s with heap := h', toks := tk } := I.kept hk
  exact sort_fin I1 hu rv (by rw [List.length_map, List.length_map]; omega) (fun x hx v r => reads_P I1 r (hp.all x hx)) (alikeP H _) (sortableP H _) (depthP H) fun p hn => q p _ hn (sortP_ok hp).2
end Ct
end
section
set_option Elab.async false
set_option linter.all false
set_option maxRecDepth 100000
/-! New instances, methods; for over enumerate(list); dicts with pairs as keys. -/
namespace Ct
open PySem PySem.Spec L2 StX
theorem made_same {H H' : Hp} {x dx : Addr} {o o' : HO} (hx : H x = none) (hd : H dx = none) (b : But x (upd (upd H dx o) x o') H') : Same H H' := fun c u e => by
  have n1 := ne_of_none e hx
  have n2 := ne_of_none e hd
  exact b _ _ n1 (by rw [upd_ne n1, upd_ne n2]; exact e)

theorem made_free {H : Hp} {x dx r : Addr} {o o' : HO} (hx : H x = none) (hd : H dx = none) (h : (upd (upd H dx o) x o') r = none) : H r = none := by
  cases e : H r with
  | none => rfl
  | some u =>
    rw [upd_ne (ne_of_none e hx), upd_ne (ne_of_none e hd), e] at h
    cases h
theorem made_up {H : Hp} {x dx : Addr} {o o' : HO} (hx : H x = none) (hd : H dx = none) : Same H (upd (upd H dx o) x o') := fun c u e => by
  rw [upd_ne (ne_of_none e hx), upd_ne (ne_of_none e hd)]
  exact e
theorem r_make {C : Addr} {sp : Sp} {dvs : List V} {E : XK} {t : TA} {σ : L2.St} {H : Hp} {Q : VK} (h : t σ H fun vs H1 => ∀ x dx, H1 x = none → H1 dx = none → dx ≠ x →
  sp (.ref x :: (vs ++ dvs)) (upd (upd H1 dx (.own x)) x (.ins C dx [])) (fun v H2 => v = .non ∧ Q (.ref x) H2) E) : tMake C sp dvs E t σ H Q := h
theorem r_makeK {C : Addr} {n m : Nat} {sp : Sp} {g : List V → List V → List V} {E : XK} {t tk : TA} {σ : L2.St} {H : Hp} {Q : VK} (h : t σ H fun vs H1 => tk σ H1 fun zs H2 => vs.length = n ∧ zs.length = m ∧ ∀ x dx, H2 x = none → H2 dx = none → dx ≠ x →
  sp (g (.ref x :: vs) zs) (upd (upd H2 dx (.own x)) x (.ins C dx [])) (fun v H3 => v = .non ∧ Q (.ref x) H3) E) : tMakeK C n m sp g E t tk σ H Q := h
theorem r_clear {p : Addr} {xs : List V} {H : Hp} {Q : VK} (h1 : H p = some (.lst xs)) (h : Hold (Q .non (upd H p (.lst [])))) : rClear (.ref p) [] H Q := ⟨p, xs, rfl, rfl, h1, h⟩
theorem r_meth {C : Addr} {m : Str} {sp : Sp} {dvs : List V} {E : XK} {ta : TE} {t : TA} {σ : L2.St} {H : Hp} {Q : VK} (h : ta σ H fun x H1 => ∃ a dx fs, x = .ref a ∧ H1 a = some (.ins C dx fs) ∧ fs.lookup m = none ∧ t σ H1 fun vs H2 => sp (x :: (vs ++ dvs)) H2 Q E) : tMeth C m sp dvs E ta t σ H Q := h
theorem r_methK {C : Addr} {m : Str} {n : Nat} {sp : Sp} {g : List V → List V → List V} {E : XK} {ta : TE} {t : TA} {σ : L2.St} {H : Hp} {Q : VK} (h : ta σ H fun x H1 => ∃ a dx fs, x = .ref a ∧ H1 a = some (.ins C dx fs) ∧ fs.lookup m = none ∧ t σ H1 fun zs H2 => zs.length = n ∧ sp (g [x] zs) H2 Q E) : tMethK C m n sp g E ta t σ H Q := h

/-- a pair as the target of a comprehension -/
theorem pg_tupK {X : Cx} {K : PySem.W.Frag} {es : List Expr} {k : Nat} {t : TGs} {n : Nat} {pos : Pos} (hK : X.K = K) (hc : X.calm = true) (h : PGs X es t)
    (hn : (assignEach es X.env).length = n := by rfl) (hst : (assignEach es X.env).findIdx? (·.1) = none := by rfl) : PG X (.Tuple es k pos) (gTup K n t) := hK ▸ pg_tup hc h hn hst
theorem pi_listK {X : Cx} {K : PySem.W.Frag} {tg e : Expr} {tl : TE} (hK : X.K = K) (he : PE X e tl) : PI X tg e (iList K tl) := hK ▸ pi_list he
theorem pi_tupK {X : Cx} {K : PySem.W.Frag} {tg e : Expr} {tl : TE} (hK : X.K = K) (he : PE X e tl) : PI X tg e (iTup K tl) := hK ▸ pi_tup he
theorem r_dnewT {σ : L2.St} {H : Hp} {Q : VK} (h : ∀ p, H p = none → Q (.ref p) (upd H p (.dT []))) : tDNewT σ H Q := h
theorem r_dget1 {td ty : TE} {σ : L2.St} {H : Hp} {Q : VK} (h : td σ H fun x H1 => ∃ a, x = .ref a ∧ IsD H1 a ∧ ty σ H1 fun y H2 => ∃ o, DGet H2 a y o ∧ Q (o.getD .non) H2) : tDGet1 td ty σ H Q := h
/-- a for over enumerate(list) -/
def EnGo (K : PySem.W.Frag) (vs : List V) (g : TG) (tb : TS) (D : Ends) (σ : L2.St) (H : Hp) : Prop := ∃ a xs, vs = [V.ref a] ∧ SqL K H a xs ∧ ∃ W : Nat → Nat → L2.St → Hp → Prop, (∃ m, W 0 m σ H) ∧ ∀ i m σ H, W i m σ H →
  ((Ite K a).stop i H ∧ D.nx σ H) ∨ ((Ite K a).go i H ∧ ∃ N : L2.St → Hp → Prop, (∀ σ' H', N σ' H' → ∃ m', m' < m ∧ W (i + 1) m' σ' H') ∧ ∀ x H', (Ite K a).yld i H x H' → g x σ H' fun σ2 H2 => tb { D with nx := N, ct := N, bk := D.nx } σ2 H2)
theorem r_foE {K : PySem.W.Frag} {ta : TA} {g : TG} {tb : TS} {D : Ends} {σ : L2.St} {H : Hp} (h : ta σ H fun vs H1 => EnGo K vs g tb D σ H1) : tFor (iEnum K ta) g tb D σ H := h
theorem foE {K : PySem.W.Frag} {g : TG} {tb : TS} {D : Ends} {σ : L2.St} {H : Hp} {a : Addr} {xs : List V} (hl : SqL K H a xs) (Pv : Nat → L2.St → Hp → Prop) (h0 : Pv 0 σ H) (hk : ∀ i σ H, i ≤ xs.length → Pv i σ H → SqL K H a xs)
    (hs : ∀ i x σ G T, i < xs.length → xs[i]? = some x → Pv i σ G → G T = none → g (.ref T) σ (upd G T (.tup [.int (i : Nat), x])) fun σ2 H2 => tb { D with nx := Pv (i + 1), ct := Pv (i + 1), bk := D.nx } σ2 H2) (hd : ∀ σ H, Pv xs.length σ H → D.nx σ H) : EnGo K [.ref a] g tb D σ H := by
  refine ⟨a, xs, rfl, hl, for_it walk_enum Pv h0 hk (fun i x σ G G' hi p y => ?_) hd⟩
  obtain ⟨T, u, v, rfl, n, rfl, e1, e2⟩ := y
  cases e1
  exact hs i v σ G T hi e2 p n
/-- a dict with pairs as keys is changed: what else stands -/
theorem isLs_dT {G G' : Hp} {d : Addr} {kvs : List (List Key × V)} (h : G d = some (.dT kvs)) (b : But d G G') : ∀ {vs : List V} {pss : List (List P2)}, Paired (IsL G) vs pss → Paired (IsL G') vs pss := fun p => L2.Paired.mapP p fun _ _ ⟨x, e, xs, hx, hp⟩ =>
  ⟨x, e, xs, b _ _ (ne_of hx h (by intro z; cases z)) hx, L2.Paired.mapP hp fun _ _ ⟨t, e2, ht⟩ => ⟨t, e2, b _ _ (ne_of ht h (by intro z; cases z)) ht⟩⟩
theorem RL.dT {G G' : Hp} {d r : Addr} {kvs : List (List Key × V)} {pss : List (List P2)} (h : G d = some (.dT kvs)) (b : But d G G') (p : RL G r pss) : RL G' r pss := let ⟨vs, h1, h2⟩ := p; ⟨vs, b _ _ (ne_of h1 h (by intro z; cases z)) h1, isLs_dT h b h2⟩
end Ct
end
section
set_option Elab.async false
set_option linter.all false
set_option maxRecDepth 100000
set_option maxHeartbeats 4000000
/-! C(..) by a local name that holds the class; C.m(k = v), m a classmethod, by name alone. -/
namespace Ct
open PySem PySem.Spec PyProof.Rows L2
def tMakeV (i : Nat) (C : Addr) (sp : Sp) (dvs : List V) (E : XK) (t : TA) : TE := fun σ H Q => σ[i]? = some (some (.ref C)) ∧ tMake C sp dvs E t σ H Q
theorem r_makeV {i : Nat} {C : Addr} {sp : Sp} {dvs : List V} {E : XK} {t : TA} {σ : L2.St} {H : Hp} {Q : VK} (h1 : σ[i]? = some (some (.ref C))) (h : tMake C sp dvs E t σ H Q) : tMakeV i C sp dvs E t σ H Q := ⟨h1, h⟩
def tCMethK (C : Addr) (n : Nat) (sp : Sp) (gV : List V → List V → List V) (E : XK) (ta : TE) (tk : TA) : TE := fun σ H Q => ta σ H fun x H1 => x = .ref C ∧ tk σ H1 fun zs H2 => zs.length = n ∧ sp (gV [.ref C] zs) H2 Q E
theorem r_cmethK {C : Addr} {n : Nat} {sp : Sp} {gV : List V → List V → List V} {E : XK} {ta : TE} {tk : TA} {σ : L2.St} {H : Hp} {Q : VK} (h : ta σ H fun x H1 => x = .ref C ∧ tk σ H1 fun zs H2 => zs.length = n ∧ sp (gV [.ref C] zs) H2 Q E) : tCMethK C n sp gV E ta tk σ H Q := h
theorem r_cmeth {C : Addr} {sp : Sp} {E : XK} {ta : TE} {t : TA} {σ : L2.St} {H : Hp} {Q : VK} (h : ta σ H fun x H1 => x = .ref C ∧ t σ H1 fun vs H2 => sp (.ref C :: vs) H2 Q E) : ClX.tCMeth C sp E ta t σ H Q := h
section
variable {X : Cx} {CX : CXT} {k i : Nat} {f C p g : Addr} {mc : Value} {fd : FuncData} {ps ks : List Str} {ds : List Value} {dvs : List V} {sp : Sp} {E : XK} {x m : Str} {px apos pos : Pos} {o e : Expr} {es : List Expr} {kws : List Keyword} {ta : TE} {t tk : TA} {gU : List Value → List Value → List Value} {gV : List V → List V → List V}
theorem pe_makeV (M : Mk X.K C f) (F : FnOk X.prog X.w X.K X.mg X.base CX k f fd ps sp) (hr : Room (k + 1) X.A) (hN : X.N[i]? = some x) (hv : Vis X.env.scope x) (hb : Binds X.K fd ps ds) (hd : Vals dvs ds) (hx : Passes CX X E) (ha : PA X (e :: es) t)
    (h1 : (x == ("__debug__" : Str)) = false := by decide) (h2 : (x == ("__classdict__" : Str)) = false := by decide)
    (he : starEach (e :: es) X.env = (false, eval e X.env) :: starEach es X.env := by rfl) (hpl : (backTo pos (starEach es X.env)).any (·.1) = false := by rfl) : PE X (.Call (.Name x px) (e :: es) [] pos) (tMakeV i C sp dvs E t) := by
  refine ⟨fun pins s σ H Q I h => ?_⟩
  have rd := (pe_var (pos := px) (i := i) hN hv h1 h2).run pins s σ H (fun v H1 => v = .ref C ∧ H1 = H) I ⟨.ref C, h.1, rfl, rfl⟩
  refine wpAny_Call_Name_kw (thn rd fun u s1 ⟨v, H1, I1, r1, ev, eH⟩ => ?_)
  subst ev
  subst eH
  cases r1
  refine PySem.W.callWith_K (h₀ := X.base) I.ok.mod.kin M.kp (thn (ha.run pos pins s1 σ H1 _ I1 h.2) fun us s2 ⟨vs, H2, I2, r, q⟩ => ⟨I2.kIn, ?_⟩) he hpl
  exact run_make M F hr hb hd hx I2 r q
theorem run_cmN {q : Addr} {pins : List (Addr × Obj)} {σ : L2.St} {H : Hp} {s : Shared} {Q : VK} {ws : List Value} {zs : List V} (F : FnOk X.prog X.w X.K X.mg X.base CX k g fd ps sp) (hr : Room k X.A) (hb : KBn X.K fd ps 1 ks gU gV) (hx : Passes CX X E)
    (I : Inv X ((q, PySem.W.methodObj (.ref g) (.ref C)) :: pins) σ H s) (rz : Vals zs ws) (l2 : zs.length = ks.length) (h : sp (gV [.ref C] zs) H Q E) : wpAny (model X.prog X.w) X.A (call (.ref q) [] (ks.zip ws)) (EP X pins σ Q) X.xe s := by
  have r1 : Vals [V.ref C] [Value.ref C] := .cons rfl .nil
  have z : wpAny (model X.prog X.w) X.A (call (.ref q) [] (ks.zip ws)) (EP X ((q, PySem.W.methodObj (.ref g) (.ref C)) :: pins) σ Q) X.xe s := by
    refine wpAny_call (PySem.W.method_call (ClX.pin_at I) ?_)
    refine codeAny_mono (F.run X.A X.stack s H ⟨[.ref C], ks.zip ws⟩ (gU [.ref C] ws) (gV [.ref C] zs) Q E hr I.env0 (hb.to s [.ref C] ws I.kIn rfl (rz.length.symm.trans l2)) (hb.rel r1 rz) h) fun r s' hq => ?_
    cases r with
    | error e => exact hx _ _ _ _ _ _ I hq
    | ok fl =>
      cases fl with
      | ret u => exact I.after hq
      | next => cases hq
      | brk => cases hq
      | cont => cases hq
  exact thn z fun _ _ y => ClX.unpinE y
theorem pe_cmethK {pl : Sem Bool} (he : PE X o ta) (r : ClX.CRead X.K C mc) (c : ClX.CMet X.K C mc m p g) (F : FnOk X.prog X.w X.K X.mg X.base CX k g fd ps sp) (hr : Room k X.A) (hb : KBn X.K fd ps 1 ks gU gV) (hx : Passes CX X E) (hkw : PK X kws tk)
    (hall : (backToKw pos (keywordEach kws X.env)).all (·.1.isSome) = true := by rfl) (hks : (backToKw pos (keywordEach kws X.env)).filterMap (·.1) = ks := by rfl)
    (hpl : ((backTo pos (starEach [] X.env)).any (·.1) || (backToKw pos (keywordEach kws X.env)).any (·.1.isNone)) = false := by rfl)
    (ht : eval (.Call (.Attribute o m apos) [] kws pos) X.env = (do
      let ov ← eval o X.env
      standAt apos.atName
      let (f, first) ← holding [ov] (getMethod ov m pl)
      callWith pos f first (backTo pos (starEach [] X.env)) (backToKw pos (keywordEach kws X.env))) := by rfl) :
    PE X (.Call (.Attribute o m apos) [] kws pos) (tCMethK C ks.length sp gV E ta tk) := by
  refine ⟨fun pins s σ H Q I h => ?_⟩
  refine PySem.W.methodCall_KW (pl := pl) (thn (he.run pins s σ H _ I h) fun u s1 ⟨x, H1, I1, rx, ex, q⟩ => ?_) ht
  subst ex
  obtain rfl : u = Value.ref C := rx
  refine ClX.getmethcm_ok I1 r c fun s2 I2 => ?_
  refine PySem.W.callWith_of hpl (PySem.W.keeps_M (self := .ref C) c.fi) (PyProof.Rows.evalArgs_kw2_nil hall ?_)
  refine thn (hkw.run pos _ s2 σ H1 _ I2 q) fun ws s3 ⟨zs, H2, I3, rz, l2, q2⟩ => ⟨⟨ClX.pin_at I3, I3.kIn⟩, ?_⟩
  rw [hks]
  exact run_cmN F hr hb hx I3 rz l2 q2
end
end Ct
end
section
set_option Elab.async false
set_option linter.all false
set_option maxRecDepth 100000
set_option maxHeartbeats 4000000
/-! max(rows, key=len): the first longest one. -/
namespace Ct
open PySem PySem.Spec PyProof.Rows L2
section
variable {prog : Program} {w : World} {A : Around} {E : Value → Shared → Prop} {s0 : Shared} {l I S : Addr} {vs : List Value} {kf : Nat → Nat}
/-- the i-th of the first j is the first longest -/
def Lon (kf : Nat → Nat) (i j : Nat) : Prop := i < j ∧ ∀ k, k < j → kf k ≤ kf i ∧ (k < i → kf k < kf i)
theorem Lon.keep {i j : Nat} (h : Lon kf i j) (c : ¬ (kf j : Int) > (kf i : Int)) : Lon kf i (j + 1) := ⟨Nat.lt_succ_of_lt h.1, fun k hk => by
  by_cases e : k = j
  · subst e
    exact ⟨by omega, fun z => by have := h.1; omega⟩
  · exact h.2 k (by omega)⟩
theorem Lon.new {i j : Nat} (h : Lon kf i j) (c : (kf j : Int) > (kf i : Int)) : Lon kf j (j + 1) := ⟨Nat.lt_succ_self _, fun k hk => by
  by_cases e : k = j
  · subst e
    exact ⟨Nat.le_refl _, fun z => by omega⟩
  · have := (h.2 k (by omega)).1
    exact ⟨by omega, fun _ => by omega⟩⟩
/-- what stands in h stands in h' -/
def Kp (h h' : Heap) : Prop := ∀ b o, h.get? b = some o → h'.get? b = some o
theorem Kp.list {h h' : Heap} {a : Addr} {its : Array Value} (k : Kp h h') (x : h.IsList a its) : h'.IsList a its := let ⟨o, e, r⟩ := x; ⟨o, k _ _ e, r⟩
/-- a turn takes the next one -/
theorem turn_in (hh : A.handled = none) (Il : l ≠ I) {h : Heap} {tk j : Nat} {Q : Option Value → Shared → Prop} (k0 : Kp s0.heap h) (Ln : s0.heap.get? I = none) (x : s0.heap.IsList l vs.toArray) (it : h.IsListIter I l j) (hj : j < vs.length)
    (q : ∀ v h' tk', vs[j]? = some v → Kp s0.heap h' → h'.IsListIter I l (j + 1) → (∀ b o, b ≠ I → h.get? b = some o → h'.get? b = some o) → Q (some v) { s0 with heap := h', toks := tk' }) :
    wpAny (model prog w) A (pyNext (.ref I)) Q E { s0 with heap := h, toks := tk } := by
  have W := Walks.list (prog := prog) (w := w) (A := A) hh I l Il vs.toArray
  refine W.item j { s0 with heap := h, toks := tk } Q E (by simpa using hj) ⟨it, k0.list x⟩ fun v h' tk' e st keep => ?_
  have keep' : ∀ b o, b ≠ I → h.get? b = some o → h'.get? b = some o := fun b o nb eb => keep b o (by simpa using nb) eb
  refine q v h' tk' (by simpa using e) (fun b o eb => keep' b o (fun z => ?_) (k0 b o eb)) st.1 keep'
  rw [z, Ln] at eb
  cases eb
theorem turn_out (hh : A.handled = none) (Il : l ≠ I) {h : Heap} {tk : Nat} {Q : Option Value → Shared → Prop} (k0 : Kp s0.heap h) (Ln : s0.heap.get? I = none) (x : s0.heap.IsList l vs.toArray) (it : h.IsListIter I l vs.length)
    (q : ∀ h' tk', Kp s0.heap h' → (∀ b o, b ≠ I → h.get? b = some o → h'.get? b = some o) → Q none { s0 with heap := h', toks := tk' }) :
    wpAny (model prog w) A (pyNext (.ref I)) Q E { s0 with heap := h, toks := tk } := by
  have W := Walks.list (prog := prog) (w := w) (A := A) hh I l Il vs.toArray
  refine W.done { s0 with heap := h, toks := tk } Q E ⟨by simpa using it, k0.list x⟩ fun h' tk' keep => ?_
  have keep' : ∀ b o, b ≠ I → h.get? b = some o → h'.get? b = some o := fun b o nb eb => keep b o (by simpa using nb) eb
  refine q h' tk' (fun b o eb => keep' b o (fun z => ?_) (k0 b o eb)) keep'
  rw [z, Ln] at eb
  cases eb
def Rows (h : Heap) (vs : List Value) (kf : Nat → Nat) : Prop := ∀ i v, vs[i]? = some v → ∃ (a : Addr) (its : Array Value), v = .ref a ∧ h.IsList a its ∧ its.size = kf i ∧ kf i < 2 ^ 62
theorem Kp.put {h h' : Heap} {b : Addr} {f : Obj → Obj} (k : Kp h h') (n : h.get? b = none) : Kp h (h'.update b f) := fun c o e => by
  have nc : b ≠ c := fun z => by
    rw [z, e] at n
    cases n
  rw [Heap.get?_update_ne _ _ _ _ (Ne.symm nc)]
  exact k c o e
theorem max_loop (hh : A.handled = none) (Il : l ≠ I) (SI : S ≠ I) (nI : s0.heap.get? I = none) (nS : s0.heap.get? S = none) (x : s0.heap.IsList l vs.toArray) (hv : Rows s0.heap vs kf) {R : Result → Shared → Prop}
    (fin : ∀ i v h' tk', vs[i]? = some v → Lon kf i vs.length → Kp s0.heap h' → R (.ok (.ret v)) { s0 with heap := h', toks := tk' }) :
    ∀ (r j i : Nat) (h : Heap) (tk : Nat) (v0 : Value) (t0 : Tok) (c : Nat), vs.length - j = r → j ≤ vs.length → Kp s0.heap h → h.get? S = some (seqObj "list" #[v0, .int (kf i) t0] c) → h.IsListIter I l j → vs[i]? = some v0 → Lon kf i j →
      codeAny (model prog w) A (.builtin "max.loop" ⟨[.ref I, .builtin "len", .ref S], []⟩) R { s0 with heap := h, toks := tk } := by
  have nm : (toString "max" ++ toString ".loop" : String) = "max.loop" := by decide
  intro r
  induction r with
  | zero =>
    intro j i h tk v0 t0 c er hj k0 eS it ev lon
    have ej : j = vs.length := by omega
    subst ej
    refine codeAny_builtin PySem.F.entry_max_loop ?_
    rw [Around.under_plainId PySem.F.plain_max_loop _]
    show wpAny _ _ (seqItems? (.ref S) >>= _) _ _ _
    refine wpAny_bind (wpAny_seqItems (o := seqObj "list" #[v0, .int (kf i) t0] c) eS rfl ?_)
    show wpAny _ _ (tryCatch (pyNext (.ref I)) _ >>= _) _ _ _
    refine wpAny_bind (wpAny_tryCatch (turn_out (A := A.in1) (s0 := s0) hh Il k0 nI x it fun h1 t1 k1 keep => ?_))
    have eS1 := keep S _ SI eS
    show wpAny _ _ (updateSeq S (fun _ => #[]) >>= _) _ _ _
    refine wpAny_bind (wpAny_updateSeq (o := seqObj "list" #[v0, .int (kf i) t0] c) eS1 rfl (wpAny_bind (wpAny_letGo (wpAny_pure ?_))))
    exact fin i v0 _ _ ev lon (k1.put nS)
  | succ r ih =>
    intro j i h tk v0 t0 c er hj k0 eS it ev lon
    have lt : j < vs.length := by omega
    refine codeAny_builtin PySem.F.entry_max_loop ?_
    rw [Around.under_plainId PySem.F.plain_max_loop _]
    show wpAny _ _ (seqItems? (.ref S) >>= _) _ _ _
    refine wpAny_bind (wpAny_seqItems (o := seqObj "list" #[v0, .int (kf i) t0] c) eS rfl ?_)
    show wpAny _ _ (tryCatch (pyNext (.ref I)) _ >>= _) _ _ _
    refine wpAny_bind (wpAny_tryCatch (turn_in (A := A.in1) (s0 := s0) hh Il k0 nI x it lt fun v h1 t1 e1 k1 it1 keep => ?_))
    have eS1 := keep S _ SI eS
    obtain ⟨a, its, rfl, la, sz, big⟩ := hv j v e1
    have la1 := k1.list la
    show wpAny _ _ (tryCatch (holding [.ref a] (call (.builtin "len") [.ref a])) _ >>= _) _ _ _
    refine wpAny_bind (wpAny_tryCatch (wpAny_holding (Calls.call_len_list (s := { s0 with heap := h1, toks := t1 }) la1 (by rw [sz]; exact Int.lt_of_lt_of_le (Int.ofNat_lt.mpr big) (by decide)) ?_)))
    rw [sz]
    show wpAny _ _ (tryCatch (holding [.ref a, .int (kf j) (t1 + 1)] (richCompare .Gt (.int (kf j) (t1 + 1)) (.int (kf i) t0) >>= _)) _ >>= _) _ _ _
    refine wpAny_bind (wpAny_tryCatch (wpAny_holding (wpAny_bind (CmpOf.ints_gt (P := fun i v => ∃ t, v = .int (kf i : Int) t) (fun i => (kf i : Int)) (fun i v z => z) j i _ _ _ _ _ ⟨t1 + 1, rfl⟩ ⟨t0, rfl⟩ ?_))))
    refine wpAny_bind (wpAny_holding (wpAny_truthy_bool ?_))
    refine wpAny_bind (wpAny_letGo (wpAny_pure ?_))
    by_cases gt : (kf j : Int) > (kf i : Int)
    · simp only [gt, decide_true, if_true]
      have new := get?_update_seq eS1 fun _ => #[Value.ref a, .int (kf j) (t1 + 1)]
      refine wpAny_bind (wpAny_updateSeq (o := seqObj "list" #[v0, .int (kf i) t0] c) eS1 rfl (wpAny_bind (wpAny_letGo ?_)))
      rw [nm]
      refine wpAny_pure ⟨plainId_quiet PySem.F.plain_max_loop _, ih (j + 1) j _ _ (.ref a) (t1 + 1) _ (by omega) lt (k1.put nS) new ?_ e1 (lon.new gt)⟩
      obtain ⟨oi, ei, ri⟩ := it1
      exact ⟨oi, (Heap.get?_update_ne _ _ _ _ (Ne.symm SI)).trans ei, ri⟩
    · simp only [gt, decide_false, Bool.false_eq_true, if_false]
      refine wpAny_bind (wpAny_letGo ?_)
      rw [nm]
      exact wpAny_pure ⟨plainId_quiet PySem.F.plain_max_loop _, ih (j + 1) i _ _ v0 t0 _ (by omega) lt k1 eS1 it1 ev (lon.keep gt)⟩
theorem max_key_ok (u v : Value) : argsOk "max" ⟨[u], [(Str.ofString "key", v)]⟩ := by
  unfold argsOk
  kernel_rfl
/-- max(rows, key=len) -/
theorem max_len {Q : Value → Shared → Prop} (hh : A.handled = none) (x : s0.heap.IsList l vs.toArray) (hv : Rows s0.heap vs kf) (ne : 0 < vs.length) (q : ∀ i v h' tk', vs[i]? = some v → Lon kf i vs.length → Kp s0.heap h' → Q v { s0 with heap := h', toks := tk' }) :
    wpAny (model prog w) A (call (.builtin "max") [.ref l] [(Str.ofString "key", .builtin "len")]) Q E s0 := by
  have nm : (toString "max" ++ toString ".loop" : String) = "max.loop" := by decide
  obtain ⟨ol, el, _⟩ := id x
  have hl := Heap.lt_size el
  refine kmk_tree PySem.F.kind_max PySem.F.plain_max PySem.F.entry_max (max_key_ok _ _) ?_
  show wpAny _ _ (Builtin.Builtins.bindParams "max" ["key", "default"] 0 ⟨[], [(Str.ofString "key", .builtin "len")]⟩ >>= _) _ _ s0
  refine wpAny_bind (wpAny_of_eq (show Builtin.Builtins.bindParams "max" ["key", "default"] 0 ⟨[], [(Str.ofString "key", .builtin "len")]⟩ = pure [some (.builtin "len"), none] from rfl) ?_)
  refine wpAny_bind (wpAny_pure ?_)
  refine wpAny_bind (wpAny_pyIter_list x ?_)
  refine wpAny_bind (wpAny_newList ?_ (Nat.zero_le _))
  rw [nm]
  refine wpAny_pure ⟨plainId_quiet PySem.F.plain_max_loop _, ?_⟩
  generalize eI : s0.heap.objs.size = I
  have Il : l ≠ I := Nat.ne_of_lt (eI ▸ hl)
  have nI : s0.heap.get? I = none := Heap.get?_none_of_le (Nat.le_of_eq eI)
  have z1 : (s0.heap.push { cls := .type "list_iterator", data := .fields #[.ref l, .int 0 0] }).objs.size = I + 1 := by rw [size_push', eI]
  rw [z1]
  have SI : I + 1 ≠ I := Nat.succ_ne_self I
  have nS : s0.heap.get? (I + 1) = none := Heap.get?_none_of_le (by omega)
  have k0 : Kp s0.heap ((s0.heap.push { cls := .type "list_iterator", data := .fields #[.ref l, .int 0 0] }).push (seqObj "list" #[] 0)) := fun b o e => Heap.get?_push_of_some _ (Heap.get?_push_of_some _ e)
  have it : ((s0.heap.push { cls := .type "list_iterator", data := .fields #[.ref l, .int 0 0] }).push (seqObj "list" #[] 0)).IsListIter I l 0 := by
    have e := Heap.get?_push_size (o := { cls := .type "list_iterator", data := .fields #[.ref l, .int 0 0] }) s0.heap rfl
    rw [eI] at e
    exact ⟨_, Heap.get?_push_of_some _ e, rfl, rfl⟩
  have eS : ((s0.heap.push { cls := .type "list_iterator", data := .fields #[.ref l, .int 0 0] }).push (seqObj "list" #[] 0)).get? (I + 1) = some (seqObj "list" #[] 0) := by
    have e := Heap.get?_push_size (o := seqObj "list" #[] 0) (s0.heap.push { cls := .type "list_iterator", data := .fields #[.ref l, .int 0 0] }) rfl
    rw [z1] at e
    exact e
  refine codeAny_builtin PySem.F.entry_max_loop ?_
  rw [Around.under_plainId PySem.F.plain_max_loop _]
  show wpAny _ _ (seqItems? (.ref (I + 1)) >>= _) _ _ _
  refine wpAny_bind (wpAny_seqItems (o := seqObj "list" #[] 0) eS rfl ?_)
  show wpAny _ _ (tryCatch (pyNext (.ref I)) _ >>= _) _ _ _
  refine wpAny_bind (wpAny_tryCatch (turn_in (A := A.in1) (s0 := s0) hh Il k0 nI x it ne fun v h1 t1 e1 k1 it1 keep => ?_))
  have eS1 := keep _ _ SI eS
  obtain ⟨a, its, rfl, la, sz, big⟩ := hv 0 v e1
  show wpAny _ _ (tryCatch (holding [.ref a] (call (.builtin "len") [.ref a])) _ >>= _) _ _ _
  refine wpAny_bind (wpAny_tryCatch (wpAny_holding (Calls.call_len_list (s := { s0 with heap := h1, toks := t1 }) (k1.list la) (by rw [sz]; exact Int.lt_of_lt_of_le (Int.ofNat_lt.mpr big) (by decide)) ?_)))
  rw [sz]
  have new := get?_update_seq eS1 fun _ => #[Value.ref a, .int (kf 0) (t1 + 1)]
  show wpAny _ _ (updateSeq (I + 1) (fun _ => #[.ref a, .int (kf 0) (t1 + 1)]) >>= _) _ _ _
  refine wpAny_bind (wpAny_updateSeq (o := seqObj "list" #[] 0) eS1 rfl ?_)
  rw [nm]
  refine wpAny_pure ⟨plainId_quiet PySem.F.plain_max_loop _, max_loop hh Il SI nI nS x hv (fun i v h' tk' e lon k => q i v h' tk' e lon k) _ 1 0 _ _ (.ref a) (t1 + 1) _ rfl ne (k1.put nS) new ?_ e1 ⟨Nat.lt_succ_self _, fun k hk => ?_⟩⟩
  · obtain ⟨oi, ei, ri⟩ := it1
    exact ⟨oi, (Heap.get?_update_ne _ _ _ _ (Ne.symm SI)).trans ei, ri⟩
  · obtain rfl : k = 0 := by omega
    exact ⟨Nat.le_refl _, fun z => absurd z (Nat.lt_irrefl _)⟩
end
/-- rows that are lists -/
def tMaxLen (K : PySem.W.Frag) (ta : TA) : TE := fun σ H Q => ta σ H fun vs H1 => ∃ (l : Addr) (as : List Addr) (kf : Nat → Nat), vs = [.ref l] ∧ SqL K H1 l (as.map V.ref) ∧ 0 < as.length ∧ (∀ i a, as[i]? = some a → ∃ xs, SqL K H1 a xs ∧ xs.length = kf i) ∧
  ∀ i a, as[i]? = some a → Lon kf i as.length → Q (.ref a) H1
theorem r_maxLen {K : PySem.W.Frag} {ta : TA} {σ : L2.St} {H : Hp} {Q : VK} (h : ta σ H fun vs H1 => ∃ (l : Addr) (as : List Addr) (kf : Nat → Nat), vs = [.ref l] ∧ SqL K H1 l (as.map V.ref) ∧ 0 < as.length ∧ (∀ i a, as[i]? = some a → ∃ xs, SqL K H1 a xs ∧ xs.length = kf i) ∧
  ∀ i a, as[i]? = some a → Lon kf i as.length → Q (.ref a) H1) : tMaxLen K ta σ H Q := h
theorem vals_of_refs : ∀ {as : List Addr} {us : List Value}, Vals (as.map V.ref) us → us = as.map Value.ref
  | [], _, .nil => rfl
  | a :: as, _, .cons r t => by
    cases r
    rw [vals_of_refs t]
    rfl
theorem pe_maxLen {X : Cx} {p pos q kp : Pos} {e : Expr} {ta : TA} (hg : Gl X "max") (hm : X.mg "max" = none) (hv : bootBuiltins "max" = some (.builtin "max")) (hg2 : Gl X "len") (hm2 : X.mg "len" = none) (hv2 : bootBuiltins "len" = some (.builtin "len")) (hc : X.calm = true) (ha : PA X [e] ta)
    (he : backTo pos (starEach [e] X.env) = (false, eval e X.env) :: backTo pos (starEach [] X.env) := by rfl) (hpl : (backTo pos (starEach [e] X.env)).any (·.1) = false := by rfl) :
    PE X (.Call (.Name "max" p) [e] [⟨some "key", .Name "len" q, kp⟩] pos) (tMaxLen X.K ta) := by
  refine ⟨fun pins s σ H Q I h => ?_⟩
  refine wpAny_Call_Name_kw (ld_blt I hg hm hv ?_)
  refine PyProof.Rows.callWith_kw (thn (ha.run pos pins s σ H _ I h) fun us s1 ⟨vs, H1, I1, r1, l, as, kf, ev, hl, ne, hr, q1⟩ => ?_) he hpl rfl rfl
  subst ev
  rw [Vals.ref1 r1]
  show wpAny _ _ (evalAll [(do let v ← eval (.Name "len" q) X.env; standAt pos; pure v)]) _ _ s1
  refine wpAny_evalAll_cons (wpAny_bind (ld_blt I1 hg2 hm2 hv2 (wpAny_bind (wpAny_standAt (wpAny_pure (wpAny_evalAll_nil ?_))))))
  obtain ⟨its, rv, pl, z⟩ := I1.list hl
  have eu := vals_of_refs rv
  subst eu
  refine max_len (kf := kf) (I1.ok.hd hc) pl.isList (fun i v ei => ?_) (by rw [List.length_map]; exact ne) (fun i v h' tk' ei lon k => ?_)
  · rw [List.getElem?_map] at ei
    cases e0 : as[i]? with
    | none => rw [e0] at ei; cases ei
    | some a =>
      rw [e0] at ei
      cases ei
      obtain ⟨xs, h1, h2⟩ := hr i a e0
      obtain ⟨is, r2, p2, z2⟩ := I1.list h1
      have e3 := r2.length
      refine ⟨a, _, rfl, p2.isList, by rw [List.size_toArray, ← e3]; exact h2, ?_⟩
      rw [← h2]
      have : sizeLine < 2 ^ 62 := by rw [sizeLine_eq]; decide
      omega
  · rw [List.getElem?_map] at ei
    rw [List.length_map] at lon
    cases e0 : as[i]? with
    | none => rw [e0] at ei; cases ei
    | some a =>
      rw [e0] at ei
      cases ei
      exact ⟨.ref a, H1, I1.kept (t' := tk') k, rfl, q1 i a e0 lon⟩
end Ct
end
section
set_option Elab.async false
set_option linter.all false
set_option maxRecDepth 100000
set_option maxHeartbeats 4000000
/-! Cups: what they are on the heap; rounds; feeds. Nothing here speaks of a law's own text. -/
namespace Ct
open PySem PySem.Spec L2 StX
/-- a list of ints as data -/
def dI (ns : List Int) : PyData := .list (ns.map fun i => PySem.W.Datum.toD i)
theorem dpI {K : PySem.W.Frag} {H : Hp} : ∀ ns : List Int, DpAll K H (ns.map V.int) (ns.map fun i => PySem.W.Datum.toD i)
  | [] => .nil
  | i :: r => .cons (.int i) (dpI r)
theorem dI_dp {K : PySem.W.Frag} {H : Hp} {l : Addr} {ns : List Int} (h : H l = some (.lst (ns.map V.int))) : Dp K H (.ref l) (dI ns) := .lst (SqL.of h) (dpI ns)
theorem dI_eqv (a b : List Int) : PyData.eqv (dI a) (dI b) = decide (a = b) := PySem.W.Datum.eqv a b
theorem canI : ∀ ns : List Int, PyData.canLayAll0 (ns.map fun i => PySem.W.Datum.toD i) = true
  | [] => rfl
  | i :: r => by
    show (PyData.canLay0 (PySem.W.Datum.toD i) && PyData.canLayAll0 _) = true
    rw [canI r]
    rfl
theorem dI_shaped (ns : List Int) : SeqAt.shaped (dI ns) = true := by
  unfold SeqAt.shaped
  have h1 : (dI ns).canLay0 = true := canI ns
  have h2 : (dI ns).depth ≤ 1 := PySem.W.Datum.depth_le ns
  rw [h1, decide_eq_true (by omega)]
  rfl
theorem sorted_one {a b : List Int} (p : a.Perm b) (ha : a.Pairwise (· ≤ ·)) (hb : b.Pairwise (· ≤ ·)) : a = b := List.Perm.eq_of_pairwise (le := (· ≤ ·)) (fun x y _ _ h1 h2 => Int.le_antisymm h1 h2) ha hb p
theorem r_listRg {te : L2.St → Hp → (Int → Int → Hp → Prop) → Prop} {σ : L2.St} {H : Hp} {Q : VK} (h : te σ H fun a b H1 => RgOk a b ∧ ∀ q, H1 q = none → Q (.ref q) (upd H1 q (.lst (rgV a b)))) : tLstRg te σ H Q := h
theorem r_rg1 {ta : TE} {σ : L2.St} {H : Hp} {Q : Int → Int → Hp → Prop} (h : ta σ H fun x H1 => ∃ n, x = .int n ∧ Q 0 n H1) : tRg1 ta σ H Q := h
theorem r_exi {i : Int} {k : Int → Prop} (h : k i) : ∃ j, V.int i = .int j ∧ k j := ⟨i, rfl, h⟩
theorem r_isi {K : PySem.W.Frag} {H : Hp} {Q : VK} {x : V} {n m : String} {b : Bool} (ht : TyX K H x (.type n)) (hk : kitB n m = some b) (h : Q (.bl b) H) : rIsi K [x, .ty m] H Q := ⟨x, .ty m, .type n, .type m, b, rfl, .ty m, ht, kit_ty hk, h⟩
theorem line_big : (100000 : Nat) < sizeLine := by rw [sizeLine_eq]; decide
theorem rep_all (n : Nat) : (List.replicate n true).all id = true := by
  rw [List.all_eq_true]
  intro x hx
  exact (List.eq_of_mem_replicate hx)
theorem take_snoc {α : Type} {l : List α} {i : Nat} {x : α} (h : l[i]? = some x) : l.take (i + 1) = l.take i ++ [x] := by
  rw [List.take_add_one, h]
  rfl
theorem Same.free {H H' : Hp} {p : Addr} (s : Same H H') (h : H' p = none) : H p = none := by
  cases e : H p with
  | none => rfl
  | some u => rw [s _ _ e] at h; cases h
theorem isLs_but {G G' : Hp} {r : Addr} {vs : List V} (h : G r = some (.lst vs)) (b : But r G G') : ∀ {ws : List V} {pss : List (List P2)}, (∀ v ∈ ws, v ∈ vs) → Paired (IsL G) ws pss → Paired (IsL G') ws pss
  | _, _, _, .nil => .nil
  | v :: ws, ps :: pss, hm, .cons ⟨a, e, xs, ha, hp⟩ t => by
    refine .cons ⟨a, e, xs, b _ _ (fun z => ?_) ha, b.prs h hp⟩ (isLs_but h b (fun u hu => hm u (List.mem_cons_of_mem _ hu)) t)
    subst z
    rw [h] at ha
    cases ha
    obtain ⟨i, hi⟩ := List.getElem?_of_mem (hm v List.mem_cons_self)
    obtain ⟨p, _, u, e2, hu⟩ := hp.get hi
    rw [e] at e2
    cases e2
    rw [h] at hu
    cases hu
theorem r_ev2 {K : PySem.W.Frag} {te : TE} {σ : L2.St} {H : Hp} {Q : VK} (h : te σ H fun x H1 => ∃ a xs, x = .ref a ∧ SqL K H1 a xs ∧ ∀ p, H1 p = none → Q (.ref p) (upd H1 p (.lst (evens xs)))) : tEv2 K te σ H Q := h
/-- who beat p, in these matches -/
def conqS (p : Int) (v : V) (m : P2) : V := if m.2 = p then .int m.1 else v
def conq (ms : List P2) (p : Int) : V := ms.foldl (conqS p) .non
def beat (ms : List P2) (p : Int) : List Int := (ms.filter fun m => decide (m.1 = p)).map (·.2)
def conqL (ms : List P2) (N : Nat) : List V := (List.range N).map fun (i : Nat) => conq ms (i : Int)
theorem conq_snoc (ms : List P2) (m : P2) (p : Int) : conq (ms ++ [m]) p = if m.2 = p then .int m.1 else conq ms p := by
  unfold conq
  rw [List.foldl_append]
  rfl
theorem beat_snoc (ms : List P2) (m : P2) (p : Int) : beat (ms ++ [m]) p = if m.1 = p then beat ms p ++ [m.2] else beat ms p := by
  unfold beat
  rw [List.filter_append, List.map_append]
  by_cases h : m.1 = p
  · rw [if_pos h, List.filter_cons_of_pos (by simpa using h)]; rfl
  · rw [if_neg h, List.filter_cons_of_neg (by simpa using h)]; exact List.append_nil _
theorem conqL_put {ms : List P2} {N j : Nat} {m : P2} (h : m.2 = (j : Int)) (hj : j < N) : (conqL ms N).set j (.int m.1) = conqL (ms ++ [m]) N := by
  refine List.ext_getElem? fun i => ?_
  unfold conqL
  rw [List.getElem?_set, List.getElem?_map, List.getElem?_map, List.length_map, List.length_range]
  by_cases hi : i < N
  · rw [List.getElem?_range hi]
    by_cases c : j = i
    · subst c
      rw [if_pos rfl, if_pos hj]
      show some (V.int m.1) = some (conq (ms ++ [m]) (j : Int))
      rw [conq_snoc, if_pos h]
    · rw [if_neg c]
      show some (conq ms (i : Int)) = some (conq (ms ++ [m]) (i : Int))
      rw [conq_snoc, if_neg (by rw [h]; omega)]
  · have e : (List.range N)[i]? = none := List.getElem?_eq_none (by rw [List.length_range]; omega)
    rw [e]
    by_cases c : j = i
    · omega
    · rw [if_neg c]; rfl
/-- lists of players, at different places -/
structure BtR (G : Hp) (b : Addr) (ms : List P2) (N : Nat) : Prop where
  ex : ∃ as : List Addr, G b = some (.lst (as.map V.ref)) ∧ as.length = N ∧ as.Nodup ∧ b ∉ as ∧ ∀ (i : Nat) (x : Addr), as[i]? = some x → G x = some (.lst ((beat ms (i : Int)).map V.int))
theorem BtR.ext {G G' : Hp} {b : Addr} {ms : List P2} {N : Nat} (h : BtR G b ms N) (s : Same G G') : BtR G' b ms N := let ⟨as, h1, h2, h3, h4, h5⟩ := h.ex; ⟨as, s _ _ h1, h2, h3, h4, fun i x e => s _ _ (h5 i x e)⟩
structure CupR (C : Addr) (H : Hp) (c o r q b : Addr) (row : List Int) (n : Nat) : Prop where
  at_ : ∃ dx fs, H c = some (.ins C dx fs) ∧ fs.lookup ("_order" : Str) = some (.ref o) ∧ fs.lookup ("_rounds" : Str) = some (.ref r) ∧ fs.lookup ("_conquerors" : Str) = some (.ref q) ∧ fs.lookup ("_beaten" : Str) = some (.ref b) ∧ fs.length < 1000 ∧ ∀ f : Str, f ≠ ("_order" : Str) → f ≠ ("_rounds" : Str) → f ≠ ("_conquerors" : Str) → f ≠ ("_beaten" : Str) → fs.lookup f = none
  ord : H o = some (.lst (row.map V.int))
  rnd : RL H r (rds n row)
  cq : H q = some (.lst (conqL (rds n row).flatten (2 ^ n)))
  bt : BtR H b (rds n row).flatten (2 ^ n)
theorem CupR.ext {C : Addr} {H H' : Hp} {c o r q b : Addr} {row : List Int} {n : Nat} (h : CupR C H c o r q b row n) (s : Same H H') : CupR C H' c o r q b row n :=
  ⟨let ⟨dx, fs, h1, h2⟩ := h.at_; ⟨dx, fs, s _ _ h1, h2⟩, s _ _ h.ord, h.rnd.ext s, s _ _ h.cq, h.bt.ext s⟩
theorem conqL_nil (N : Nat) : conqL [] N = List.replicate N V.non := by
  unfold conqL
  rw [show (fun (i : Nat) => conq [] (i : Int)) = fun _ => V.non from rfl, List.map_const', List.length_range]
theorem conqL_len (ms : List P2) (N : Nat) : (conqL ms N).length = N := by
  unfold conqL
  rw [List.length_map, List.length_range]
theorem rds_mem : ∀ {n : Nat} {l : List Int} {ps : List P2}, ps ∈ rds n l → ∀ p ∈ ps, p.1 ∈ l ∧ p.2 ∈ l
  | 0, l, ps, h, p, _ => by cases h
  | n + 1, l, ps, h, p, hp => by
    rcases List.mem_cons.mp h with z | z
    · rw [z] at hp
      exact pairsOf_fst p (mem_pset.mp hp)
    · have := rds_mem (n := n) z p hp
      exact ⟨(evens_sub l).subset this.1, (evens_sub l).subset this.2⟩
theorem pairsOf_le : ∀ l : List Int, (pairsOf l).length ≤ l.length
  | [] => Nat.le_refl _
  | [x] => Nat.zero_le _
  | x :: y :: r => by
    show (pairsOf r).length + 1 ≤ r.length + 1 + 1
    have := pairsOf_le r
    omega
theorem rds_le : ∀ {n : Nat} {l : List Int} {ps : List P2}, ps ∈ rds n l → ps.length ≤ l.length
  | 0, l, ps, h => by cases h
  | n + 1, l, ps, h => by
    rcases List.mem_cons.mp h with z | z
    · rw [z]; exact Nat.le_trans (pset_len _) (pairsOf_le l)
    · exact Nat.le_trans (rds_le (n := n) z) (evens_sub l).length_le
theorem rds_len : ∀ (n : Nat) (l : List Int), (rds n l).length = n
  | 0, l => rfl
  | n + 1, l => by
    show (rds n (evens l)).length + 1 = n + 1
    rw [rds_len]
theorem flat_le {L : Nat} : ∀ {pss : List (List P2)}, (∀ ps ∈ pss, ps.length ≤ L) → pss.flatten.length ≤ pss.length * L
  | [], _ => Nat.zero_le _
  | ps :: pss, h => by
    rw [List.flatten_cons, List.length_append, List.length_cons, Nat.succ_mul]
    have h1 := h ps List.mem_cons_self
    have h2 := flat_le (pss := pss) fun q hq => h q (List.mem_cons_of_mem _ hq)
    omega
theorem beat_le (ms : List P2) (p : Int) : (beat ms p).length ≤ ms.length := by
  unfold beat
  rw [List.length_map]
  exact List.length_filter_le _ _
theorem ixN_nat' {n : Nat} {i : Int} {j : Nat} (e : i = (j : Int)) (h : j < n) : ixN n i = some j := by
  subst e
  unfold ixN
  rw [if_pos (by omega), if_pos (by omega), Int.toNat_natCast]
theorem refs_inj : ∀ {as bs : List Addr}, as.map V.ref = bs.map V.ref → as = bs
  | [], [], _ => rfl
  | [], _ :: _, h => by cases h
  | _ :: _, [], h => by cases h
  | a :: as, b :: bs, h => by
    rw [List.map_cons, List.map_cons] at h
    obtain ⟨h1, h2⟩ := List.cons.inj h
    rw [V.ref.inj h1, refs_inj h2]
theorem notin_of {G : Hp} {D : Addr} {as : List Addr} (hD : G D = some (.lst (as.map V.ref))) (h : ∀ x ∈ as, G x = some (.lst [])) : D ∉ as := fun z => by
  have := h D z
  rw [hD] at this
  have e : as.map V.ref = [] := HO.lst.inj (Option.some.inj this)
  rw [List.map_eq_nil_iff.mp e] at z
  cases z
theorem isLs_get : ∀ {H : Hp} {vs : List V} {pss : List (List P2)} {i : Nat} {v : V}, Paired (IsL H) vs pss → vs[i]? = some v → ∃ ps, pss[i]? = some ps ∧ IsL H v ps
  | _, _, _, _, _, .nil, h => by cases h
  | _, _, _, 0, _, .cons a _, h => by
    cases h
    exact ⟨_, rfl, a⟩
  | _, _, _, i + 1, _, .cons _ t, h => isLs_get (i := i) t h
/-- the state of the two lists while the matches are walked -/
structure CkI (C c dx : Addr) (fs : List (Str × V)) (B G : Hp) (q b : Addr) (as : List Addr) (ms : List P2) (N : Nat) : Prop where
  bt : But c B G
  at_ : G c = some (.ins C dx fs)
  cq : G q = some (.lst (conqL ms N))
  gb : G b = some (.lst (as.map V.ref))
  ga : ∀ (i : Nat) (x : Addr), as[i]? = some x → G x = some (.lst ((beat ms (i : Int)).map V.int))
structure CkS (c q b : Addr) (B : Hp) (as : List Addr) (N : Nat) : Prop where
  len : as.length = N
  nd : as.Nodup
  qb : q ≠ b
  qa : q ∉ as
  ba : b ∉ as
  qc : q ≠ c
  bc : b ≠ c
  ca : c ∉ as
  bq : B q = none
  bb : B b = none
  bas : ∀ x ∈ as, B x = none
theorem CkI.step {C c dx : Addr} {fs : List (Str × V)} {B G G1 G2 : Hp} {q b x : Addr} {as : List Addr} {ms : List P2} {N j i : Nat} {m : P2} (S : CkS c q b B as N) (I : CkI C c dx fs B G q b as ms N) (hj : m.2 = (j : Int)) (hjN : j < N) (hi : m.1 = (i : Int)) (hx : as[i]? = some x)
    (b1 : But q G G1) (h1 : G1 q = some (.lst ((conqL ms N).set j (.int m.1)))) (b2 : But x G1 G2) (h2 : G2 x = some (.lst ((beat ms (i : Int)).map V.int ++ [V.int m.2]))) : CkI C c dx fs B G2 q b as (ms ++ [m]) N := by
  have hxm := List.mem_of_getElem? hx
  have nxq : q ≠ x := fun z => S.qa (z ▸ hxm)
  have nxb : b ≠ x := fun z => S.ba (z ▸ hxm)
  have nxc : c ≠ x := fun z => S.ca (z ▸ hxm)
  refine ⟨But.ins (But.ins I.bt S.bq b1) (S.bas x hxm) b2, b2 _ _ nxc (b1 _ _ (Ne.symm S.qc) I.at_), b2 _ _ nxq (conqL_put hj hjN ▸ h1), b2 _ _ nxb (b1 _ _ (Ne.symm S.qb) I.gb), fun i' y hy => ?_⟩
  have hym := List.mem_of_getElem? hy
  by_cases c1 : y = x
  · subst c1
    have e : i' = i := by
      obtain ⟨l1, e1⟩ := List.getElem?_eq_some_iff.mp hy
      obtain ⟨l2, e2⟩ := List.getElem?_eq_some_iff.mp hx
      exact (List.getElem_inj S.nd).mp (e1.trans e2.symm)
    subst e
    rw [h2, beat_snoc, if_pos hi, List.map_append]
    rfl
  · have e : m.1 ≠ (i' : Int) := fun z => c1 (by
      have : i' = i := by omega
      subst this
      rw [hx] at hy
      exact (Option.some.inj hy).symm)
    rw [beat_snoc, if_neg e]
    exact b2 _ _ c1 (b1 _ _ (fun z => S.qa (z ▸ hym)) (I.ga i' y hy))
theorem ne_insL {H : Hp} {p q C dx : Addr} {fs : List (Str × V)} {xs : List V} (h : H p = some (.ins C dx fs)) (h' : H q = some (.lst xs)) : q ≠ p := ne_of h' h (by intro z; cases z)
theorem isLs_ins {G G' : Hp} {c C dx : Addr} {fs : List (Str × V)} (h : G c = some (.ins C dx fs)) (b : But c G G') : ∀ {vs : List V} {pss : List (List P2)}, Paired (IsL G) vs pss → Paired (IsL G') vs pss := fun p => L2.Paired.mapP p fun _ _ ⟨x, e, xs, hx, hp⟩ =>
  ⟨x, e, xs, b _ _ (ne_insL h hx) hx, L2.Paired.mapP hp fun _ _ ⟨t, e2, ht⟩ => ⟨t, e2, b _ _ (ne_of ht h (by intro z; cases z)) ht⟩⟩
theorem RL.ins {G G' : Hp} {c C dx r : Addr} {fs : List (Str × V)} {pss : List (List P2)} (h : G c = some (.ins C dx fs)) (b : But c G G') (p : RL G r pss) : RL G' r pss := let ⟨vs, h1, h2⟩ := p; ⟨vs, b _ _ (ne_insL h h1) h1, isLs_ins h b h2⟩
theorem r_prop {C : Addr} {sp : Sp} {dvs : List V} {E : XK} {ta : TE} {σ : L2.St} {H : Hp} {Q : VK} (h : ta σ H fun x H1 => ∃ a dx fs, x = .ref a ∧ H1 a = some (.ins C dx fs) ∧ sp (.ref a :: dvs) H1 Q E) : tProp C sp dvs E ta σ H Q := h
theorem conq_cases (ms : List P2) (p : Int) : conq ms p = .non ∨ ∃ i, conq ms p = .int i := by
  unfold conq
  suffices h : ∀ (l : List P2) (v : V), (v = .non ∨ ∃ i, v = .int i) → (l.foldl (conqS p) v = .non ∨ ∃ i, l.foldl (conqS p) v = .int i) from h ms .non (.inl rfl)
  intro l
  induction l with
  | nil => exact fun v h => h
  | cons m l ih =>
    intro v h
    refine ih _ ?_
    unfold conqS
    split
    · exact .inr ⟨_, rfl⟩
    · exact h
theorem conq_scal (ms : List P2) (p y : Int) : scal (conq ms p) (.int y) = true := by
  rcases conq_cases ms p with h | ⟨i, h⟩ <;> rw [h] <;> rfl
theorem conq_at {ms : List P2} {N : Nat} {x : Int} (h0 : 0 ≤ x) (h1 : x < N) : atI (conqL ms N) x = some (conq ms x) := by
  obtain ⟨j, rfl⟩ : ∃ j : Nat, x = (j : Int) := ⟨x.toNat, by omega⟩
  refine atI_nat ?_
  unfold conqL
  rw [List.getElem?_map, List.getElem?_range (by omega)]
  rfl
theorem CupR.beat_at {C : Addr} {H : Hp} {c o r q b : Addr} {row : List Int} {n : Nat} (h : CupR C H c o r q b row n) {x : Int} (h0 : 0 ≤ x) (h1 : x < (2 ^ n : Nat)) : ∃ vs y, H b = some (.lst vs) ∧ atI vs x = some (V.ref y) ∧ H y = some (.lst ((beat (rds n row).flatten x).map V.int)) := by
  obtain ⟨as, g1, g2, g3, g4, g5⟩ := h.bt.ex
  obtain ⟨j, rfl⟩ : ∃ j : Nat, x = (j : Int) := ⟨x.toNat, by omega⟩
  have hj : j < as.length := by omega
  refine ⟨_, as[j], g1, atI_nat ?_, g5 j _ (List.getElem?_eq_getElem hj)⟩
  rw [List.getElem?_map, List.getElem?_eq_getElem hj]
  rfl
/-- the round in which two played, as the program tells it -/
def metV (ms : List P2) (x y : Int) : V := if conq ms x = .int y then .int ((beat ms x).length + 1) else if conq ms y = .int x then .int ((beat ms y).length + 1) else .non
theorem two_pow_toNat (n : Nat) : (2 : Int) ^ ((n : Nat) : Int).toNat = ((2 ^ n : Nat) : Int) := by
  rw [Int.toNat_natCast, Int.natCast_pow]
  rfl
def rdsU : Nat → List Int → List (List P2)
  | 0, _ => []
  | n + 1, l => pairsOf l :: rdsU n (evens l)
theorem rds_map : ∀ (n : Nat) (l : List Int), rds n l = (rdsU n l).map pset
  | 0, _ => rfl
  | n + 1, l => by
    show pset (pairsOf l) :: rds n (evens l) = pset (pairsOf l) :: (rdsU n (evens l)).map pset
    rw [rds_map]
theorem rdsU_len : ∀ (n : Nat) (l : List Int), (rdsU n l).length = n
  | 0, l => rfl
  | n + 1, l => by
    show (rdsU n (evens l)).length + 1 = n + 1
    rw [rdsU_len]
theorem rdsU_mem : ∀ {n : Nat} {l : List Int} {ps : List P2}, ps ∈ rdsU n l → ∀ p ∈ ps, p.1 ∈ l ∧ p.2 ∈ l
  | 0, l, ps, h, p, _ => by cases h
  | n + 1, l, ps, h, p, hp => by
    rcases List.mem_cons.mp h with z | z
    · rw [z] at hp
      exact pairsOf_fst p hp
    · have := rdsU_mem (n := n) z p hp
      exact ⟨(evens_sub l).subset this.1, (evens_sub l).subset this.2⟩
theorem rdsU_le : ∀ {n : Nat} {l : List Int} {ps : List P2}, ps ∈ rdsU n l → ps.length ≤ l.length
  | 0, l, ps, h => by cases h
  | n + 1, l, ps, h => by
    rcases List.mem_cons.mp h with z | z
    · rw [z]; exact pairsOf_le l
    · exact Nat.le_trans (rdsU_le (n := n) z) (evens_sub l).length_le
theorem rdsU_nodup : ∀ {n : Nat} {l : List Int} {ps : List P2}, l.Nodup → ps ∈ rdsU n l → ps.Nodup
  | 0, l, ps, _, h => by cases h
  | n + 1, l, ps, d, h => by
    rcases List.mem_cons.mp h with z | z
    · rw [z]; exact pairsOf_nodup d
    · exact rdsU_nodup (n := n) ((evens_sub l).nodup d) z
theorem flat_perm : ∀ {pss : List (List P2)}, (∀ ps ∈ pss, ps.Nodup) → (pss.map pset).flatten.Perm pss.flatten
  | [], _ => .refl _
  | ps :: pss, h => by
    rw [List.map_cons, List.flatten_cons, List.flatten_cons]
    refine List.Perm.append ?_ (flat_perm fun q hq => h q (List.mem_cons_of_mem _ hq))
    rw [← psort_nodup (h ps List.mem_cons_self)]
    exact psort_perm ps
theorem beat_perm {a b : List P2} (h : a.Perm b) (p : Int) : (beat a p).length = (beat b p).length := by
  unfold beat
  rw [List.length_map, List.length_map]
  exact (h.filter _).length_eq
theorem beat_app (a b : List P2) (p : Int) : (beat (a ++ b) p).length = (beat a p).length + (beat b p).length := by
  unfold beat
  rw [List.length_map, List.length_map, List.length_map, List.filter_append, List.length_append]
theorem beat_none {a : List P2} {p : Int} (h : ∀ m ∈ a, m.1 ≠ p) : (beat a p).length = 0 := by
  unfold beat
  rw [List.length_map, List.filter_eq_nil_iff.mpr fun m hm => by simpa using h m hm]
  rfl
theorem beat_pos {a : List P2} {m : P2} (h : m ∈ a) : 1 ≤ (beat a m.1).length := by
  unfold beat
  rw [List.length_map]
  exact List.length_pos_of_mem (List.mem_filter.mpr ⟨h, by simp⟩)
theorem pairs_win : ∀ {l : List Int} {p : P2}, p ∈ pairsOf l → p.1 ∈ evens l
  | [], p, h => by simp [pairsOf] at h
  | [x], p, h => by simp [pairsOf] at h
  | x :: y :: r, p, h => by
    show p.1 ∈ x :: evens r
    rcases List.mem_cons.mp h with z | z
    · rw [z]; exact List.mem_cons_self
    · exact List.mem_cons_of_mem _ (pairs_win (l := r) z)
theorem pairs_lose : ∀ {l : List Int} {p : P2}, l.Nodup → p ∈ pairsOf l → p.2 ∉ evens l
  | [], p, _, h => by simp [pairsOf] at h
  | [x], p, _, h => by simp [pairsOf] at h
  | x :: y :: r, p, d, h => by
    show p.2 ∉ x :: evens r
    obtain ⟨h1, h2⟩ := List.nodup_cons.mp d
    obtain ⟨h3, h4⟩ := List.nodup_cons.mp h2
    intro q
    rcases List.mem_cons.mp h with z | z
    · rw [z] at q
      rcases List.mem_cons.mp q with u | u
      · exact h1 (by rw [show y = x from u] at *; exact List.mem_cons_self)
      · exact h3 ((evens_sub r).subset u)
    · rcases List.mem_cons.mp q with u | u
      · exact h1 (List.mem_cons_of_mem _ (u ▸ (pairsOf_fst p z).2))
      · exact pairs_lose (l := r) h4 z u
theorem pairs_once : ∀ {l : List Int} {x : Int} {k : Nat}, l.Nodup → l.length = 2 * k → x ∈ evens l → (beat (pairsOf l) x).length = 1
  | [], x, k, _, _, h => by simp [evens] at h
  | [a], x, k, _, e, h => by
    have e' : 1 = 2 * k := e
    omega
  | a :: b :: r, x, k, d, e, h => by
    have e' : r.length + 2 = 2 * k := e
    obtain ⟨h1, h2⟩ := List.nodup_cons.mp d
    obtain ⟨h3, h4⟩ := List.nodup_cons.mp h2
    show (beat ([(a, b)] ++ pairsOf r) x).length = 1
    rw [beat_app]
    rcases List.mem_cons.mp h with z | z
    · subst z
      have q1 : (beat [(x, b)] x).length = 1 := by simp [beat]
      have q2 : (beat (pairsOf r) x).length = 0 := beat_none fun m hm z => h1 (List.mem_cons_of_mem _ (z ▸ (pairsOf_fst m hm).1))
      omega
    · have hx : x ∈ r := (evens_sub r).subset z
      have q1 : (beat [(a, b)] x).length = 0 := beat_none fun m hm z => by
        rw [List.mem_singleton.mp hm] at z
        have z' : a = x := z
        exact h1 (List.mem_cons_of_mem _ (by rw [z']; exact hx))
      have := pairs_once (l := r) (x := x) (k := k - 1) h4 (by omega) z
      omega
theorem pairs_losers : ∀ (l : List Int), ((pairsOf l).map (·.2)).Sublist l
  | [] => .slnil
  | [x] => List.nil_sublist _
  | x :: y :: r => by
    show (y :: (pairsOf r).map (·.2)).Sublist (x :: y :: r)
    exact ((pairs_losers r).cons₂ y).cons x
theorem losers_nodup : ∀ (n : Nat) {l : List Int}, l.Nodup → ((rdsU n l).flatten.map (·.2)).Nodup
  | 0, l, _ => List.nodup_nil
  | n + 1, l, d => by
    show ((pairsOf l ++ (rdsU n (evens l)).flatten).map (·.2)).Nodup
    rw [List.map_append]
    refine List.nodup_append.mpr ⟨(pairs_losers l).nodup d, losers_nodup n ((evens_sub l).nodup d), fun a ha b hb e => ?_⟩
    subst e
    obtain ⟨p, hp, rfl⟩ := List.mem_map.mp ha
    obtain ⟨q, hq, e⟩ := List.mem_map.mp hb
    obtain ⟨ps, h1, h2⟩ := List.mem_flatten.mp hq
    exact pairs_lose d hp (e ▸ (rdsU_mem h1 q h2).2)
theorem beat_out {n : Nat} {l : List Int} {p : Int} (h : p ∉ l) : (beat (rdsU n l).flatten p).length = 0 := beat_none fun m hm z => by
  obtain ⟨ps, h1, h2⟩ := List.mem_flatten.mp hm
  exact h (z ▸ (rdsU_mem h1 m h2).1)
theorem beat_round : ∀ {n i : Nat} {l : List Int} {ps : List P2} {p : P2}, l.Nodup → l.length = 2 ^ n → (rdsU n l)[i]? = some ps → p ∈ ps → (beat (rdsU n l).flatten p.2).length = i ∧ i < (beat (rdsU n l).flatten p.1).length
  | 0, i, l, ps, p, _, _, h, _ => by cases h
  | n + 1, 0, l, ps, p, d, e, h, hp => by
    cases h
    show (beat (pairsOf l ++ (rdsU n (evens l)).flatten) p.2).length = 0 ∧ 0 < (beat (pairsOf l ++ (rdsU n (evens l)).flatten) p.1).length
    have q0 : (beat (pairsOf l) p.2).length = 0 := beat_none fun m hm z => pairs_lose d hp (z ▸ pairs_win hm)
    rw [beat_app, beat_app, beat_out (pairs_lose d hp), q0]
    have := beat_pos hp
    exact ⟨rfl, by omega⟩
  | n + 1, i + 1, l, ps, p, d, e, h, hp => by
    have h' : (rdsU n (evens l))[i]? = some ps := h
    have e1 : l.length = 2 * 2 ^ n := by rw [e, Nat.pow_succ]; omega
    have e2 : (evens l).length = 2 ^ n := by
      have : ∀ xs : List Int, (evens xs).length = (xs.length + 1) / 2 := evens_len
      rw [this]; omega
    have ih := beat_round (n := n) ((evens_sub l).nodup d) e2 h' hp
    have m := rdsU_mem (List.mem_of_getElem? h') p hp
    show (beat (pairsOf l ++ (rdsU n (evens l)).flatten) p.2).length = i + 1 ∧ i + 1 < (beat (pairsOf l ++ (rdsU n (evens l)).flatten) p.1).length
    rw [beat_app, beat_app, pairs_once d e1 m.1, pairs_once d e1 m.2]
    omega
theorem conq_of_fold : ∀ {ms : List P2} {p w : Int} {v : V}, ms.foldl (conqS p) v = .int w → v = .int w ∨ (w, p) ∈ ms
  | [], p, w, v, h => .inl h
  | m :: ms, p, w, v, h => by
    rcases conq_of_fold (ms := ms) h with z | z
    · unfold conqS at z
      by_cases c : m.2 = p
      · rw [if_pos c] at z
        refine .inr (List.mem_cons.mpr (.inl ?_))
        cases z
        subst c
        rfl
      · rw [if_neg c] at z
        exact .inl z
    · exact .inr (List.mem_cons_of_mem _ z)
theorem conq_keep : ∀ {ms : List P2} {p : Int} {v : V}, p ∉ ms.map (·.2) → ms.foldl (conqS p) v = v
  | [], p, v, _ => rfl
  | m :: ms, p, v, h => by
    rw [List.map_cons, List.mem_cons, not_or] at h
    show ms.foldl (conqS p) (conqS p v m) = v
    rw [conq_keep h.2]
    unfold conqS
    rw [if_neg (fun z => h.1 z.symm)]
theorem conq_fold : ∀ {ms : List P2} {p w : Int} {v : V}, (ms.map (·.2)).Nodup → (w, p) ∈ ms → ms.foldl (conqS p) v = .int w
  | [], p, w, v, _, h => by cases h
  | m :: ms, p, w, v, d, h => by
    have d' := List.nodup_cons.mp (show (m.2 :: ms.map (·.2)).Nodup from d)
    rcases List.mem_cons.mp h with z | z
    · subst z
      show ms.foldl (conqS p) (conqS p v (w, p)) = .int w
      rw [conq_keep d'.1]
      unfold conqS
      rw [if_pos rfl]
    · show ms.foldl (conqS p) (conqS p v m) = .int w
      exact conq_fold d'.2 z
theorem conq_iff {ms : List P2} (d : (ms.map (·.2)).Nodup) (p w : Int) : conq ms p = .int w ↔ (w, p) ∈ ms := by
  constructor
  · intro h
    rcases conq_of_fold h with z | z
    · cases z
    · exact z
  · exact fun h => conq_fold d h
section
variable {n : Nat} {row : List Int}
theorem ms_perm (d : row.Nodup) : (rds n row).flatten.Perm (rdsU n row).flatten := by
  rw [rds_map]
  exact flat_perm fun ps h => rdsU_nodup d h
theorem ms_losers (d : row.Nodup) : ((rds n row).flatten.map (·.2)).Nodup := ((ms_perm d).map _).nodup_iff.mpr (losers_nodup n d)
theorem ms_beat (d : row.Nodup) (e : row.length = 2 ^ n) {i : Nat} {ps : List P2} {p : P2} (h : (rdsU n row)[i]? = some ps) (hp : p ∈ ps) : (beat (rds n row).flatten p.2).length = i ∧ i < (beat (rds n row).flatten p.1).length := by
  rw [beat_perm (ms_perm d), beat_perm (ms_perm d)]
  exact beat_round d e h hp
theorem ms_mem (d : row.Nodup) (p : P2) : p ∈ (rds n row).flatten ↔ ∃ (i : Nat) (ps : List P2), (rdsU n row)[i]? = some ps ∧ p ∈ ps := by
  rw [(ms_perm d).mem_iff, List.mem_flatten]
  constructor
  · rintro ⟨ps, h1, h2⟩
    obtain ⟨i, hi⟩ := List.getElem?_of_mem h1
    exact ⟨i, ps, hi, h2⟩
  · rintro ⟨i, ps, h1, h2⟩
    exact ⟨ps, List.mem_of_getElem? h1, h2⟩
theorem met_yes (d : row.Nodup) (e : row.length = 2 ^ n) {i : Nat} {ps : List P2} {x y : Int} (h : (rdsU n row)[i]? = some ps) (hp : (x, y) ∈ ps) : metV (rds n row).flatten x y = .int (i + 1) ∧ metV (rds n row).flatten y x = .int (i + 1) := by
  have b := ms_beat d e h hp
  have cy : conq (rds n row).flatten y = .int x := (conq_iff (ms_losers d) _ _).mpr ((ms_mem d _).mpr ⟨i, ps, h, hp⟩)
  have cx : ¬ conq (rds n row).flatten x = .int y := fun z => by
    obtain ⟨j, qs, h1, h2⟩ := (ms_mem d _).mp ((conq_iff (ms_losers d) _ _).mp z)
    have b2 := ms_beat d e h1 h2
    dsimp only at b b2
    omega
  unfold metV
  rw [if_neg cx, if_pos cy, if_pos cy, b.1]
  exact ⟨rfl, rfl⟩
theorem met_no (d : row.Nodup) {x y : Int} (h : ∀ (i : Nat) (ps : List P2), (rdsU n row)[i]? = some ps → (x, y) ∉ ps ∧ (y, x) ∉ ps) : metV (rds n row).flatten x y = .non := by
  unfold metV
  rw [if_neg fun z => ?_, if_neg fun z => ?_]
  · obtain ⟨j, qs, h1, h2⟩ := (ms_mem d _).mp ((conq_iff (ms_losers d) _ _).mp z)
    exact (h j qs h1).1 h2
  · obtain ⟨j, qs, h1, h2⟩ := (ms_mem d _).mp ((conq_iff (ms_losers d) _ _).mp z)
    exact (h j qs h1).2 h2
end
/-- the dict of rounds, while it is filled: all matches of the rounds before i, and j matches of round i -/

theorem keyP_inj {p q : P2} (h : keyP p = keyP q) : p = q := by
  unfold keyP at h
  injection h with h1 h2
  injection h2 with h2 _
  exact P2.ext' (Sum.inl.inj h1) (Sum.inl.inj h2)
def Put (U : List (List P2)) (i j : Nat) (p : P2) (k : Nat) : Prop := ∃ ps : List P2, U[k]? = some ps ∧ (k < i ∧ p ∈ ps ∨ k = i ∧ p ∈ ps.take j)
structure DueI (U : List (List P2)) (i j : Nat) (kvs : List (List Key × V)) : Prop where
  ks : ∃ qs : List P2, kvs.map (·.1) = qs.map keyP ∧ ∀ q ∈ qs, ∃ k, Put U i j q k ∨ Put U i j (q.2, q.1) k
  val : ∀ p v, valV kvs (keyP p) = some v → ∃ k : Nat, v = .int (k + 1) ∧ (Put U i j p k ∨ Put U i j (p.2, p.1) k)
  all : ∀ p k, Put U i j p k → (valV kvs (keyP p)).isSome = true ∧ (valV kvs (keyP (p.2, p.1))).isSome = true
  len : kvs.length ≤ 2 * (64 * i + j)
theorem putK_keys {kvs : List (List Key × V)} {k : List Key} {v : V} : (putK kvs k v).map (·.1) = kvs.map (·.1) ∨ (putK kvs k v).map (·.1) = kvs.map (·.1) ++ [k] := by
  unfold putK
  split
  · left
    rw [List.map_map]
    refine List.map_congr_left fun kv _ => ?_
    show (if kv.1 = k then (kv.1, v) else kv).1 = kv.1
    split <;> rfl
  · right
    rw [List.map_append]
    rfl
theorem Put.more {U : List (List P2)} {i j j' : Nat} {p : P2} {k : Nat} (h : Put U i j p k) (hj : j ≤ j') : Put U i j' p k := by
  obtain ⟨ps, h1, h2⟩ := h
  refine ⟨ps, h1, ?_⟩
  rcases h2 with z | z
  · exact .inl z
  · exact .inr ⟨z.1, (List.take_subset_take_left ps hj) z.2⟩
theorem Put.none {U : List (List P2)} {p : P2} {k : Nat} (h : Put U 0 0 p k) : False := by
  obtain ⟨ps, _, h⟩ := h
  rcases h with ⟨h, _⟩ | ⟨_, h⟩
  · omega
  · rw [List.take_zero] at h
    cases h
theorem DueI.start (U : List (List P2)) : DueI U 0 0 [] :=
  ⟨⟨[], rfl, fun _ h => by cases h⟩, (fun _ _ h => by cases h), (fun _ _ h => (Put.none h).elim), Nat.zero_le _⟩
theorem DueI.put {U : List (List P2)} {i j : Nat} {kvs : List (List Key × V)} {ps : List P2} {x y : Int} (D : DueI U i j kvs) (hU : U[i]? = some ps) (hp : ps[j]? = some (x, y)) :
    DueI U i (j + 1) (putK (putK kvs (keyP (x, y)) (.int (i + 1))) (keyP (y, x)) (.int (i + 1))) := by
  have tk : ps.take (j + 1) = ps.take j ++ [(x, y)] := by rw [List.take_add_one, hp]; rfl
  have new : Put U i (j + 1) (x, y) i := ⟨ps, hU, .inr ⟨rfl, by rw [tk]; exact List.mem_append_right _ (by simp)⟩⟩
  have wide : ∀ {q k}, (Put U i j q k ∨ Put U i j (q.2, q.1) k) → (Put U i (j + 1) q k ∨ Put U i (j + 1) (q.2, q.1) k) := fun h => h.imp (·.more (Nat.le_succ _)) (·.more (Nat.le_succ _))
  have old : ∀ {q k}, Put U i (j + 1) q k → q = (x, y) ∨ Put U i j q k := fun {q k} ⟨rs, h1, h2⟩ => by
    rcases h2 with z | z
    · exact .inr ⟨rs, h1, .inl z⟩
    · obtain ⟨z1, z2⟩ := z
      subst z1
      rw [hU] at h1
      cases h1
      rw [tk] at z2
      rcases List.mem_append.mp z2 with u | u
      · exact .inr ⟨ps, hU, .inr ⟨rfl, u⟩⟩
      · exact .inl (List.mem_singleton.mp u)
  refine ⟨?_, fun p v h => ?_, fun p k h => ?_, ?_⟩
  · obtain ⟨qs, e, hq⟩ := D.ks
    have s1 : ∃ qs : List P2, (putK kvs (keyP (x, y)) (.int (i + 1))).map (·.1) = qs.map keyP ∧ ∀ q ∈ qs, ∃ k, Put U i (j + 1) q k ∨ Put U i (j + 1) (q.2, q.1) k := by
      rcases putK_keys (kvs := kvs) (k := keyP (x, y)) (v := V.int (i + 1)) with z | z
      · exact ⟨qs, z.trans e, fun q h => let ⟨k, h⟩ := hq q h; ⟨k, wide h⟩⟩
      · refine ⟨qs ++ [(x, y)], by rw [z, e, List.map_append]; rfl, fun q h => ?_⟩
        rcases List.mem_append.mp h with h | h
        · exact let ⟨k, h⟩ := hq q h; ⟨k, wide h⟩
        · rw [List.mem_singleton.mp h]; exact ⟨i, .inl new⟩
    obtain ⟨qs, e, hq⟩ := s1
    rcases putK_keys (kvs := putK kvs (keyP (x, y)) (.int (i + 1))) (k := keyP (y, x)) (v := V.int (i + 1)) with z | z
    · exact ⟨qs, z.trans e, hq⟩
    · refine ⟨qs ++ [(y, x)], by rw [z, e, List.map_append]; rfl, fun q h => ?_⟩
      rcases List.mem_append.mp h with h | h
      · exact hq q h
      · rw [List.mem_singleton.mp h]; exact ⟨i, .inr new⟩
  · rw [valV_put] at h
    by_cases c : keyP p = keyP (y, x)
    · rw [if_pos c] at h
      cases h
      rw [keyP_inj c]
      exact ⟨i, rfl, .inr new⟩
    · rw [if_neg c, valV_put] at h
      by_cases c2 : keyP p = keyP (x, y)
      · rw [if_pos c2] at h
        cases h
        rw [keyP_inj c2]
        exact ⟨i, rfl, .inl new⟩
      · rw [if_neg c2] at h
        obtain ⟨k, e, h⟩ := D.val p v h
        exact ⟨k, e, wide h⟩
  · have some_of : ∀ q : P2, (q = (x, y) ∨ q = (y, x) ∨ (valV kvs (keyP q)).isSome = true) → (valV (putK (putK kvs (keyP (x, y)) (.int (i + 1))) (keyP (y, x)) (.int (i + 1))) (keyP q)).isSome = true := by
      intro q hq
      rw [valV_put]
      by_cases c : keyP q = keyP (y, x)
      · rw [if_pos c]; rfl
      · rw [if_neg c, valV_put]
        by_cases c2 : keyP q = keyP (x, y)
        · rw [if_pos c2]; rfl
        · rw [if_neg c2]
          rcases hq with z | z | z
          · exact absurd (congrArg keyP z) c2
          · exact absurd (congrArg keyP z) c
          · exact z
    rcases old h with z | z
    · subst z
      exact ⟨some_of _ (.inl rfl), some_of _ (.inr (.inl rfl))⟩
    · have := D.all p k z
      exact ⟨some_of _ (.inr (.inr this.1)), some_of _ (.inr (.inr this.2))⟩
  · have h1 := length_putK kvs (keyP (x, y)) (.int (i + 1))
    have h2 := length_putK (putK kvs (keyP (x, y)) (.int (i + 1))) (keyP (y, x)) (.int (i + 1))
    have h3 := D.len
    omega
theorem Put.next {U : List (List P2)} {i : Nat} {ps : List P2} {p : P2} {k : Nat} (hU : U[i]? = some ps) : Put U i ps.length p k ↔ Put U (i + 1) 0 p k := by
  constructor
  · rintro ⟨qs, h1, h2⟩
    rcases h2 with ⟨z, u⟩ | ⟨z, u⟩
    · exact ⟨qs, h1, .inl ⟨by omega, u⟩⟩
    · subst z
      rw [hU] at h1
      cases h1
      rw [List.take_length] at u
      exact ⟨ps, hU, .inl ⟨Nat.lt_succ_self _, u⟩⟩
  · rintro ⟨qs, h1, h2⟩
    rcases h2 with ⟨z, u⟩ | ⟨z, u⟩
    · by_cases c : k = i
      · subst c
        rw [hU] at h1
        cases h1
        exact ⟨ps, hU, .inr ⟨rfl, by rw [List.take_length]; exact u⟩⟩
      · exact ⟨qs, h1, .inl ⟨by omega, u⟩⟩
    · rw [List.take_zero] at u
      cases u
theorem DueI.next {U : List (List P2)} {i : Nat} {ps : List P2} {kvs : List (List Key × V)} (hU : U[i]? = some ps) (hl : ps.length ≤ 64) (D : DueI U i ps.length kvs) : DueI U (i + 1) 0 kvs :=
  ⟨let ⟨qs, e, h⟩ := D.ks; ⟨qs, e, fun q hq => let ⟨k, z⟩ := h q hq; ⟨k, z.imp (Put.next hU).mp (Put.next hU).mp⟩⟩,
    fun p v h => let ⟨k, e, z⟩ := D.val p v h; ⟨k, e, z.imp (Put.next hU).mp (Put.next hU).mp⟩, fun p k h => D.all p k ((Put.next hU).mpr h), by have := D.len; omega⟩
theorem DueI.met {n : Nat} {row : List Int} {kvs : List (List Key × V)} (d : row.Nodup) (e : row.length = 2 ^ n) (D : DueI (rdsU n row) n 0 kvs) (x y : Int) : (valV kvs (keyP (x, y))).getD .non = metV (rds n row).flatten x y := by
  have get : ∀ {p k}, Put (rdsU n row) n 0 p k → ∃ ps, (rdsU n row)[k]? = some ps ∧ p ∈ ps := by
    rintro p k ⟨ps, h1, h2⟩
    rcases h2 with ⟨_, u⟩ | ⟨_, u⟩
    · exact ⟨ps, h1, u⟩
    · rw [List.take_zero] at u; cases u
  cases h : valV kvs (keyP (x, y)) with
  | some v =>
    obtain ⟨k, rfl, z⟩ := D.val _ _ h
    rcases z with z | z
    · obtain ⟨ps, h1, h2⟩ := get z
      exact (met_yes d e h1 h2).1.symm
    · obtain ⟨ps, h1, h2⟩ := get z
      exact (met_yes d e h1 h2).2.symm
  | none =>
    refine (met_no d fun k ps h1 => ?_).symm
    have hk : k < n := by
      have := (List.getElem?_eq_some_iff.mp h1).1
      rw [rdsU_len] at this
      exact this
    constructor
    · intro u
      have := (D.all _ k ⟨ps, h1, .inl ⟨hk, u⟩⟩).1
      rw [h] at this
      cases this
    · intro u
      have := (D.all _ k ⟨ps, h1, .inl ⟨hk, u⟩⟩).2
      rw [h] at this
      cases this
theorem DueI.keys {n : Nat} {row : List Int} {kvs : List (List Key × V)} (D : DueI (rdsU n row) n 0 kvs) : ∃ qs : List P2, kvs.map (·.1) = qs.map keyP ∧ ∀ q ∈ qs, q.1 ∈ row ∧ q.2 ∈ row := by
  obtain ⟨qs, e, h⟩ := D.ks
  refine ⟨qs, e, fun q hq => ?_⟩
  obtain ⟨k, z⟩ := h q hq
  rcases z with ⟨ps, h1, ⟨_, u⟩ | ⟨_, u⟩⟩ | ⟨ps, h1, ⟨_, u⟩ | ⟨_, u⟩⟩
  · exact rdsU_mem (List.mem_of_getElem? h1) _ u
  · rw [List.take_zero] at u; cases u
  · exact (rdsU_mem (List.mem_of_getElem? h1) _ u).symm
  · rw [List.take_zero] at u; cases u
/-- the feed: three ints -/
def FeedAt (H : Hp) (f : Addr) : Prop := ∃ a b c : Int, H f = some (.lst [.int a, .int b, .int c])
theorem FeedAt.ext {H H' : Hp} {f : Addr} (h : FeedAt H f) (e : Same H H') : FeedAt H' f := let ⟨a, b, c, h⟩ := h; ⟨a, b, c, e _ _ h⟩
theorem FeedAt.ex {H : Hp} {f : Addr} (h : FeedAt H f) : H f ≠ none := by
  obtain ⟨a, b, c, h⟩ := h
  rw [h]
  exact fun z => nomatch z
theorem FeedAt.free {H H' : Hp} {f q : Addr} (h : FeedAt H' f) (b : But f H H') (n : H' q = none) : H q = none := let ⟨_, _, _, h⟩ := h; b.free h n
theorem FeedAt.talkless {H H' : Hp} {f m : Addr} (h : FeedAt H f) (b : But m H H') (n : f ≠ m) : FeedAt H' f := let ⟨x, y, z, h⟩ := h; ⟨x, y, z, b _ _ n h⟩
/-- a feed is no list of pairs, nor a talk, nor a tuple -/
theorem FeedAt.neP {H : Hp} {f l : Addr} {xs : List V} {ps : List P2} (h : FeedAt H f) (hl : H l = some (.lst xs)) (hp : Prs H xs ps) : l ≠ f := by
  obtain ⟨a, b, c, h⟩ := h
  intro e
  subst e
  rw [hl] at h
  cases h
  cases hp with
  | cons q _ => obtain ⟨t, e, _⟩ := q; cases e
theorem FeedAt.pl {H H' : Hp} {f l : Addr} {ps : List P2} (h : FeedAt H f) (b : But f H H') (hl : PL H l ps) : PL H' l ps := by
  obtain ⟨xs, h1, h2⟩ := hl
  have n := h.neP h1 h2
  obtain ⟨x, y, z, hf⟩ := h
  exact ⟨xs, b _ _ n h1, b.prs hf h2⟩
theorem eraseI_perm : ∀ {ls : List Int} {j : Nat} {p : Int}, ls[j]? = some p → (p :: ls.eraseIdx j).Perm ls
  | [], _, _, h => by cases h
  | x :: ls, 0, p, h => by
    cases h
    exact .refl _
  | x :: ls, j + 1, p, h => (List.Perm.swap x p _).trans (.cons x (eraseI_perm (ls := ls) (j := j) h))
theorem shuffleI_perm {ls fs ps : List Int} {j : Nat} {p : Int} (h : ls[j]? = some p) (e : (ls ++ fs).Perm ps) : (ls.eraseIdx j ++ (fs ++ [p])).Perm ps := by
  refine List.Perm.trans ?_ e
  rw [← List.append_assoc]
  refine List.perm_append_comm.trans ?_
  show (p :: (ls.eraseIdx j ++ fs)).Perm (ls ++ fs)
  rw [← List.cons_append]
  exact (eraseI_perm h).append_right fs
theorem map_erase {α β : Type} (f : α → β) : ∀ (l : List α) (j : Nat), (l.map f).eraseIdx j = (l.eraseIdx j).map f
  | [], _ => rfl
  | _ :: _, 0 => rfl
  | x :: r, j + 1 => by
    show f x :: (r.map f).eraseIdx j = f x :: (r.eraseIdx j).map f
    rw [map_erase f r j]
theorem r_revL {K : PySem.W.Frag} {te : TE} {σ : L2.St} {H : Hp} {Q : VK} (h : te σ H fun x H1 => ∃ a xs, x = .ref a ∧ SqL K H1 a xs ∧ ∀ p, H1 p = none → Q (.ref p) (upd H1 p (.lst xs.reverse))) : tRevL K te σ H Q := h
def rowOf (n : Nat) : List Int := (List.range (2 ^ n)).map Int.ofNat
theorem rgV_row (n : Nat) : rgV 0 ((2 ^ n : Nat) : Int) = (rowOf n).map V.int := by
  unfold rgV rowOf
  rw [List.map_map]
  rw [Int.sub_zero, Int.toNat_natCast]
  refine List.map_congr_left fun i _ => ?_
  show V.int (0 + (i : Int)) = V.int (Int.ofNat i)
  rw [Int.zero_add]
  rfl
theorem isLs_feed {H G : Hp} {f : Addr} (b : But f H G) (hf : FeedAt H f) : ∀ {vs : List V} {pss : List (List P2)}, Paired (IsL H) vs pss → Paired (IsL G) vs pss := fun p => L2.Paired.mapP p fun _ _ ⟨x, e, hx⟩ => ⟨x, e, hf.pl b hx⟩
theorem CupR.but {C : Addr} {H G : Hp} {c o r q b f : Addr} {row : List Int} {n : Nat} (h : CupR C H c o r q b row n) (bf : But f H G) (hf : FeedAt H f) (n1 : o ≠ f) (n2 : r ≠ f) (n3 : q ≠ f) (n4 : b ≠ f)
    (na : ∀ as : List Addr, H b = some (.lst (as.map V.ref)) → ∀ x ∈ as, x ≠ f) : CupR C G c o r q b row n := by
  obtain ⟨dx, fs, e1, e2⟩ := h.at_
  obtain ⟨vs, v1, v2⟩ := h.rnd
  obtain ⟨as, a1, a2, a3, a4, a5⟩ := h.bt.ex
  obtain ⟨_, _, _, hf0⟩ := id hf
  exact ⟨⟨dx, fs, bf _ _ (Ne.symm (ne_insL e1 hf0)) e1, e2⟩, bf _ _ n1 h.ord, ⟨vs, bf _ _ n2 v1, isLs_feed bf hf v2⟩, bf _ _ n3 h.cq, ⟨as, bf _ _ n4 a1, a2, a3, a4, fun i x hx => bf _ _ (na as a1 x (List.mem_of_getElem? hx)) (a5 i x hx)⟩⟩
/-- what metV tells can be shown -/
theorem met_data {n : Nat} {row : List Int} (d : row.Nodup) (e : row.length = 2 ^ n) (hn : n ≤ 6) (x y : Int) : ∃ d : PyData, ShowsD d ∧ ∀ (K : PySem.W.Frag) (H : Hp), Dp K H (metV (rds n row).flatten x y) d := by
  by_cases h : ∃ (i : Nat) (ps : List P2), (rdsU n row)[i]? = some ps ∧ ((x, y) ∈ ps ∨ (y, x) ∈ ps)
  · obtain ⟨i, ps, h1, h2⟩ := h
    have hi : i < n := by
      have := (List.getElem?_eq_some_iff.mp h1).1
      rw [rdsU_len] at this
      exact this
    have m : metV (rds n row).flatten x y = .int ((i : Int) + 1) := by
      rcases h2 with h2 | h2
      · exact (met_yes d e h1 h2).1
      · exact (met_yes d e h1 h2).2
    rw [m]
    refine ⟨.int ((i : Int) + 1), ⟨?_, rfl, by simp [PyData.depth], ?_⟩, fun _ _ => .int _⟩
    · have := small_log (i := (i : Int) + 1) (by omega) (by omega)
      show decide (((i : Int) + 1).natAbs.log2 < 1920) = true
      rw [decide_eq_true (by omega)]
    · have := small_show (i := (i : Int) + 1) (by omega) (by omega)
      have := line_big
      omega
  · have m : metV (rds n row).flatten x y = .non := met_no d fun i ps h1 => ⟨fun z => h ⟨i, ps, h1, .inl z⟩, fun z => h ⟨i, ps, h1, .inr z⟩⟩
    rw [m]
    exact ⟨.none, ⟨rfl, rfl, by decide, by rw [sizeLine_eq]; decide⟩, fun _ _ => .non⟩
theorem met_symm {n : Nat} {row : List Int} (d : row.Nodup) (e : row.length = 2 ^ n) (x y : Int) : metV (rds n row).flatten x y = metV (rds n row).flatten y x := by
  by_cases h : ∃ (i : Nat) (ps : List P2), (rdsU n row)[i]? = some ps ∧ ((x, y) ∈ ps ∨ (y, x) ∈ ps)
  · obtain ⟨i, ps, h1, h2⟩ := h
    rcases h2 with h2 | h2
    · rw [(met_yes d e h1 h2).1, (met_yes d e h1 h2).2]
    · rw [(met_yes d e h1 h2).1, (met_yes d e h1 h2).2]
  · rw [met_no d fun i ps h1 => ⟨fun z => h ⟨i, ps, h1, .inl z⟩, fun z => h ⟨i, ps, h1, .inr z⟩⟩, met_no d fun i ps h1 => ⟨fun z => h ⟨i, ps, h1, .inr z⟩, fun z => h ⟨i, ps, h1, .inl z⟩⟩]
theorem ifM {b : Bool} {t : Prop} {D : Ends} {σ : L2.St} {H : Hp} (M : L2.St → Hp → Prop) (fin : ∀ σ' H', M σ' H' → D.nx σ' H') (h1 : b = true → (∀ σ' H', M σ' H' → D.nx σ' H') → t) (h2 : b = false → M σ H) : if b = true then t else tNext D σ H := by
  cases b
  · rw [if_neg Bool.false_ne_true]; exact fin _ _ (h2 rfl)
  · rw [if_pos rfl]; exact h1 rfl fin
def InRow (row : List Int) (ps : List P2) : Prop := ∀ p ∈ ps, p.1 ∈ row ∧ p.2 ∈ row
theorem rowOf_mem {n : Nat} {x : Int} : x ∈ rowOf n ↔ 0 ≤ x ∧ x < (2 ^ n : Nat) := by
  unfold rowOf
  rw [List.mem_map]
  constructor
  · rintro ⟨k, hk, rfl⟩
    have := List.mem_range.mp hk
    show 0 ≤ (k : Int) ∧ (k : Int) < _
    omega
  · rintro ⟨h0, h1⟩
    exact ⟨x.toNat, List.mem_range.mpr (by omega), by show ((x.toNat : Nat) : Int) = x; omega⟩
theorem rowOf_nodup (n : Nat) : (rowOf n).Nodup := List.pairwise_map.mpr ((List.nodup_range (n := 2 ^ n)).imp fun {a b} h z => h (Int.ofNat.inj z))
theorem ex_met : ([(0, 2), (3, 2), (0, 1), (1, 1)] : List P2).map (fun p => metV (rds 2 [2, 0, 3, 1]).flatten p.1 p.2) = [.int 1, .int 2, .non, .non] := by decide
/-- what of a cup is new -/
structure CupF (H H' : Hp) (o r q b : Addr) : Prop where
  fo : H o = none
  fr : H r = none
  fq : H q = none
  fb : H b = none
  fas : ∀ as : List Addr, H' b = some (.lst (as.map V.ref)) → ∀ x ∈ as, H x = none
  frs : ∀ vs, H' r = some (.lst vs) → ∀ x : Addr, V.ref x ∈ vs → H x = none
theorem CupF.free {H H1 H' : Hp} {o r q b : Addr} (h : CupF H1 H' o r q b) (f : ∀ x, H1 x = none → H x = none) : CupF H H' o r q b := ⟨f _ h.fo, f _ h.fr, f _ h.fq, f _ h.fb, fun as e x hx => f _ (h.fas as e x hx), fun vs e x hx => f _ (h.frs vs e x hx)⟩
/-- what is no part of a cup may change -/
theorem CupR.frame {S : Addr → Prop} {C : Addr} {H0 H G : Hp} {c o r q b : Addr} {row : List Int} {n : Nat} (h : CupR C H c o r q b row n) (F : CupF H0 H o r q b) (e : ∀ a u, ¬ S a → H a = some u → G a = some u) (hc : ¬ S c) (hs : ∀ a, S a → H0 a ≠ none) (ht : ∀ a xs, S a → H a ≠ some (.tup xs)) : CupR C G c o r q b row n := by
  have nf : ∀ {x}, H0 x = none → ¬ S x := fun h0 s => hs _ s h0
  obtain ⟨dx, fs, e1, e2⟩ := h.at_
  obtain ⟨vs, v1, v2⟩ := h.rnd
  obtain ⟨as, a1, a2, a3, a4, a5⟩ := h.bt.ex
  refine ⟨⟨dx, fs, e _ _ hc e1, e2⟩, e _ _ (nf F.fo) h.ord, ⟨vs, e _ _ (nf F.fr) v1, ?_⟩, e _ _ (nf F.fq) h.cq, ⟨as, e _ _ (nf F.fb) a1, a2, a3, a4, fun i x hx => e _ _ (nf (F.fas as a1 x (List.mem_of_getElem? hx))) (a5 i x hx)⟩⟩
  have fr := F.frs vs v1
  have go : ∀ {ws : List V} {pss : List (List P2)}, (∀ x : Addr, V.ref x ∈ ws → H0 x = none) → Paired (IsL H) ws pss → Paired (IsL G) ws pss := by
    intro ws pss hw p
    induction p with
    | nil => exact .nil
    | cons h t ih =>
      obtain ⟨x, e0, xs, h1, h2⟩ := h
      subst e0
      refine .cons ⟨x, rfl, xs, e _ _ (nf (hw x List.mem_cons_self)) h1, L2.Paired.mapP h2 fun _ _ ⟨t, e3, e4⟩ => ⟨t, e3, e _ _ (fun s => ht _ _ s e4) e4⟩⟩ (ih fun x hx => hw x (List.mem_cons_of_mem _ hx))
  exact go fr v2
end Ct
end
section
set_option Elab.async false
set_option linter.all false
set_option maxRecDepth 100000
/-! Rounds lead back to their order. -/
namespace Ct
open PySem L2
theorem perm_of_map {α β : Type} {f : α → β} {us vs : List β} (h : us.Perm vs) : ∀ {xs : List α}, vs = xs.map f → ∃ zs : List α, us = zs.map f ∧ zs.Perm xs := by
  induction h with
  | nil =>
    intro xs e
    cases xs with
    | nil => exact ⟨[], rfl, .refl _⟩
    | cons x r => cases e
  | @cons a l1 l2 _ ih =>
    intro xs e
    cases xs with
    | nil => cases e
    | cons x r =>
      rw [List.map_cons] at e
      obtain ⟨e1, e2⟩ := List.cons.inj e
      obtain ⟨zs, z1, z2⟩ := ih e2
      exact ⟨x :: zs, by rw [List.map_cons, ← e1, ← z1], z2.cons x⟩
  | swap a b l =>
    intro xs e
    match xs, e with
    | x :: y :: r, e =>
      rw [List.map_cons, List.map_cons] at e
      obtain ⟨e1, e2⟩ := List.cons.inj e
      obtain ⟨e3, e4⟩ := List.cons.inj e2
      exact ⟨y :: x :: r, by rw [List.map_cons, List.map_cons, ← e1, ← e3, ← e4], .swap x y r⟩
  | trans _ _ ih1 ih2 =>
    intro xs e
    obtain ⟨zs, z1, z2⟩ := ih2 e
    obtain ⟨ws, w1, w2⟩ := ih1 z1
    exact ⟨ws, w1, w2.trans z2⟩
def lv : Nat → List Int → List Int
  | 0, l => l
  | i + 1, l => lv i (evens l)
theorem lv_succ : ∀ (i : Nat) (l : List Int), lv (i + 1) l = evens (lv i l)
  | 0, l => rfl
  | i + 1, l => by
    show lv (i + 1) (evens l) = evens (lv i (evens l))
    rw [lv_succ i (evens l)]
theorem evens_half {α : Type} {l : List α} {k : Nat} (h : l.length = 2 * k) : (evens l).length = k := by
  rw [evens_len, h]; omega
theorem lv_len : ∀ {i n : Nat} {l : List Int}, i ≤ n → l.length = 2 ^ n → (lv i l).length = 2 ^ (n - i)
  | 0, n, l, _, h => h
  | i + 1, 0, l, h, _ => by omega
  | i + 1, n + 1, l, hi, h => by
    show (lv i (evens l)).length = _
    rw [lv_len (i := i) (n := n) (by omega) (evens_half (by rw [h, Nat.pow_succ]; omega))]
    congr 1
    omega
theorem lv_nodup : ∀ {i : Nat} {l : List Int}, l.Nodup → (lv i l).Nodup
  | 0, l, h => h
  | i + 1, l, h => lv_nodup (i := i) ((evens_sub l).nodup h)
theorem lv_mem : ∀ {i : Nat} {l : List Int} {x : Int}, x ∈ lv i l → x ∈ l
  | 0, l, x, h => h
  | i + 1, l, x, h => (evens_sub l).subset (lv_mem (i := i) h)
theorem evens_head {l : List Int} {x : Int} (h : l[0]? = some x) : (evens l)[0]? = some x := by
  match l, h with
  | [y], h => exact h
  | y :: z :: r, h => exact h
theorem lv_head : ∀ {i : Nat} {l : List Int} {x : Int}, l[0]? = some x → (lv i l)[0]? = some x
  | 0, l, x, h => h
  | i + 1, l, x, h => lv_head (i := i) (evens_head h)
theorem rdsU_at : ∀ {n i : Nat} {l : List Int}, i < n → (rdsU n l)[i]? = some (pairsOf (lv i l))
  | 0, i, l, h => by omega
  | n + 1, 0, l, h => rfl
  | n + 1, i + 1, l, h => by
    show (rdsU n (evens l))[i]? = some (pairsOf (lv i (evens l)))
    exact rdsU_at (by omega)
theorem lv_last {n : Nat} {l : List Int} {x : Int} (h : l.length = 2 ^ n) (hx : l[0]? = some x) : lv n l = [x] := by
  have h1 := lv_len (i := n) (Nat.le_refl n) h
  rw [Nat.sub_self] at h1
  have h2 := lv_head (i := n) hx
  match e : lv n l, h1, h2 with
  | [y], _, h2 => cases h2; rfl
/-- all players of some matches -/
def plrs (ps : List P2) : List Int := ps.flatMap fun p => [p.1, p.2]
theorem plrs_snoc (ps : List P2) (p : P2) : plrs (ps ++ [p]) = plrs ps ++ [p.1, p.2] := by
  unfold plrs
  rw [List.flatMap_append]
  rfl
theorem plrs_perm {a b : List P2} (h : a.Perm b) : (plrs a).Perm (plrs b) := List.Perm.flatMap_right _ h
theorem plrs_pairs : ∀ {l : List Int} {k : Nat}, l.length = 2 * k → plrs (pairsOf l) = l
  | [], k, _ => rfl
  | [x], k, h => by
    have h' : 1 = 2 * k := h
    omega
  | x :: y :: r, k, h => by
    have h' : r.length + 2 = 2 * k := h
    show x :: y :: plrs (pairsOf r) = x :: y :: r
    rw [plrs_pairs (l := r) (k := k - 1) (by omega)]
theorem wins_pairs : ∀ {l : List Int} {k : Nat}, l.length = 2 * k → (pairsOf l).map (·.1) = evens l
  | [], k, _ => rfl
  | [x], k, h => by
    have h' : 1 = 2 * k := h
    omega
  | x :: y :: r, k, h => by
    have h' : r.length + 2 = 2 * k := h
    show x :: (pairsOf r).map (·.1) = x :: evens r
    rw [wins_pairs (l := r) (k := k - 1) (by omega)]
theorem isort_perm_eq {a b : List Int} (h : a.Perm b) : isort a = isort b := sorted_one ((isort_perm a).trans (h.trans (isort_perm b).symm)) (isort_le a) (isort_le b)
theorem isort_row {n : Nat} {row : List Int} (h : row.Perm (rowOf n)) : isort row = rowOf n := by
  refine sorted_one ((isort_perm row).trans h) (isort_le row) ?_
  unfold rowOf
  refine List.pairwise_map.mpr ?_
  exact List.pairwise_lt_range.imp fun {a b} h => by
    show (a : Int) ≤ (b : Int)
    omega
/-- the parts of the order, by who leads them -/
def stepP (P : Int → List Int) (p : P2) : Int → List Int := fun x => if x = p.1 then P p.1 ++ P p.2 else P x
def runP (P : Int → List Int) (ps : List P2) : Int → List Int := ps.foldl stepP P
theorem runP_snoc (P : Int → List Int) (ps : List P2) (p : P2) : runP P (ps ++ [p]) = stepP (runP P ps) p := by
  unfold runP
  rw [List.foldl_append]
  rfl
theorem runP_app (P : Int → List Int) (a b : List P2) : runP P (a ++ b) = runP (runP P a) b := List.foldl_append
theorem runP_all : ∀ {ps : List P2} {P : Int → List Int}, (plrs ps).Nodup → (∀ p ∈ ps, runP P ps p.1 = P p.1 ++ P p.2) ∧ ∀ z, z ∉ ps.map (·.1) → runP P ps z = P z
  | [], P, _ => ⟨fun p h => (by cases h), fun z _ => rfl⟩
  | p :: ps, P, h => by
    have h' : (p.1 :: p.2 :: plrs ps).Nodup := h
    obtain ⟨n1, h2⟩ := List.nodup_cons.mp h'
    obtain ⟨n2, h3⟩ := List.nodup_cons.mp h2
    obtain ⟨i1, i2⟩ := runP_all (ps := ps) (P := stepP P p) h3
    have inn : ∀ q ∈ ps, q.1 ∈ plrs ps ∧ q.2 ∈ plrs ps := fun q hq => ⟨List.mem_flatMap.mpr ⟨q, hq, by simp⟩, List.mem_flatMap.mpr ⟨q, hq, by simp⟩⟩
    refine ⟨fun q hq => ?_, fun z hz => ?_⟩
    · show runP (stepP P p) ps q.1 = _
      rcases List.mem_cons.mp hq with e | hq
      · subst e
        rw [i2 _ (fun z => ?_)]
        · unfold stepP
          rw [if_pos rfl]
        · obtain ⟨u, hu, e⟩ := List.mem_map.mp z
          exact n1 (List.mem_cons_of_mem _ (e ▸ (inn u hu).1))
      · have a1 : q.1 ≠ p.1 := fun e => n1 (List.mem_cons_of_mem _ (e ▸ (inn q hq).1))
        have a2 : q.2 ≠ p.1 := fun e => n1 (List.mem_cons_of_mem _ (e ▸ (inn q hq).2))
        rw [i1 q hq]
        unfold stepP
        rw [if_neg a1, if_neg a2]
    · rw [List.map_cons, List.mem_cons, not_or] at hz
      show runP (stepP P p) ps z = _
      rw [i2 z hz.2]
      unfold stepP
      rw [if_neg hz.1]
structure Lev (P : Int → List Int) (L : List Int) (j : Nat) (row : List Int) : Prop where
  all : (L.map P).flatten = row
  len : ∀ x ∈ L, (P x).length = 2 ^ j
  out : ∀ z ∈ row, z ∉ L → (P z).length < 2 ^ j
theorem lev_start (row : List Int) : Lev (fun i => [i]) row 0 row := by
  refine ⟨?_, fun x _ => rfl, fun z h n => absurd h n⟩
  induction row with
  | nil => rfl
  | cons x r ih =>
    rw [List.map_cons, List.flatten_cons, ih]
    rfl
theorem flat_half {P P' : Int → List Int} : ∀ {l : List Int} {k : Nat}, l.length = 2 * k → (∀ p ∈ pairsOf l, P' p.1 = P p.1 ++ P p.2) → ((evens l).map P').flatten = (l.map P).flatten
  | [], k, _, _ => rfl
  | [x], k, h, _ => by
    have h' : 1 = 2 * k := h
    omega
  | x :: y :: r, k, h, hp => by
    have h' : r.length + 2 = 2 * k := h
    show P' x ++ ((evens r).map P').flatten = P x ++ (P y ++ (r.map P).flatten)
    rw [flat_half (l := r) (k := k - 1) (by omega) fun p q => hp p (List.mem_cons_of_mem _ q), hp (x, y) List.mem_cons_self, List.append_assoc]
theorem Lev.step {P : Int → List Int} {L row : List Int} {j k : Nat} {ps : List P2} (h : Lev P L j row) (hl : L.length = 2 * k) (hd : L.Nodup) (hp : ps.Perm (pairsOf L)) : Lev (runP P ps) (evens L) (j + 1) row := by
  have nd : (plrs ps).Nodup := (plrs_perm hp).nodup_iff.mpr (by rw [plrs_pairs hl]; exact hd)
  obtain ⟨r1, r2⟩ := runP_all (P := P) nd
  have r1' : ∀ p ∈ pairsOf L, runP P ps p.1 = P p.1 ++ P p.2 := fun p q => r1 p (hp.mem_iff.mpr q)
  have w : ∀ z, z ∉ evens L → z ∉ ps.map (·.1) := fun z n q => n (by
    rw [← wins_pairs hl]
    exact (hp.map _).mem_iff.mp q)
  refine ⟨(flat_half hl r1').trans h.all, fun x hx => ?_, fun z hz n => ?_⟩
  · rw [← wins_pairs hl] at hx
    obtain ⟨p, hpm, rfl⟩ := List.mem_map.mp hx
    have m := pairsOf_fst p hpm
    rw [r1' p hpm, List.length_append, h.len _ m.1, h.len _ m.2, Nat.pow_succ]
    omega
  · rw [r2 z (w z n)]
    by_cases c : z ∈ L
    · rw [h.len z c, Nat.pow_succ]
      have := Nat.one_le_two_pow (n := j)
      omega
    · have := h.out z hz c
      rw [Nat.pow_succ]
      omega
theorem cur_len {P : Int → List Int} {L row : List Int} {j k i : Nat} {ps : List P2} {p : P2} (h : Lev P L j row) (hl : L.length = 2 * k) (hd : L.Nodup) (hp : ps.Perm (pairsOf L)) (hi : ps[i]? = some p) :
    (runP P (ps.take i) p.1).length = 2 ^ j ∧ (runP P (ps.take i) p.2).length = 2 ^ j ∧ p.1 ∈ L ∧ p.2 ∈ L := by
  have nd : (plrs ps).Nodup := (plrs_perm hp).nodup_iff.mpr (by rw [plrs_pairs hl]; exact hd)
  have sp : ps = ps.take i ++ p :: ps.drop (i + 1) := by
    obtain ⟨hlt, e⟩ := List.getElem?_eq_some_iff.mp hi
    conv => lhs; rw [← List.take_append_drop i ps]
    rw [List.drop_eq_getElem_cons hlt, e]
  have nd2 : (plrs (ps.take i) ++ plrs (p :: ps.drop (i + 1))).Nodup := by
    unfold plrs at nd ⊢
    rw [sp, List.flatMap_append] at nd
    exact nd
  obtain ⟨n1, n2, n3⟩ := List.nodup_append.mp nd2
  have m1 : p.1 ∈ plrs (p :: ps.drop (i + 1)) := List.mem_flatMap.mpr ⟨p, List.mem_cons_self, by simp⟩
  have m2 : p.2 ∈ plrs (p :: ps.drop (i + 1)) := List.mem_flatMap.mpr ⟨p, List.mem_cons_self, by simp⟩
  have out : ∀ z, z ∈ plrs (p :: ps.drop (i + 1)) → z ∉ (ps.take i).map (·.1) := fun z hz q => by
    obtain ⟨u, hu, e⟩ := List.mem_map.mp q
    exact n3 u.1 (List.mem_flatMap.mpr ⟨u, hu, by simp⟩) z hz e
  have r2 := (runP_all (P := P) n1).2
  have hm := pairsOf_fst p (hp.mem_iff.mp (List.mem_of_getElem? hi))
  rw [r2 _ (out _ m1), r2 _ (out _ m2), h.len _ hm.1, h.len _ hm.2]
  exact ⟨rfl, rfl, hm.1, hm.2⟩
abbrev PmL : List (List P2) → List (List P2) → Prop := Paired fun a b => a.Perm b
theorem pml_at : ∀ {a b : List (List P2)} {i : Nat} {ps : List P2}, PmL a b → a[i]? = some ps → ∃ qs, b[i]? = some qs ∧ ps.Perm qs
  | _, _, _, _, .nil, h => by cases h
  | _, _, 0, _, .cons h _, e => by
    cases e
    exact ⟨_, rfl, h⟩
  | _, _, i + 1, _, .cons _ t, e => pml_at (i := i) t e
theorem pml_rds : ∀ (n : Nat) {l : List Int}, l.Nodup → PmL (rds n l) (rdsU n l)
  | 0, l, _ => .nil
  | n + 1, l, d => .cons (by rw [← psort_nodup (pairsOf_nodup d)]; exact psort_perm _) (pml_rds n ((evens_sub l).nodup d))
section
variable {n : Nat} {row : List Int} {rs : List (List P2)}
theorem half_lv {i : Nat} (hi : i < n) (hl : row.length = 2 ^ n) : (lv i row).length = 2 * 2 ^ (n - (i + 1)) := by
  rw [lv_len (by omega) hl, show n - i = n - (i + 1) + 1 by omega, Nat.pow_succ]
  omega
/-- round i of rounds in any sequence -/
theorem rnd_at (h : PmL rs (rdsU n row)) {i : Nat} {ps : List P2} (e : rs[i]? = some ps) : i < n ∧ ps.Perm (pairsOf (lv i row)) := by
  obtain ⟨qs, e1, p⟩ := pml_at h e
  have hi : i < n := by
    have := (List.getElem?_eq_some_iff.mp e1).1
    rw [rdsU_len] at this
    exact this
  rw [rdsU_at hi] at e1
  cases e1
  exact ⟨hi, p⟩
theorem rnd_plrs (h : PmL rs (rdsU n row)) (hl : row.length = 2 ^ n) {i : Nat} {ps : List P2} (e : rs[i]? = some ps) : isort (plrs ps) = isort (lv i row) := by
  obtain ⟨hi, p⟩ := rnd_at h e
  refine isort_perm_eq ((plrs_perm p).trans ?_)
  rw [plrs_pairs (half_lv hi hl)]
theorem rnd_wins (h : PmL rs (rdsU n row)) (hl : row.length = 2 ^ n) {i : Nat} {ps : List P2} (e : rs[i]? = some ps) : isort (ps.map (·.1)) = isort (lv (i + 1) row) := by
  obtain ⟨hi, p⟩ := rnd_at h e
  refine isort_perm_eq ((p.map _).trans ?_)
  rw [wins_pairs (half_lv hi hl), lv_succ]
theorem rnd_sorted (h : PmL rs (rdsU n row)) (hd : row.Nodup) {i : Nat} {ps : List P2} (e : rs[i]? = some ps) : (rds n row)[i]? = some (psort ps) := by
  obtain ⟨hi, p⟩ := rnd_at h e
  have nd := pairsOf_nodup (lv_nodup (i := i) hd)
  rw [rds_map, List.getElem?_map, rdsU_at hi]
  show some (pset _) = _
  rw [psort_nodup (p.nodup_iff.mpr nd)]
  exact congrArg some (pset_congr fun x => p.mem_iff.symm)
theorem rnd_lev (h : PmL rs (rdsU n row)) (hd : row.Nodup) (hl : row.length = 2 ^ n) : ∀ i, i ≤ rs.length → Lev (runP (fun i => [i]) (rs.take i).flatten) (lv i row) i row
  | 0, _ => lev_start row
  | i + 1, hi => by
    have e : rs[i]? = some rs[i] := List.getElem?_eq_getElem (by omega)
    obtain ⟨hn, p⟩ := rnd_at h e
    have ih := rnd_lev h hd hl i (by omega)
    have t : (rs.take (i + 1)).flatten = (rs.take i).flatten ++ rs[i] := by
      rw [take_snoc e, List.flatten_append]
      show _ ++ (rs[i] ++ []) = _
      rw [List.append_nil]
    rw [t, runP_app, lv_succ]
    exact ih.step (half_lv hn hl) (lv_nodup hd) p
/-- the longest part is the order -/
theorem rnd_order (h : PmL rs (rdsU n row)) (hd : row.Nodup) (hl : row.length = 2 ^ n) {c : Int} (hc : row[0]? = some c) : runP (fun i => [i]) rs.flatten c = row ∧ ∀ z ∈ row, z ≠ c → (runP (fun i => [i]) rs.flatten z).length < row.length := by
  have hr : rs.length = n := (Paired.length h).trans (rdsU_len n row)
  have L := rnd_lev h hd hl rs.length (Nat.le_refl _)
  rw [List.take_length, hr, lv_last hl hc] at L
  have a := L.all
  refine ⟨?_, fun z hz n => ?_⟩
  · rw [List.map_cons, List.map_nil, List.flatten_cons, List.flatten_nil, List.append_nil] at a
    exact a
  · rw [hl]
    exact L.out z hz (fun q => n (List.mem_singleton.mp q))
theorem last_round (hd : row.Nodup) (hl : row.length = 2 ^ n) {c : Int} (hc : row[0]? = some c) (hn : 0 < n) : ∃ y, (rds n row)[n - 1]? = some [(c, y)] := by
  have h1 := lv_len (i := n - 1) (n := n) (by omega) hl
  rw [show n - (n - 1) = 1 by omega] at h1
  have h2 := lv_head (i := n - 1) hc
  rw [rds_map, List.getElem?_map, rdsU_at (by omega)]
  match e : lv (n - 1) row, h1, h2 with
  | [u, y], _, h2 =>
    cases h2
    exact ⟨y, rfl⟩
end
end Ct
end
section
set_option Elab.async false
set_option linter.all false
set_option maxRecDepth 100000
/-! [x for pair in rows for x in pair]; comprehensions whose turns change something old. -/
namespace Ct
open PySem L2
variable {K : PySem.W.Frag} {H : Hp} {σ : L2.St} {Q : VK}
def rListOf (K : PySem.W.Frag) : List V → Hp → VK → Prop := fun xs H Q => ∃ p ys, xs = [V.ref p] ∧ (SqL K H p ys ∨ SqT K H p ys) ∧ ∀ l, H l = none → Q (.ref l) (upd H l (.lst ys))
theorem listOf {H : Hp} {Q : VK} {p : Addr} {ys : List V} (h : H p = some (.lst ys)) (k : ∀ H' l, Same H H' → H l = none → H' l = some (.lst ys) → Q (.ref l) H') : rListOf K [.ref p] H Q := ⟨p, ys, rfl, .inl (SqL.of h), fun l n => k _ l (same_upd n rfl) n upd_same⟩
def Lc2Go (K : PySem.W.Frag) (x : V) (g : TG) (tt : TT) (wi1 : TI) (g1 : TG) (tt1 : TT) (te : TE) (vs vs1 : List Nat) (σ : L2.St) (H1 : Hp) (Q : VK) : Prop := ∃ a, x = V.ref a ∧ (∃ xs, SqL K H1 a xs) ∧ ∀ D, H1 D = none → ∃ W : Nat → Nat → Hp → Prop, (∃ m, W 0 m (upd H1 D (.lst []))) ∧ ∀ i m H, W i m H →
  ((Itl K a).stop i H ∧ Q (.ref D) H) ∨ ((Itl K a).go i H ∧ ∃ Nx : Hp → Prop, (∀ H', Nx H' → ∃ m', m' < m ∧ W (i + 1) m' H') ∧ ∀ x H', (Itl K a).yld i H x H' → g x (wipe σ vs) H' fun σ2 H2 => wipe σ2 vs = wipe σ vs ∧ tt σ2 H2 fun b H3 =>
    if b = true then wi1 σ2 H3 fun J1 H4 => ∃ W1 : Nat → Nat → Hp → Prop, (∃ m, W1 0 m H4) ∧ ∀ j k H, W1 j k H →
      (J1.stop j H ∧ Nx H) ∨ (J1.go j H ∧ ∃ Nx1 : Hp → Prop, (∀ H', Nx1 H' → ∃ k', k' < k ∧ W1 (j + 1) k' H') ∧ ∀ x H', J1.yld j H x H' → g1 x (wipe σ2 vs1) H' fun σ3 H5 => wipe σ3 vs1 = wipe σ2 vs1 ∧ tt1 σ3 H5 fun b H6 =>
        if b = true then te σ3 H6 fun y H7 => ∃ acc, H7 D = some (.lst acc) ∧ acc.length < sizeLine ∧ Nx1 (upd H7 D (.lst (acc ++ [y]))) else Nx1 H6)
    else Nx H3)
theorem r_lc2L {tl : TE} {g : TG} {tt : TT} {wi1 : TI} {g1 : TG} {tt1 : TT} {te : TE} {vs vs1 : List Nat} (h : tl σ H fun x H1 => Lc2Go K x g tt wi1 g1 tt1 te vs vs1 σ H1 Q) : tLc2 (iList K tl) g tt wi1 g1 tt1 te vs vs1 σ H Q := h
theorem plrs_len (ps : List P2) : (plrs ps).length = 2 * ps.length := by
  induction ps with
  | nil => rfl
  | cons p r ih =>
    show (plrs r).length + 1 + 1 = 2 * (r.length + 1)
    omega
/-- all players of a list of pairs -/
theorem lc2P {a : Addr} {xs : List V} {ps : List P2} {ia ib : Nat} {vs : List Nat} (hl : SqL K H a xs) (hp : Prs H xs ps) (hz : ps.length ≤ 1000)
    (hw : ∀ x, wipe ((wipe σ vs).set ia x) vs = wipe σ vs) (hr : ∀ x, ((wipe σ vs).set ia x)[ia]? = some x)
    (hw1 : ∀ x y, wipe ((wipe ((wipe σ vs).set ia x) [ib]).set ib y) [ib] = wipe ((wipe σ vs).set ia x) [ib]) (hr1 : ∀ x y, ((wipe ((wipe σ vs).set ia x) [ib]).set ib y)[ib]? = some y)
    (k : ∀ G D, Same H G → H D = none → G D = some (.lst ((plrs ps).map V.int)) → Q (.ref D) G) : Lc2Go K (.ref a) (gName ia) tYes (iTup K (tVar ia)) (gName ib) tYes (tVar ib) vs [ib] σ H Q := by
  have hn := hp.length
  refine ⟨a, rfl, ⟨xs, hl⟩, fun D hD => ?_⟩
  refine ⟨fun i m G => m = xs.length - i ∧ i ≤ xs.length ∧ Same H G ∧ G D = some (.lst ((plrs (ps.take i)).map V.int)), ⟨xs.length, by simp, Nat.zero_le _, same_upd hD rfl, upd_same⟩, ?_⟩
  rintro i m G ⟨rfl, hi, s, hG⟩
  have hlG := s.seq hl
  by_cases hlt : i < xs.length
  · have hx : xs[i]? = some xs[i] := List.getElem?_eq_getElem hlt
    obtain ⟨p, hpi, t, et, ht⟩ := hp.get hx
    refine .inr ⟨⟨xs, xs[i], hlG, hx⟩, fun G' => Same H G' ∧ G' D = some (.lst ((plrs (ps.take (i + 1))).map V.int)), fun G' h => ⟨xs.length - (i + 1), by omega, rfl, hlt, h.1, h.2⟩, fun x G' y => ?_⟩
    obtain ⟨e, y⟩ := y
    subst e
    have ex : x = .ref t := by
      have := y xs hlG
      rw [hx] at this
      rw [← Option.some.inj this, et]
    subst ex
    refine ⟨hw _, ?_⟩
    refine r_yes (iteT ?_)
    refine ⟨.ref t, hr _, t, rfl, ⟨_, SqT.of (s _ _ ht)⟩, ?_⟩
    have tk : plrs (ps.take (i + 1)) = plrs (ps.take i) ++ [p.1, p.2] := by rw [List.take_add_one, hpi]; exact plrs_snoc _ _
    refine ⟨fun j k G' => k = 2 - j ∧ j ≤ 2 ∧ Same H G' ∧ G' D = some (.lst ((plrs (ps.take i) ++ ([p.1, p.2] : List Int).take j).map V.int)), ⟨2, rfl, by omega, s, by rw [List.take_zero, List.append_nil]; exact hG⟩, ?_⟩
    rintro j k G' ⟨rfl, hj, s', hG'⟩
    have htG := s' _ _ ht
    by_cases hjt : j < 2
    · have hpx : ∃ z : Int, ([p.1, p.2] : List Int)[j]? = some z ∧ ([V.int p.1, V.int p.2])[j]? = some (V.int z) := by
        have hj' : j = 0 ∨ j = 1 := by omega
        rcases hj' with rfl | rfl
        · exact ⟨p.1, rfl, rfl⟩
        · exact ⟨p.2, rfl, rfl⟩
      obtain ⟨z, z1, z2⟩ := hpx
      refine .inr ⟨⟨_, .int z, SqT.of htG, z2⟩, fun G' => Same H G' ∧ G' D = some (.lst ((plrs (ps.take i) ++ ([p.1, p.2] : List Int).take (j + 1)).map V.int)), fun G' h => ⟨2 - (j + 1), by omega, rfl, hjt, h.1, h.2⟩, fun x G'' y => ?_⟩
      obtain ⟨e, y⟩ := y
      subst e
      have ex : x = .int z := by
        have := y _ (SqT.of htG)
        rw [z2] at this
        exact (Option.some.inj this).symm
      subst ex
      refine ⟨hw1 _ _, ?_⟩
      refine r_yes (iteT ?_)
      refine ⟨.int z, hr1 _ _, _, hG', ?_, ?_, ?_⟩
      · rw [List.length_map, List.length_append, plrs_len, List.length_take, List.length_take]
        have : (100000 : Nat) < sizeLine := line_big
        omega
      · exact fun c u e => by
          rw [upd_ne (ne_of_none e hD)]
          exact s' _ _ e
      · rw [upd_same, List.take_add_one, z1, ← List.append_assoc, List.map_append, List.map_append, List.map_append]
        rfl
    · have ej : j = 2 := by omega
      subst ej
      exact .inl ⟨⟨_, SqT.of htG, Nat.le_refl _⟩, s', by rw [tk]; exact hG'⟩
  · have e : i = xs.length := by omega
    subst e
    refine .inl ⟨⟨xs, hlG, Nat.le_refl _⟩, k G D s hD ?_⟩
    rw [hn, List.take_length] at hG
    exact hG
theorem r_neI {a b : Addr} {xs ys : List Int} (h1 : H a = some (.lst (xs.map V.int))) (h2 : H b = some (.lst (ys.map V.int))) (k : Q (.bl (!decide (xs = ys))) H) : rNeD K (.ref a) (.ref b) H Q := ⟨_, _, dI_dp h1, dI_dp h2, dI_shaped _, dI_shaped _, by rw [dI_eqv]; exact k⟩
theorem r_eqI {a b : Addr} {xs ys : List Int} (h1 : H a = some (.lst (xs.map V.int))) (h2 : H b = some (.lst (ys.map V.int))) (k : Q (.bl (decide (xs = ys))) H) : rEqD K (.ref a) (.ref b) H Q := ⟨_, _, dI_dp h1, dI_dp h2, dI_shaped _, dI_shaped _, by rw [dI_eqv]; exact k⟩
theorem sortI {a : Addr} {xs : List Int} (h : H a = some (.lst (xs.map V.int))) (k : ∀ H' p, Same H H' → H p = none → H' p = some (.lst ((isort xs).map V.int)) → Q (.ref p) H') : rSortedI K [.ref a] H Q := by
  refine ⟨a, xs, rfl, .of h, fun ns p hp hs np => ?_⟩
  rw [isort_one hp hs]
  exact k _ p (same_upd np rfl) np upd_same
/-- parts of an order on the heap -/
structure PaI (H G : Hp) (D : Addr) (as : List Addr) (P : Int → List Int) (N : Nat) : Prop where
  s : Same H G
  at_ : G D = some (.lst (as.map V.ref))
  len : as.length = N
  it : ∀ (j : Nat) (x : Addr), as[j]? = some x → x ≠ D ∧ H x = none ∧ G x = some (.lst ((P (j : Int)).map V.int))
theorem PaI.put {H G G1 G2 : Hp} {D z : Addr} {as : List Addr} {P : Int → List Int} {N i : Nat} {p : P2} (I : PaI H G D as P N) (hD : H D = none) (e1 : p.1 = (i : Int)) (hi : i < N) (s1 : Same G G1) (nz : G z = none) (hz : G1 z = some (.lst ((P p.1 ++ P p.2).map V.int)))
    (b : But D G1 G2) (h2 : G2 D = some (.lst ((as.set i z).map V.ref))) : PaI H G2 D (as.set i z) (stepP P p) N := by
  have nzD : z ≠ D := Ne.symm (ne_of_none I.at_ nz)
  refine ⟨b.same (I.s.trans s1) hD, h2, by rw [List.length_set]; exact I.len, fun j x hx => ?_⟩
  rw [List.getElem?_set] at hx
  by_cases c : i = j
  · subst c
    rw [if_pos rfl, if_pos (by rw [I.len]; exact hi)] at hx
    cases hx
    refine ⟨nzD, I.s.free nz, b _ _ nzD ?_⟩
    unfold stepP
    rw [if_pos e1.symm]
    exact hz
  · rw [if_neg c] at hx
    obtain ⟨n1, n2, n3⟩ := I.it j x hx
    refine ⟨n1, n2, b _ _ n1 ?_⟩
    unfold stepP
    rw [if_neg (by omega)]
    exact s1 _ _ n3
/-- a comprehension over a list, whatever its turns change -/
theorem lcL2 {a : Addr} {xs : List V} {g : TG} {tt : TT} {te : TE} {vs : List Nat} (Pv : Addr → Nat → Hp → Prop) (hl : SqL K H a xs) (h0 : ∀ D, H D = none → Pv D 0 (upd H D (.lst []))) (hk : ∀ D i G, i ≤ xs.length → Pv D i G → SqL K G a xs)
    (hs : ∀ D i x G, H D = none → i < xs.length → xs[i]? = some x → Pv D i G → g x (wipe σ vs) G fun σ2 H2 => wipe σ2 vs = wipe σ vs ∧ tt σ2 H2 fun b H3 =>
      if b = true then te σ2 H3 fun y H4 => ∃ acc, H4 D = some (.lst acc) ∧ acc.length < sizeLine ∧ Pv D (i + 1) (upd H4 D (.lst (acc ++ [y]))) else Pv D (i + 1) H3)
    (hd : ∀ D G, H D = none → Pv D xs.length G → Q (.ref D) G) : LcGo K (.ref a) g tt te vs σ H Q := by
  refine ⟨a, rfl, ⟨xs, hl⟩, fun D hD => lc_list (K := K) (a := a) (xs := xs) (Qd := fun G => Q (.ref D) G) (Pv D) (h0 D hD) (hk D) (fun i x G hx p => ?_) (hd D · hD)⟩
  exact hs D i x G hD (List.getElem?_eq_some_iff.mp hx).1 hx p
end Ct
end
section
set_option Elab.async false
set_option linter.all false
set_option maxRecDepth 100000
/-! Lists of lists of pairs: shown, compared. -/
namespace Ct
open PySem L2
theorem prs_perm {H : Hp} {ys ws : List V} {ps : List P2} (h : Prs H ys ps) (p : ws.Perm ys) : ∃ qs, Prs H ws qs ∧ qs.Perm ps := by
  refine ⟨ws.map (kP H), Prs.of fun v hv => h.all v (p.mem_iff.mp hv), ?_⟩
  rw [← h.map]
  exact p.map _
theorem ll_dp {K : PySem.W.Frag} {H : Hp} : ∀ {vs : List V} {rs : List (List P2)}, Paired (IsL H) vs rs → DpAll K H vs (rs.map dL)
  | _, _, .nil => .nil
  | _, _, .cons ⟨x, e, h⟩ t => by
    subst e
    exact .cons h.dp (ll_dp t)
theorem RL.dp {K : PySem.W.Frag} {H : Hp} {l : Addr} {rs : List (List P2)} (h : RL H l rs) : Dp K H (.ref l) (dLL rs) := let ⟨_, h1, h2⟩ := h; .lst (SqL.of h1) (ll_dp h2)
theorem dLL_eqv (a b : List (List P2)) : PyData.eqv (dLL a) (dLL b) = decide (a = b) := PySem.W.Datum.eqv a b
theorem dLL_depth (rs : List (List P2)) : (dLL rs).depth ≤ 3 := PySem.W.Datum.depth_le rs
theorem canLL : ∀ rs : List (List P2), PyData.canLayAll0 (rs.map dL) = true
  | [] => rfl
  | ps :: rs => by
    show (PyData.canLay0 (dL ps) && PyData.canLayAll0 (rs.map dL)) = true
    rw [canLL rs, show PyData.canLay0 (dL ps) = true from canP ps]
    rfl
theorem dLL_shaped (rs : List (List P2)) : SeqAt.shaped (dLL rs) = true := by
  unfold SeqAt.shaped
  have h1 : (dLL rs).canLay0 = true := canLL rs
  have h2 := dLL_depth rs
  rw [h1, decide_eq_true (by omega)]
  rfl
theorem dLL_showable : ∀ {rs : List (List P2)}, (∀ ps ∈ rs, ∀ p ∈ ps, Sm p) → (dLL rs).showable = true
  | [], _ => rfl
  | ps :: rs, h => by
    show ((dL ps).showable && (dLL rs).showable) = true
    rw [dL_showable (h ps List.mem_cons_self), dLL_showable (rs := rs) fun q hq => h q (List.mem_cons_of_mem _ hq)]
    rfl
theorem dLL_noDict : ∀ (rs : List (List P2)), (dLL rs).hasDict = false
  | [] => rfl
  | ps :: rs => by
    show ((dL ps).hasDict || (dLL rs).hasDict) = false
    rw [dLL_noDict rs, dL_noDict]
    rfl
theorem dLL_short : ∀ {rs : List (List P2)}, (∀ ps ∈ rs, ∀ p ∈ ps, Sm p) → PyData.leavesShort 8 (dLL rs) = true
  | [], _ => rfl
  | ps :: rs, h => by
    show (PyData.leavesShort 8 (dL ps) && PyData.leavesShort 8 (dLL rs)) = true
    rw [dL_short (h ps List.mem_cons_self), dLL_short (rs := rs) fun q hq => h q (List.mem_cons_of_mem _ hq)]
    rfl
theorem dLL_weight {k : Nat} : ∀ {rs : List (List P2)}, (∀ ps ∈ rs, (∀ p ∈ ps, Sm p) ∧ ps.length ≤ k) → (dLL rs).weight ≤ (15 * k + 1) * rs.length
  | [], _ => Nat.zero_le _
  | ps :: rs, h => by
    have h0 := h ps List.mem_cons_self
    have h1 := dL_weight h0.1
    have h2 := dLL_weight (rs := rs) fun q hq => h q (List.mem_cons_of_mem _ hq)
    have e : (dLL (ps :: rs)).weight = (dL ps).weight + 1 + (dLL rs).weight := rfl
    rw [e, List.length_cons, Nat.mul_succ]
    have h3 := Nat.mul_le_mul_left 15 h0.2
    omega
theorem ll_shows {rs : List (List P2)} (h : ∀ ps ∈ rs, (∀ p ∈ ps, Sm p) ∧ ps.length ≤ 64) (hl : rs.length ≤ 100) : ShowsD (dLL rs) := by
  refine ⟨dLL_showable fun ps q => (h ps q).1, dLL_noDict rs, by have := dLL_depth rs; omega, PyData.shown_fits (B := 8) (by decide) (by decide) (dLL_short fun ps q => (h ps q).1) ?_⟩
  have e := dLL_weight h
  have e2 : (15 * 64 + 1) * rs.length ≤ (15 * 64 + 1) * 100 := Nat.mul_le_mul_left _ hl
  have : (15 * 64 + 1) * 100 ≤ 2 ^ 20 := by decide
  omega
theorem atI_m1 {α : Type} {xs : List α} {m : Nat} {v : α} (h : xs.length = m + 1) (e : xs[m]? = some v) : atI xs (-1) = some v := by
  rcases List.eq_nil_or_concat xs with h0 | ⟨ys, u, h0⟩
  · rw [h0] at h; cases h
  · rw [List.concat_eq_append] at h0
    subst h0
    rw [List.length_append, List.length_singleton] at h
    have hm : m = ys.length := by omega
    subst hm
    rw [List.getElem?_append_right (Nat.le_refl _), Nat.sub_self] at e
    cases e
    exact atI_last _ _
/-- only what S says may change -/
def ButP (S : Addr → Prop) (H G : Hp) : Prop := ∀ a u, ¬ S a → H a = some u → G a = some u
theorem ButP.refl {S : Addr → Prop} {H : Hp} : ButP S H H := fun _ _ _ h => h
theorem ButP.trans {S : Addr → Prop} {H G G' : Hp} (a : ButP S H G) (b : ButP S G G') : ButP S H G' := fun x u n h => b x u n (a x u n h)
theorem Same.butP {S : Addr → Prop} {H G : Hp} (s : Same H G) : ButP S H G := fun x u _ h => s x u h
theorem But.butP {S : Addr → Prop} {H G : Hp} {f : Addr} (b : But f H G) (h : S f) : ButP S H G := fun x u n e => b x u (fun z => n (z ▸ h)) e
theorem ButP.but {S : Addr → Prop} {H H7 G : Hp} {f : Addr} (b : ButP S H7 G) (a : But f H H7) (n : ∀ x, S x → H x = none) : But f H G := fun x u nf e => b x u (fun z => by
  rw [n x z] at e
  cases e) (a x u nf e)
theorem isLs_frame {S : Addr → Prop} {H G : Hp} (e : ButP S H G) (ht : ∀ a xs, S a → H a ≠ some (.tup xs)) : ∀ {ws : List V} {pss : List (List P2)}, (∀ x : Addr, V.ref x ∈ ws → ¬ S x) → Paired (IsL H) ws pss → Paired (IsL G) ws pss
  | _, _, _, .nil => .nil
  | _, _, hw, .cons ⟨x, e0, xs, h1, h2⟩ t => by
    subst e0
    exact .cons ⟨x, rfl, xs, e _ _ (hw x List.mem_cons_self) h1, L2.Paired.mapP h2 fun _ _ ⟨t, e3, e4⟩ => ⟨t, e3, e _ _ (fun s => ht _ _ s e4) e4⟩⟩ (isLs_frame e ht (fun x hx => hw x (List.mem_cons_of_mem _ hx)) t)
theorem CupF.same {C : Addr} {H0 H G : Hp} {c o r q b : Addr} {row : List Int} {n : Nat} (F : CupF H0 H o r q b) (h : CupR C H c o r q b row n) (s : Same H G) : CupF H0 G o r q b := by
  obtain ⟨vs, v1, v2⟩ := h.rnd
  obtain ⟨as, a1, _⟩ := h.bt.ex
  refine ⟨F.fo, F.fr, F.fq, F.fb, fun bs e x hx => ?_, fun ws e x hx => ?_⟩
  · rw [s _ _ a1] at e
    rw [← refs_inj (HO.lst.inj (Option.some.inj e))] at hx
    exact F.fas as a1 x hx
  · rw [s _ _ v1] at e
    rw [← HO.lst.inj (Option.some.inj e)] at hx
    exact F.frs vs v1 x hx
theorem ifS_M {c : TT} {t : TS} {D : Ends} {σ : L2.St} {H : Hp} (M : Hp → Prop) (fin : ∀ H', M H' → D.nx σ H') (h : (∀ H', M H' → D.nx σ H') → c σ H fun b H1 => if b = true then t D σ H1 else tNext D σ H1) : tIfS c t tNext D σ H := h fin
theorem isort_single (x : Int) : isort [x] = [x] := sorted_one (isort_perm [x]) (isort_le _) (List.pairwise_singleton _ _)
end Ct
end
section
set_option Elab.async false
set_option linter.all false
/-! Greatest claims of lists put together. -/
namespace Ct
open PySem L2
theorem mem_gcl2 {l : List P2} {x : P2} : x ∈ gcl l ↔ x.2 = mx l x.1 ∧ 0 < x.2 := by
  rw [mem_gcl]
  constructor
  · rintro ⟨_, h⟩; exact h
  · rintro ⟨h1, h2⟩
    refine ⟨?_, h1, h2⟩
    rcases mx_is l x.1 with z | ⟨p, hp, e, _⟩
    · omega
    · exact ⟨p, hp, e⟩
theorem gcl_of_mx {l m : List P2} (h : ∀ k, mx l k = mx m k) : gcl l = gcl m :=
  ris_ext (ris_pset _) (ris_pset _) fun x => by
    show x ∈ gcl l ↔ x ∈ gcl m
    rw [mem_gcl2, mem_gcl2, h]
theorem mx_le {l : List P2} {k b : Int} (h0 : 0 ≤ b) (h : ∀ p ∈ l, p.1 = k → p.2 ≤ b) : mx l k ≤ b := by
  rcases mx_is l k with z | ⟨p, hp, e, z⟩
  · omega
  · rw [← z]; exact h p hp e
theorem mx_ge' {l : List P2} {p : P2} {k : Int} (h : p ∈ l) (e : p.1 = k) : p.2 ≤ mx l k := e ▸ mx_ge h
/-- two lists that say the same -/
def Says (l m : List P2) : Prop := ∀ k, mx l k = mx m k
theorem Says.of_le {l m : List P2} (h1 : ∀ p ∈ l, p.2 ≤ mx m p.1) (h2 : ∀ p ∈ m, p.2 ≤ mx l p.1) : Says l m := fun k =>
  Int.le_antisymm (mx_le (mx_nn _ _) fun p hp e => e ▸ h1 p hp) (mx_le (mx_nn _ _) fun p hp e => e ▸ h2 p hp)
theorem mx_gcl (l : List P2) (k : Int) : mx (gcl l) k = mx l k := by
  refine Int.le_antisymm (mx_le (mx_nn _ _) fun p hp e => ?_) ?_
  · have := (mem_gcl2.mp hp).1
    rw [this, e]
    exact Int.le_refl _
  · by_cases c : mx l k = 0
    · rw [c]; exact mx_nn _ _
    · have h : ((k, mx l k) : P2) ∈ gcl l := mem_gcl2.mpr ⟨rfl, by have := mx_nn l k; show 0 < mx l k; omega⟩
      exact mx_ge' h rfl
theorem mx_app (a b : List P2) (k : Int) : mx (a ++ b) k = if mx a k > mx b k then mx a k else mx b k := by
  have ha : mx a k ≤ mx (a ++ b) k := mx_le_of (fun x hx => List.mem_append_left _ hx) k
  have hb : mx b k ≤ mx (a ++ b) k := mx_le_of (fun x hx => List.mem_append_right _ hx) k
  have hu : mx (a ++ b) k ≤ if mx a k > mx b k then mx a k else mx b k := mx_le (by have := mx_nn a k; have := mx_nn b k; split <;> omega) fun p hp e => by
    rcases List.mem_append.mp hp with z | z
    · have := mx_ge' z e
      split <;> omega
    · have := mx_ge' z e
      split <;> omega
  split at hu <;> omega
theorem gcl_app {a a' b b' : List P2} (h : Says a a') (h' : Says b b') : gcl (a ++ b) = gcl (a' ++ b') := gcl_of_mx fun k => by rw [mx_app, mx_app, h k, h' k]
theorem says_gcl (l : List P2) : Says (gcl l) l := mx_gcl l
theorem Says.refl (l : List P2) : Says l l := fun _ => rfl
theorem pset_app {a a' b b' : List P2} (h : ∀ x, x ∈ a ↔ x ∈ a') (h' : ∀ x, x ∈ b ↔ x ∈ b') : pset (a ++ b) = pset (a' ++ b') := pset_congr fun x => by
  rw [List.mem_append, List.mem_append, h, h']
/-- a field that is there is put without growth -/
theorem putF_len {f : Str} {v y : V} : ∀ {fs : List (Str × V)}, fs.lookup f = some v → (putF f y fs).length = fs.length
  | [], h => by cases h
  | (g, x) :: r, h => by
    show (if g = f then (g, y) :: r else (g, x) :: putF f y r).length = _
    by_cases c : g = f
    · rw [if_pos c]; rfl
    · rw [if_neg c, List.length_cons, List.length_cons]
      have hb : (f == g) = false := beq_eq_false_iff_ne.mpr (Ne.symm c)
      rw [List.lookup_cons, hb] at h
      rw [putF_len h]
end Ct
end
section
set_option Elab.async false
set_option linter.all false
set_option maxRecDepth 100000
set_option maxHeartbeats 4000000
/-! Talks: what they are on the heap. Nothing here speaks of a law's own text. -/
namespace Ct
open PySem PySem.Spec L2 StX
def isRes (k : Int) (p : P2) : Bool := !decide (p.1 = p.2) && (decide (0 ≤ p.1 ∧ p.1 < 2 ^ k.toNat) && decide (0 ≤ p.2 ∧ p.2 < 2 ^ k.toNat))
def isCl (k : Int) (p : P2) : Bool := decide (0 ≤ p.1 ∧ p.1 < 2 ^ k.toNat) && decide (0 ≤ p.2 ∧ p.2 ≤ k)
theorem ofKeys_snoc (l : List P2) (ks : List Int) (k : Int) : ofKeys l (ks ++ [k]) = ofKeys l ks ++ if mx l k > 0 then [(k, mx l k)] else [] := by
  unfold ofKeys
  rw [List.filter_append, List.map_append]
  congr 1
  by_cases h : mx l k > 0
  · rw [if_pos h, List.filter_cons_of_pos (by simpa using h)]; rfl
  · rw [if_neg h, List.filter_cons_of_neg (by simpa using h)]; rfl
/-- a talk at t: its fields and its two lists -/
structure TalkR (C : Addr) (H : Hp) (t r c : Addr) (w : Int) (rs cs : List P2) : Prop where
  at_ : ∃ dx fs, H t = some (.ins C dx fs) ∧ fs.lookup ("_size" : Str) = some (.int w) ∧ fs.lookup ("_results" : Str) = some (.ref r) ∧ fs.lookup ("_claims" : Str) = some (.ref c) ∧ fs.length < 1000 ∧ ∀ f : Str, f ≠ ("_size" : Str) → f ≠ ("_results" : Str) → f ≠ ("_claims" : Str) → fs.lookup f = none
  res : PL H r rs
  cla : PL H c cs
theorem TalkR.ext {C : Addr} {H H' : Hp} {t r c : Addr} {w : Int} {rs cs : List P2} (h : TalkR C H t r c w rs cs) (e : Same H H') : TalkR C H' t r c w rs cs :=
  ⟨let ⟨dx, fs, h1, h2⟩ := h.at_; ⟨dx, fs, e _ _ h1, h2⟩, h.res.ext e, h.cla.ext e⟩
theorem ne_ins_lst {H : Hp} {p q C dx : Addr} {fs : List (Str × V)} {xs : List V} (h : H p = some (.ins C dx fs)) (h' : H q = some (.lst xs)) : q ≠ p := ne_of h' h (by intro z; cases z)
theorem ne_ins_tup {H : Hp} {p q C dx : Addr} {fs : List (Str × V)} {xs : List V} (h : H p = some (.ins C dx fs)) (h' : H q = some (.tup xs)) : q ≠ p := ne_of h' h (by intro z; cases z)
theorem But.prsI {H H' : Hp} {t C dx : Addr} {fs : List (Str × V)} {xs : List V} {ps : List P2} (b : But t H H') (ht : H t = some (.ins C dx fs)) (h : Prs H xs ps) : Prs H' xs ps :=
  L2.Paired.mapP h fun _ _ ⟨u, e, hu⟩ => ⟨u, e, b _ _ (ne_ins_tup ht hu) hu⟩
theorem But.plI {H H' : Hp} {t l C dx : Addr} {fs : List (Str × V)} {ps : List P2} (b : But t H H') (ht : H t = some (.ins C dx fs)) (h : PL H l ps) : PL H' l ps :=
  let ⟨xs, h1, h2⟩ := h; ⟨xs, b _ _ (ne_ins_lst ht h1) h1, b.prsI ht h2⟩
/-- results and claims while they are made -/
structure ItI (H G : Hp) (f l m : Addr) (w : Int) (i j : Nat) (fs cs : List P2) : Prop where
  b : But f H G
  fd : FeedAt G f
  hl : PL G l fs
  hm : PL G m cs
  n1 : fs.length ≤ i
  n2 : cs.length ≤ j
  v1 : ∀ p ∈ fs, isRes w p = true
  v2 : ∀ p ∈ cs, isCl w p = true
theorem ItI.same {H G G' : Hp} {f l m : Addr} {w : Int} {i j : Nat} {fs cs : List P2} (I : ItI H G f l m w i j fs cs) (s : Same G G') : ItI H G' f l m w i j fs cs :=
  ⟨But.trans I.b (Same.but s), I.fd.ext s, I.hl.ext s, I.hm.ext s, I.n1, I.n2, I.v1, I.v2⟩
theorem ItI.but {H G G' : Hp} {f l m : Addr} {w : Int} {i j : Nat} {fs cs : List P2} (I : ItI H G f l m w i j fs cs) (b : But f G G') (h : FeedAt G' f) : ItI H G' f l m w i j fs cs :=
  ⟨But.trans I.b b, h, I.fd.pl b I.hl, I.fd.pl b I.hm, I.n1, I.n2, I.v1, I.v2⟩
theorem ItI.up {H G : Hp} {f l m : Addr} {w : Int} {i j i' j' : Nat} {fs cs : List P2} (I : ItI H G f l m w i j fs cs) (h : i ≤ i') (h' : j ≤ j') : ItI H G f l m w i' j' fs cs :=
  ⟨I.b, I.fd, I.hl, I.hm, Nat.le_trans I.n1 h, Nat.le_trans I.n2 h', I.v1, I.v2⟩
theorem PL.other {G G' : Hp} {l m : Addr} {cs : List P2} {xs : List V} (h : PL G m cs) (b : But l G G') (n : m ≠ l) (hl : G l = some (.lst xs)) : PL G' m cs := let ⟨ys, h1, h2⟩ := h; ⟨ys, b _ _ n h1, b.prs hl h2⟩
theorem ItI.add1 {H G G' : Hp} {f l m : Addr} {w : Int} {i j : Nat} {fs cs : List P2} {fv : List V} {v : V} {p : P2} (I : ItI H G f l m w i j fs cs) (n : H l = none) (hne : l ≠ m) (hl : G l = some (.lst fv)) (hp : Prs G fv fs) (hv : IsP G v p) (r : isRes w p = true)
    (b : But l G G') (h' : G' l = some (.lst (fv ++ [v]))) : ItI H G' f l m w (i + 1) j (fs ++ [p]) cs :=
  ⟨But.ins I.b n b, I.fd.talkless b (Ne.symm (I.fd.neP hl hp)), ⟨_, h', Prs.app (b.prs hl hp) (.cons (b.ip hl hv) .nil)⟩, I.hm.other b hne.symm hl, by rw [List.length_append]; exact Nat.succ_le_succ I.n1, I.n2,
    fun q hq => by
      rcases List.mem_append.mp hq with z | z
      · exact I.v1 q z
      · rw [List.mem_singleton.mp z]; exact r, I.v2⟩
theorem ItI.add2 {H G G' : Hp} {f l m : Addr} {w : Int} {i j : Nat} {fs cs : List P2} {fv : List V} {v : V} {p : P2} (I : ItI H G f l m w i j fs cs) (n : H m = none) (hne : l ≠ m) (hl : G m = some (.lst fv)) (hp : Prs G fv cs) (hv : IsP G v p) (r : isCl w p = true)
    (b : But m G G') (h' : G' m = some (.lst (fv ++ [v]))) : ItI H G' f l m w i (j + 1) fs (cs ++ [p]) :=
  ⟨But.ins I.b n b, I.fd.talkless b (Ne.symm (I.fd.neP hl hp)), I.hl.other b hne hl, ⟨_, h', Prs.app (b.prs hl hp) (.cons (b.ip hl hv) .nil)⟩, I.n1, by rw [List.length_append]; exact Nat.succ_le_succ I.n2, I.v1,
    fun q hq => by
      rcases List.mem_append.mp hq with z | z
      · exact I.v2 q z
      · rw [List.mem_singleton.mp z]; exact r⟩
theorem isRes_of {w M : Int} {p : P2} (hM : (2 : Int) ^ w.toNat = M) (h0 : 0 ≤ p.1) (h1 : p.1 < M) (h2 : 0 ≤ p.2) (h3 : p.2 < M) (h4 : p.1 ≠ p.2) : isRes w p = true := by
  unfold isRes
  rw [hM, decide_eq_false h4, decide_eq_true ⟨h0, h1⟩, decide_eq_true ⟨h2, h3⟩]
  rfl
theorem isCl_of {w M : Int} {p : P2} (hM : (2 : Int) ^ w.toNat = M) (h0 : 0 ≤ p.1) (h1 : p.1 < M) (h2 : 0 ≤ p.2) (h3 : p.2 ≤ w) : isCl w p = true := by
  unfold isCl
  rw [hM, decide_eq_true ⟨h0, h1⟩, decide_eq_true ⟨h2, h3⟩]
  rfl
theorem pow_bnd {w : Int} (h0 : 0 ≤ w) (h6 : w ≤ 6) : 1 ≤ (2 : Int) ^ w.toNat ∧ (2 : Int) ^ w.toNat ≤ 64 := by
  have hw : w = 0 ∨ w = 1 ∨ w = 2 ∨ w = 3 ∨ w = 4 ∨ w = 5 ∨ w = 6 := by omega
  rcases hw with rfl | rfl | rfl | rfl | rfl | rfl | rfl <;> decide
theorem three_at {x y z d N : Int} (d0 : 0 ≤ d) (d1 : d < 3) (hx : 0 ≤ x ∧ x ≤ N) (hy : 0 ≤ y ∧ y ≤ N) (hz : 0 ≤ z ∧ z ≤ N) : ∃ n, atI [V.int x, V.int y, V.int z] d = some (V.int n) ∧ 0 ≤ n ∧ n ≤ N := by
  have hd : d = 0 ∨ d = 1 ∨ d = 2 := by omega
  rcases hd with rfl | rfl | rfl
  · exact ⟨x, rfl, hx⟩
  · exact ⟨y, rfl, hy⟩
  · exact ⟨z, rfl, hz⟩
theorem sm_of_isRes {w : Int} {p : P2} (h0 : 0 ≤ w) (h6 : w ≤ 6) (h : isRes w p = true) : Sm p := by
  unfold isRes at h
  have hb := pow_bnd h0 h6
  simp only [Bool.and_eq_true, decide_eq_true_eq] at h
  obtain ⟨_, ⟨a, b⟩, c, d⟩ := h
  exact ⟨a, by omega, c, by omega⟩
theorem sm_of_isCl {w : Int} {p : P2} (h0 : 0 ≤ w) (h6 : w ≤ 6) (h : isCl w p = true) : Sm p := by
  unfold isCl at h
  have hb := pow_bnd h0 h6
  simp only [Bool.and_eq_true, decide_eq_true_eq] at h
  obtain ⟨⟨a, b⟩, c, d⟩ := h
  exact ⟨a, by omega, c, by omega⟩
theorem sm_pset {rs : List P2} (h : ∀ p ∈ rs, Sm p) : ∀ p ∈ pset rs, Sm p := fun p hp => h p (mem_pset.mp hp)
theorem sm_gcl {cs : List P2} (h : ∀ p ∈ cs, Sm p) : ∀ p ∈ gcl cs, Sm p := fun p hp => by
  obtain ⟨⟨q, hq, e⟩, h1, h2⟩ := mem_gcl.mp hp
  rcases mx_is cs p.1 with z | ⟨u, hu, z1, z2⟩
  · omega
  · have := h u hu
    rw [← h1, ] at z2
    exact ⟨by rw [← z1]; exact this.1, by rw [← z1]; exact this.2.1, by rw [← z2]; exact this.2.2.1, by rw [← z2]; exact this.2.2.2⟩
theorem FeedAt.ne2 {H : Hp} {f p x : Addr} {r : List V} (h : FeedAt H f) (e : H p = some (.lst (.ref x :: r))) : p ≠ f := by
  obtain ⟨a, b, c, h⟩ := h
  intro z
  subst z
  rw [e] at h
  cases h
theorem psA (a b : List P2) : pset (pset a ++ pset b) = pset (a ++ b) := pset_app (fun _ => mem_pset) fun _ => mem_pset
theorem gcA (a b : List P2) : gcl (gcl a ++ gcl b) = gcl (a ++ b) := gcl_app (says_gcl a) (says_gcl b)
theorem psC (a b : List P2) : pset (pset b ++ pset a) = pset (a ++ b) := pset_congr fun x => by simp only [List.mem_append, mem_pset]; exact Or.comm
theorem gcC (a b : List P2) : gcl (gcl b ++ gcl a) = gcl (a ++ b) := gcl_of_mx fun k => by
  simp only [mx_app, mx_gcl]
  split <;> split <;> omega
theorem psS (a : List P2) : pset (pset a ++ pset a) = pset a := pset_congr fun x => by simp only [List.mem_append, mem_pset, or_self]
theorem gcS (a : List P2) : gcl (gcl a ++ gcl a) = gcl a := gcl_of_mx fun k => by
  simp only [mx_app, mx_gcl]
  split <;> omega
theorem psE (a : List P2) : pset (pset a ++ pset []) = pset a := pset_congr fun x => by simp only [List.mem_append, mem_pset, List.not_mem_nil, or_false]
theorem gcE (a : List P2) : gcl (gcl a ++ gcl []) = gcl a := gcl_of_mx fun k => by
  simp only [mx_app, mx_gcl]
  have h1 : mx [] k = 0 := rfl
  have h2 := mx_nn a k
  rw [h1]
  split <;> omega
theorem psW (a b : List P2) : pset (pset (a ++ b) ++ pset a) = pset (a ++ b) := pset_congr fun x => by
  simp only [List.mem_append, mem_pset]
  constructor
  · rintro (h | h)
    · exact h
    · exact .inl h
  · exact .inl
theorem gcW (a b : List P2) : gcl (gcl (a ++ b) ++ gcl a) = gcl (a ++ b) := gcl_of_mx fun k => by
  simp only [mx_app, mx_gcl]
  split <;> split <;> omega
structure RtI (C : Addr) (H G : Hp) (f t1 l1 m1 t2 l2 m2 tL rL cL tR rR cR : Addr) (w : Int) (rs1 cs1 rs2 cs2 : List P2) : Prop where
  b : But f H G
  fd : FeedAt G f
  h1 : G t1 = some (.lst [.ref l1, .ref m1])
  h2 : G t2 = some (.lst [.ref l2, .ref m2])
  p1 : PL G l1 rs1
  q1 : PL G m1 cs1
  p2 : PL G l2 rs2
  q2 : PL G m2 cs2
  TL : TalkR C G tL rL cL w (pset rs1) (gcl cs1)
  TR : TalkR C G tR rR cR w (pset rs2) (gcl cs2)
theorem RtI.same {C : Addr} {H G G' : Hp} {f t1 l1 m1 t2 l2 m2 tL rL cL tR rR cR : Addr} {w : Int} {rs1 cs1 rs2 cs2 : List P2} (I : RtI C H G f t1 l1 m1 t2 l2 m2 tL rL cL tR rR cR w rs1 cs1 rs2 cs2) (s : Same G G') : RtI C H G' f t1 l1 m1 t2 l2 m2 tL rL cL tR rR cR w rs1 cs1 rs2 cs2 :=
  ⟨But.trans I.b (Same.but s), I.fd.ext s, s _ _ I.h1, s _ _ I.h2, I.p1.ext s, I.q1.ext s, I.p2.ext s, I.q2.ext s, I.TL.ext s, I.TR.ext s⟩
theorem e_cat {H : Hp} {l m : Addr} {ps qs : List P2} {Q : VK} (hl : PL H l ps) (hm : PL H m qs) (hn : ps.length + qs.length ≤ 100000) (k : ∀ H' x, Same H H' → H x = none → PL H' x (ps ++ qs) → Q (.ref x) H') : rCat (.ref l) (.ref m) H Q := by
  obtain ⟨xs, h1, p1⟩ := hl
  obtain ⟨ys, h2, p2⟩ := hm
  have n1 := p1.length
  have n2 := p2.length
  refine ⟨l, m, xs, ys, rfl, rfl, h1, h2, by have := line_big; omega, fun x nx => ?_⟩
  have s := same_upd (o := .lst (xs ++ ys)) nx rfl
  exact k _ x s nx ⟨_, upd_same, (Prs.app p1 p2).ext s⟩
end Ct
end
section
set_option Elab.async false
set_option linter.all false
set_option maxRecDepth 100000
set_option maxHeartbeats 4000000
/-! for within a generator, over anything that a plain for goes over. -/
namespace Ct
open PySem PySem.Spec PyProof.Rows GenW L2
section
variable {M : Model} {A : Around} {R : GenEnd} {Y : Protocol} {n : Nat} {s₀ s : Shared} {c : Code} {fs : List Frame} {env : Env}
theorem seg_ForG {target iter : Expr} {body orelse : List Stmt} {pos : Pos} {K : Flow → Sem PySem.Fin} {J : Value → Sem PySem.Fin} {gd : Bool → Bool} {lv : List Value → List Value}
    (h : wpAny M (A.over c fs) (eval iter env) (fun v s1 => wpAny M (A.over c fs) (pyIter v) (fun it s2 => ∀ p, Seg M A R Y n s₀ (.forLoop target it body orelse env) (M.den (.forLoop target it body orelse env))
      (.ret (fun r => ((match r with | .ok f => (.pure f : Sem Flow) | .error e => .raise e).onRaise (cameBack env)).wrap K J gd lv) none (gd false) (lv []) c p [] :: fs) s2) (fun x s' => Seg M A R Y n s₀ c (J x) fs s') s1) (fun x s' => Seg M A R Y n s₀ c (J x) fs s') s)
    (hs : ∀ x, foldedSetIterable iter env x = pure x := by intro _; rfl) : Seg M A R Y n s₀ c ((exec (.For target iter body orelse pos) env).wrap K J gd lv) fs s := by
  rw [exec_For]
  refine seg_bind_wrap (wpAny_standAt ?_)
  refine seg_bind_wrap (wpAny_mono h (fun v s1 h1 => ?_) fun _ _ x => x)
  refine seg_bind_wrap (wpAny_of_eq (hs v) ?_)
  refine seg_bind_wrap (wpAny_standAt ?_)
  refine seg_bind_wrap (wpAny_holding (wpAny_mono h1 (fun it s2 h2 => ?_) fun _ _ x => x))
  exact seg_call h2
def noted (env : Env) (e : Value) : Sem PySem.Fin := (do noteFrame e env; theTreesLotGoes e : Sem Unit).wrap (fun _ => .raise e) .raise id id
end
section
variable {prog : Program} {w : World} {A : Around} {R : GenEnd} {Y : Protocol} {n : Nat} {s₀ s : Shared} {fs : List Frame} {env : Env}
theorem seg_forLoopG {target : Expr} {it : Value} {body orelse : List Stmt}
    (h : wpAny (model prog w) (A.over (.forLoop target it body orelse env) fs) (pyNext it) (fun r s1 => match r with
      | none => Seg (model prog w) A R Y n s₀ (.forLoop target it body orelse env) (.pure (.again (.block orelse env))) fs s1
      | some v => wpAny (model prog w) (A.over (.forLoop target it body orelse env) fs) (letOwnedTupleGo target it v) (fun _ s2 => wpAny (model prog w) (A.over (.forLoop target it body orelse env) fs) (assign target env v) (fun _ s3 =>
          Seg (model prog w) A R Y n s₀ (.forLoop target it body orelse env) ((execs body env).wrap (fun f => match f with
            | .next | .cont => .pure (.again (.forLoop target it body orelse env))
            | .brk => .pure (.done .next)
            | .ret v => .pure (.done (.ret v))) (noted env) id id) fs s3)
          (fun x s' => Seg (model prog w) A R Y n s₀ (.forLoop target it body orelse env) (noted env x) fs s') s2)
        (fun x s' => Seg (model prog w) A R Y n s₀ (.forLoop target it body orelse env) (noted env x) fs s') s1)
      (fun x s' => Seg (model prog w) A R Y n s₀ (.forLoop target it body orelse env) (noted env x) fs s') s) :
    Seg (model prog w) A R Y n s₀ (.forLoop target it body orelse env) ((model prog w).den (.forLoop target it body orelse env)) fs s := by
  have nt : ∀ e, ((do noteFrame e env; theTreesLotGoes e : Sem Unit).bind fun _ => (.raise e : Sem PySem.Fin)) = noted env e := fun e => by rw [Sem.bind_eq_wrap]; rfl
  show Seg _ A R Y n s₀ _ ((forTurn target it body orelse env).onRaise (fun x => do noteFrame x env; theTreesLotGoes x)) fs s
  rw [Sem.onRaise_eq_wrap, Sem.wrap_congr (forTurn target it body orelse env) _ _ (K' := Sem.pure) (H' := noted env) (fun _ => rfl) nt]
  unfold forTurn
  refine seg_bind_wrap (wpAny_standAt ?_)
  refine seg_bind_wrap (wpAny_onRaise (wpAny_mono h (fun r s1 h1 => ?_) fun x s1 h1 => wpAny_standAt h1))
  cases r with
  | none => exact h1
  | some v =>
    refine seg_bind_wrap (wpAny_mono h1 (fun _ s2 h2 => ?_) fun _ _ x => x)
    refine seg_bind_wrap (wpAny_mono h2 (fun _ s3 h3 => ?_) fun _ _ x => x)
    rw [Sem.bind_eq_wrap', Sem.wrap_wrap]
    refine Eq.mpr (congrArg (fun t => Seg (model prog w) A R Y n s₀ (.forLoop target it body orelse env) t fs s3) ?_) h3
    exact Sem.wrap_congr _ id id (fun f => by cases f <;> rfl) (fun _ => rfl)
end
def tGFor (wi : TI) (g : TG) (tb : TGn) : TGn := fun D ys σ H => wi σ H fun J H1 => ∃ W : Nat → Nat → List V → L2.St → Hp → Prop, (∃ m, W 0 m ys σ H1) ∧ ∀ i m ys σ H, W i m ys σ H →
  (J.stop i H ∧ D.nx ys σ H) ∨ (J.go i H ∧ ∃ N : List V → L2.St → Hp → Prop, (∀ ys' σ' H', N ys' σ' H' → ∃ m', m' < m ∧ W (i + 1) m' ys' σ' H') ∧ ∀ x H', J.yld i H x H' → g x σ H' fun σ2 H2 => tb { D with nx := N, ct := N, bk := D.nx } ys σ2 H2)
section
variable {X : Cx}
theorem gs_for {tg iter : Expr} {body : List Stmt} {pos : Pos} {wi : TI} {g : TG} {tb : TGn} (hp : PassesOwn (model X.prog X.w) X.A X.env X.xe) (hc : X.calm = true) (hi : PI X tg iter wi) (hg : PG X tg g) (hb : GSs X body tb)
    (hs : ∀ x, foldedSetIterable iter X.env x = pure x := by intro _; rfl) : GS X (.For tg iter body [] pos) (tGFor wi g tb) := by
  refine ⟨fun A S ip R n ys s₀ c fs K J gd lv s σ H D gc hn k hI ht => ?_⟩
  obtain ⟨acc0, cc0, r0, I0⟩ := hI
  refine seg_ForG ?_ hs
  rw [gc.over]
  refine wpAny_mono (hi.run _ s σ H _ I0 ht) (fun v s1 h1 => wpAny_mono h1 (fun itv s2 h2 p => ?_) fun x s' hx => k.exc n s₀ x s' hx) fun x s' hx => k.exc n s₀ x s' hx
  obtain ⟨it, fp, tn, It, H2, e, I2, T, st2, f2, W, ⟨m0, w0⟩, turn⟩ := h2
  subst e
  have gl := fun (kk : Result → Sem PySem.Fin) => gc_loop (k := kk) (c' := .forLoop tg (.ref it) body [] X.env) (l := lv []) (kp := []) (p := p) gc rfl rfl
  have stat : ∀ {H' : Hp} {acc : Array Value} {cc : Nat}, (∀ b ∈ fp, H' b = none) → ∀ b ∈ fp, FpOk X ((S, lstObj acc cc) :: ip) H' b := fun {H' acc cc} hn b hb => by
    obtain ⟨_, f1, f3, f4, f5, f6⟩ := f2 b hb
    refine ⟨hn b hb, f1, f3, f4, f5, fun q hq => ?_⟩
    rcases List.mem_append.mp hq with z | z
    · exact f6 q (List.mem_append_left _ z)
    · rcases List.mem_cons.mp z with z | z
      · rw [z]
        exact f6 (S, lstObj acc0 cc0) (List.mem_append_right _ List.mem_cons_self)
      · exact f6 q (List.mem_append_right _ (List.mem_cons_of_mem _ z))
  have nS : ∀ b ∈ fp, b ≠ S := fun b hb z => (f2 b hb).2.2.2.2.2 (S, lstObj acc0 cc0) (List.mem_append_right _ List.mem_cons_self) z.symm
  have loop : ∀ (m i n : Nat) (ys : List V) (s₀ s : Shared) (σ : L2.St) (H : Hp), n + ys.length = sizeLine → W i m ys σ H → tn i s.heap → (∀ b ∈ fp, H b = none) → GI X S ip ys σ H s →
      Seg (model X.prog X.w) A R (GY X S) n s₀ (.forLoop tg (.ref it) body [] X.env) ((model X.prog X.w).den (.forLoop tg (.ref it) body [] X.env))
        (.ret (fun r => ((match r with | .ok f => (.pure f : Sem Flow) | .error e => .raise e).onRaise (cameBack X.env)).wrap K J gd lv) none (gd false) (lv []) c p [] :: fs) s := by
    intro m
    induction m using Nat.strongRecOn with
    | ind m ih =>
      intro i n ys s₀ s σ H hn w st fr hI
      have ee : ∀ (n : Nat) (s₀ : Shared) (x : Value) (s' : Shared), X.xe x s' → Seg (model X.prog X.w) A R (GY X S) n s₀ (.forLoop tg (.ref it) body [] X.env) (noted X.env x)
          (.ret (fun r => ((match r with | .ok f => (.pure f : Sem Flow) | .error e => .raise e).onRaise (cameBack X.env)).wrap K J gd lv) none (gd false) (lv []) c p [] :: fs) s' := fun n s₀ x s' hx => by
        unfold noted
        refine seg_wrap ?_
        rw [(gl _).over]
        refine wpAny_bind (wpAny_mono (hp x s' hx) (fun _ s3 hcb => wpAny_theTreesLotGoes ?_) fun y s3 hcb => ?_)
        · exact seg_leaf (.error x) (seg_cameBack gc k hcb)
        · exact seg_leaf (.error y) (seg_cameBack gc k hcb)
      refine seg_forLoopG ?_
      rw [(gl _).over]
      obtain ⟨acc, cc, r, I⟩ := hI
      rcases turn i m ys σ H w with ⟨stop, qn⟩ | ⟨go, N, hN, step⟩
      · refine wpAny_mono (T.done X rfl rfl rfl hc i _ s σ H X.xe I (stat fr) st stop) (fun r1 s4 hr => ?_) fun x s' hx => ee n s₀ x s' hx
        obtain ⟨hr, I4⟩ := hr
        subst hr
        refine seg_again rfl ?_
        show Seg _ _ _ _ _ _ _ (((execs [] X.env).onRaise _) >>= _) _ _
        rw [Sem.onRaise_eq_wrap, Sem.bind_eq_wrap', Sem.wrap_wrap]
        refine seg_execs_nil ?_
        exact seg_leaf (.ok .next) (k.ok n ys s₀ s4 .next hn ⟨σ, H, ⟨acc, cc, r, I4⟩, qn⟩)
      · refine wpAny_mono (T.item X rfl rfl rfl hc i _ s σ H X.xe I (stat fr) st go) (fun r1 s4 hr => ?_) fun x s' hx => ee n s₀ x s' hx
        obtain ⟨u, hr, h4⟩ := hr
        subst hr
        refine wpAny_mono h4 (fun _ s5 h5 => ?_) fun x s' hx => ee n s₀ x s' hx
        obtain ⟨x, H5, I5, r5, y5, st5, fr5⟩ := h5
        have I5' := I5.pinned (stat fr5) (T.obj _ _ st5)
        refine wpAny_mono (hg.run _ s5 σ H5 x u _ I5' r5 (step x H5 y5)) (fun _ s6 h6 => ?_) fun x s' hx => ee n s₀ x s' hx
        obtain ⟨σ6, H6, I6, q6⟩ := h6
        have gi : ∀ q ∈ ip ++ pinsAt fp s5.heap, q.1 ≠ S := fun q hq => by
          rcases List.mem_append.mp hq with z | z
          · exact gc.ip q z
          · exact nS _ (of_pinsAt z).1
        have gl' : GC X S (ip ++ pinsAt fp s5.heap) A (.forLoop tg (.ref it) body [] X.env) (.ret (fun r => ((match r with | .ok f => (.pure f : Sem Flow) | .error e => .raise e).onRaise (cameBack X.env)).wrap K J gd lv) none (gd false) (lv []) c p [] :: fs) id := { gl _ with ip := gi }
        have un : ∀ {ys7 : List V} {σ7 : L2.St} {H7 : Hp} {s7 : Shared}, GI X S (ip ++ pinsAt fp s5.heap) ys7 σ7 H7 s7 → GI X S ip ys7 σ7 H7 s7 ∧ tn (i + 1) s7.heap ∧ ∀ b ∈ fp, H7 b = none := fun {ys7 σ7 H7 s7} ⟨acc7, c7, r7, I7⟩ => by
          have I7' : Inv X (((S, lstObj acc7 c7) :: ip) ++ pinsAt fp s5.heap) σ7 H7 s7 := I7
          refine ⟨⟨acc7, c7, r7, I7'.unpinned⟩, T.keep _ _ _ st5 fun b hb o e => (I7'.pin (b, o) (List.mem_append_right _ (List.mem_append_right _ (mem_pinsAt hb e)))).1, fun b hb => ?_⟩
          obtain ⟨o, e, d⟩ := T.obj _ _ st5 b hb
          exact (I7'.pin (b, o) (List.mem_append_right _ (List.mem_append_right _ (mem_pinsAt hb e)))).2.1
        refine hb.run A S (ip ++ pinsAt fp s5.heap) R n ys s₀ _ _ _ _ id id s6 σ6 H6 { D with nx := N, ct := N, bk := D.nx } gl' hn ⟨fun n' ys' s₀' s7 f hn' hs7 => ?_, fun n' s₀' x s7 hx => ee n' s₀' x s7 hx⟩ ⟨acc, cc, r, I6⟩ q6
        cases f with
        | next =>
          obtain ⟨σ7, H7, I7, n7⟩ := hs7
          obtain ⟨m', hm, w7⟩ := hN ys' σ7 H7 n7
          obtain ⟨I8, t8, f8⟩ := un I7
          exact seg_again rfl (ih m' hm (i + 1) n' ys' s₀' s7 σ7 H7 hn' w7 t8 f8 I8)
        | cont =>
          obtain ⟨σ7, H7, I7, n7⟩ := hs7
          obtain ⟨m', hm, w7⟩ := hN ys' σ7 H7 n7
          obtain ⟨I8, t8, f8⟩ := un I7
          exact seg_again rfl (ih m' hm (i + 1) n' ys' s₀' s7 σ7 H7 hn' w7 t8 f8 I8)
        | brk =>
          obtain ⟨σ7, H7, I7, q7⟩ := hs7
          exact seg_leaf (.ok .next) (k.ok n' ys' s₀' s7 .next hn' ⟨σ7, H7, (un I7).1, q7⟩)
        | ret v =>
          obtain ⟨x7, σ7, H7, I7, rv, q7⟩ := hs7
          exact seg_leaf (.ok (.ret v)) (k.ok n' ys' s₀' s7 (.ret v) hn' ⟨x7, σ7, H7, (un I7).1, rv, q7⟩)
  exact loop m0 0 n ys s₀ s2 σ H2 hn w0 st2 (fun b hb => (f2 b hb).1) ⟨acc0, cc0, r0, I2⟩
end
end Ct
namespace Ct
open PySem PySem.Spec PyProof.Rows GenW L2 StX
section
variable {P : Program} {w : World} {K : PySem.W.Frag} {mg : Str → Option Value} {base : Heap}
theorem _root_.L2.Fun.gfn {x qual : Str} {st : Stmt} {f : Addr} {fd : FuncData} {N ps : List Str} {k : Nat} {sp : SpG} (F : Fun K x qual st f fd) (S : GScope N ps (defScope st)) (len : ∀ vs H Q E, sp vs H Q E → vs.length = ps.length)
    (hbody : ∀ (cdv : Value) (A : Around) (outer : List Env) (s : Shared) (H : Hp) (vs : List V) (Q : List V → Hp → Prop) (E : XK) (pn : List (Addr × Obj)), Room k (A.deeper (envOfC qual (defScope st) s.heap.objs.size f cdv)) → sp vs H Q E →
      ∃ t, GSs (gcxOf P w K mg base N qual (defScope st) f cdv A outer s H E pn) (defBody st) t ∧ t { nx := fun ys _ H' => Q ys H', rt := fun ys v H' => v = .non ∧ Q ys H' } [] (L2.start N vs) H) : GFn P w K mg base (k + 1) f fd ps sp := by
  obtain ⟨oc, od, kV, doc, pm, an, cdv, ct, osl, rfl, lk, hcd⟩ := F.ex
  exact gfn_of lk hcd S len fun A outer s H vs Q E pn hr hsp => hbody cdv A outer s H vs Q E pn hr hsp
theorem noStop0 {K : PySem.W.Frag} : NoStop K E0 := fun _ _ _ h => h.elim
theorem passG {X : Cx} : Passes (CX X.prog X.w) X E0 := fun pins σ H s e s' I h => by
  obtain ⟨_, _, _, _, _, _, _, _, _, _, _, _, hW⟩ := h
  exact hW.elim
end
section
variable {K : PySem.W.Frag} {D : GEnds} {ys : List V} {σ : L2.St} {H : Hp}
theorem g_then {t u : TGn} (h : t { D with nx := fun ys' σ' H' => u D ys' σ' H' } ys σ H) : tGThen t u D ys σ H := h
theorem g_nil (h : D.nx ys σ H) : tG0 D ys σ H := h
theorem g_plain {t : TS} (h : t (D.at ys) σ H) : tPlain t D ys σ H := h
theorem g_yield {te : TE} (hz : ys.length < sizeLine) (h : te σ H fun x H1 => D.nx (ys ++ [x]) σ H1) : tGYield te D ys σ H := ⟨hz, h⟩
/-- a for over what x is, within a generator -/
def FgGo (K : PySem.W.Frag) (x : V) (g : TG) (tb : TGn) (D : GEnds) (ys : List V) (σ : L2.St) (H : Hp) : Prop := ∃ a, x = V.ref a ∧ (∃ xs, SqL K H a xs) ∧ ∃ W : Nat → Nat → List V → L2.St → Hp → Prop, (∃ m, W 0 m ys σ H) ∧ ∀ i m ys σ H, W i m ys σ H →
  ((Itl K a).stop i H ∧ D.nx ys σ H) ∨ ((Itl K a).go i H ∧ ∃ N : List V → L2.St → Hp → Prop, (∀ ys' σ' H', N ys' σ' H' → ∃ m', m' < m ∧ W (i + 1) m' ys' σ' H') ∧ ∀ x H', (Itl K a).yld i H x H' → g x σ H' fun σ2 H2 => tb { D with nx := N, ct := N, bk := D.nx } ys σ2 H2)
theorem r_fgL {tl : TE} {g : TG} {tb : TGn} (h : tl σ H fun x H1 => FgGo K x g tb D ys σ H1) : tGFor (iList K tl) g tb D ys σ H := h
theorem fgL {a : Addr} {xs : List V} {g : TG} {tb : TGn} (hl : SqL K H a xs) (Pv : Nat → List V → L2.St → Hp → Prop) (h0 : Pv 0 ys σ H) (hk : ∀ i ys σ H, i ≤ xs.length → Pv i ys σ H → SqL K H a xs)
    (hs : ∀ i x ys σ H, i < xs.length → xs[i]? = some x → Pv i ys σ H → g x σ H fun σ2 H2 => tb { D with nx := Pv (i + 1), ct := Pv (i + 1), bk := D.nx } ys σ2 H2) (hd : ∀ ys σ H, Pv xs.length ys σ H → D.nx ys σ H) : FgGo K (.ref a) g tb D ys σ H := by
  refine ⟨a, rfl, ⟨xs, hl⟩, fun i m ys σ H => m = xs.length - i ∧ i ≤ xs.length ∧ Pv i ys σ H, ⟨xs.length, rfl, Nat.zero_le _, h0⟩, ?_⟩
  rintro i m ys σ H ⟨rfl, hi, p⟩
  have q := hk i ys σ H hi p
  by_cases lt : i < xs.length
  · refine .inr ⟨⟨xs, xs[i], q, List.getElem?_eq_getElem lt⟩, Pv (i + 1), fun ys' σ' H' p' => ⟨xs.length - (i + 1), by omega, rfl, lt, p'⟩, fun x H' y => ?_⟩
    obtain ⟨e, y⟩ := y
    subst e
    exact hs i x ys σ _ lt (y xs q) p
  · obtain rfl : i = xs.length := by omega
    exact .inl ⟨⟨xs, q, Nat.le_refl _⟩, hd ys σ H p⟩
end
end Ct
end
section
set_option Elab.async false
set_option linter.all false
set_option maxRecDepth 100000
set_option maxHeartbeats 4000000
/-! o(e, ..), o a local name that holds an instance of an own class with __call__. -/
namespace Ct
open PySem PySem.Spec PyProof.Rows L2
theorem inst_call {prog : Program} {w : World} {A : Around} {s : Shared} {K : PySem.W.Frag} {x C f : Addr} {ox : Obj} {od : Option Obj} {args : List Value} {kw : List (Str × Value)} {R : Result → Shared → Prop} (X : K.In s.heap) (I : PySem.W.InstAt s.heap x ox C od) (hp : ox.data = .plain)
    (hs : PySem.W.findIn K (.ref C) "__call__" = some (some (.ref f))) (hf : PySem.W.isFn K (.ref f) = true) (hn : PySem.W.fnIn K f = true) (h : codeAny (model prog w) A (.call (.ref f) ⟨.ref x :: args, kw⟩) R s) : codeAny (model prog w) A (.call (.ref x) ⟨args, kw⟩) R s := by
  refine codeAny_of_tree ?_
  show wpAny _ _ (callAny (.ref x) ⟨args, kw⟩) _ _ _
  unfold callAny
  refine wpAny_bind (wpAny_load I.at_ ?_)
  rw [hp]
  show wpAny _ _ (callAny.viaDunder (.ref x) ⟨args, kw⟩) _ _ _
  unfold callAny.viaDunder
  refine wpAny_bind (wpAny_bind (I.type.here ((PySem.W.looks_findIn X hs).here ?_)))
  refine wpAny_bind ((PySem.W.bind_fn X _ (beq_iff_eq.mp hf)).here ?_)
  refine wpAny_bind ?_
  unfold PySem.W.fnIn at hn
  split at hn
  · rename_i e
    refine wpAny_bind (wpAny_load (X _ _ e) (wpAny_pure ?_))
    exact wpAny_pure ⟨rfl, h⟩
  · cases hn
def tCallO (i : Nat) (C : Addr) (sp : Sp) (E : XK) (t : TA) : TE := fun σ H Q => ∃ a, σ[i]? = some (some (.ref a)) ∧ t σ H fun vs H1 => (∃ dx fs, H1 a = some (.ins C dx fs)) ∧ sp (.ref a :: vs) H1 Q E
theorem r_callO {i : Nat} {C a : Addr} {sp : Sp} {E : XK} {t : TA} {σ : L2.St} {H : Hp} {Q : VK} (h1 : σ[i]? = some (some (.ref a))) (h : t σ H fun vs H1 => (∃ dx fs, H1 a = some (.ins C dx fs)) ∧ sp (.ref a :: vs) H1 Q E) : tCallO i C sp E t σ H Q := ⟨a, h1, h⟩
section
variable {X : Cx} {CX : CXT} {k i : Nat} {f C : Addr} {fd : FuncData} {ps : List Str} {sp : Sp} {E : XK} {x : Str} {p pos : Pos} {e : Expr} {es : List Expr} {t : TA}
theorem pe_callO (F : FnOk X.prog X.w X.K X.mg X.base CX k f fd ps sp) (me : Meth X.K C "__call__" f) (hn : PySem.W.fnIn X.K f = true) (hr : Room k X.A) (hb : Binds X.K fd ps []) (hx : Passes CX X E) (hN : X.N[i]? = some x) (hv : Vis X.env.scope x) (ha : PA X (e :: es) t)
    (h1 : (x == ("__debug__" : Str)) = false := by decide) (h2 : (x == ("__classdict__" : Str)) = false := by decide)
    (he : starEach (e :: es) X.env = (false, eval e X.env) :: starEach es X.env := by rfl) (hpl : (backTo pos (starEach es X.env)).any (·.1) = false := by rfl) : PE X (.Call (.Name x p) (e :: es) [] pos) (tCallO i C sp E t) := by
  refine ⟨fun pins s σ H Q I h => ?_⟩
  obtain ⟨a, hs, h⟩ := h
  have rd := (pe_var (pos := p) (i := i) hN hv h1 h2).run pins s σ H (fun v H1 => v = .ref a ∧ H1 = H) I ⟨.ref a, hs, rfl, rfl⟩
  refine wpAny_Call_Name_kw (thn rd fun u s1 ⟨v, H1, I1, r1, ev, eH⟩ => ?_)
  subst ev
  subst eH
  cases r1
  have hpl' : ((backTo pos (starEach (e :: es) X.env)).any (·.1)) = false := by
    rw [he]
    exact hpl
  rw [he] at hpl' ⊢
  have hz : ((backTo pos ((false, eval e X.env) :: starEach es X.env)).any (·.1) || (backToKw pos (keywordEach [] X.env)).any (·.1.isNone)) = false := by
    rw [hpl']
    rfl
  have hrun := ha.run pos pins s1 σ H1 _ I1 h
  rw [he] at hrun
  unfold callWith
  simp only [hz]
  refine wpAny_bind (wpAny_holding (Calls.evalArgs_plain (thn hrun fun us s2 ⟨vs, H2, I2, r, ⟨dx, fs, hin⟩, q⟩ => ?_)))
  obtain ⟨mA, O, _⟩ := ins_get I2.hok hin
  obtain ⟨od, J, _⟩ := O.look
  have keeper : PySem.W.Looks (model X.prog X.w) s2.heap (keeperOf (.ref a)) .caller := fun A Q E s k q => by
    unfold keeperOf
    exact wpAny_bind (wpAny_load (k _ _ O.obj) (wpAny_pure q))
  refine wpAny_bind (wpAny_standAt (wpAny_bind (keeper.here ?_)))
  have main : wpAny (model X.prog X.w) X.A (call (.ref a) us []) (EP X pins σ Q) X.xe s2 := wpAny_call (inst_call I2.kIn J rfl me.at_ me.fn hn (run_fnR (F.raw hb .nil) hr hx I2 (us := .ref a :: us) (vs := .ref a :: vs) (.cons rfl r) (by rw [List.append_nil]; exact q)))
  refine wpAny_bind (wpAny_operateT (wpAny_mono main (fun v s3 hv => ?_) fun _ _ x => x))
  exact wpAny_bind (wpAny_holding (wpAny_point (wpAny_pure hv)))
end
end Ct
end
section
set_option Elab.async false
set_option linter.all false
set_option maxRecDepth 100000
set_option maxHeartbeats 4000000
/-! == and != of an instance with an own == and any object. -/
namespace Ct
open PySem PySem.Spec PyProof.Rows L2
/-- object.__ne__ of an instance with an own ==, which tells by a truth value -/
theorem obj_ne {prog : Program} {w : World} {A : Around} {E : Value → Shared → Prop} {s : Shared} {K : PySem.W.Frag} {x C f : Addr} {ox : Obj} {od : Option Obj} {b : Value} {Q : Value → Shared → Prop} (hu : A.in1.units < cLine) (X : K.In s.heap) (I : PySem.W.InstAt s.heap x ox C od)
    (ho : PySem.W.mroIn K C (.type "object") = some true) (hs : PySem.W.findIn K (.ref C) "__eq__" = some (some (.ref f))) (hf : PySem.W.isFn K (.ref f) = true)
    (h : wpAny (model prog w) A.in1 (call (.ref f) [.ref x, b]) (fun v s' => ∃ k, v = .bool k ∧ Q (.bool !k) s') E s) : wpAny (model prog w) A (call (.builtin "object.__ne__") [.ref x, b]) Q E s := by
  have sub : PySem.W.Looks (model prog w) s.heap (isInstance (.ref x) (.type "object")) true := I.type.andThen (PySem.W.looks_mroIn X ho)
  refine wpAny_call (codeAny_call_builtin PySem.F.cmp_object.ne.plain PySem.F.cmpEntry_ne (PySem.W.check_slot PySem.F.cmpKind_ne PySem.F.cmpSplit_ne sub (PySem.F.cmpArgs_ne _ _) ?_))
  unfold Builtin.«object.__ne__»
  refine wpAny_bind (wpAny_pure ?_)
  refine wpAny_bind (wpAny_cRoomFor hu ?_)
  refine wpAny_bind (PySem.W.ifBound_K X I hs hf (wpAny_mono h (fun v s' hv => ?_) fun _ _ x => x))
  obtain ⟨k, rfl, q⟩ := hv
  refine wpAny_bind (wpAny_truthy_bool ?_)
  exact wpAny_pure q
theorem ne_K {prog : Program} {w : World} {A : Around} {E : Value → Shared → Prop} {s : Shared} {K : PySem.W.Frag} {x C f : Addr} {ox : Obj} {od : Option Obj} {b tb : Value} {Q : Value → Shared → Prop} (hu : A.units + 1 < cLine) (X : K.In s.heap) (I : PySem.W.InstAt s.heap x ox C od) (hb : PySem.W.Looks (model prog w) s.heap (typeOf b) tb) (hn : PySem.W.notFirst K C tb = true)
    (ho : PySem.W.mroIn K C (.type "object") = some true) (hne : PySem.W.findIn K (.ref C) "__ne__" = some (some (.builtin "object.__ne__"))) (hs : PySem.W.findIn K (.ref C) "__eq__" = some (some (.ref f))) (hf : PySem.W.isFn K (.ref f) = true)
    (h : wpAny (model prog w) A.in1 (call (.ref f) [.ref x, b]) (fun v s' => ∃ k, v = .bool k ∧ Q (.bool !k) s') E s) : wpAny (model prog w) A (richCompare .NotEq (.ref x) b) Q E s := by
  have bound : wpAny (model prog w) A (callSpecialIfBound? (.ref x) "__ne__" [b]) (fun r s' => ∃ k, r = some (.bool k) ∧ Q (.bool k) s') E s := by
    have fin : wpAny (model prog w) A (call (.builtin "object.__ne__") ([.ref x] ++ [b]) >>= fun v => pure (some v)) (fun r s' => ∃ k, r = some (.bool k) ∧ Q (.bool k) s') E s :=
      wpAny_bind (wpAny_mono (obj_ne (Q := fun v s' => ∃ k, v = .bool k ∧ Q (.bool k) s') hu X I ho hs hf (wpAny_mono h (fun v s' ⟨k, e, q⟩ => ⟨k, e, _, rfl, q⟩) fun _ _ x => x)) (fun v s' ⟨k, e, q⟩ => wpAny_pure ⟨k, congrArg some e, q⟩) fun _ _ x => x)
    unfold callSpecialIfBound? bindSpecialIfBound?
    refine wpAny_holding (wpAny_bind (wpAny_bind (wpAny_bind (I.type.here ((PySem.W.looks_findIn X hne).here ?_)))))
    refine wpAny_bind (wpAny_askSetting (wpAny_ite ?_))
    rw [PySem.F.cmp_object.ne.bind]
    split
    · exact wpAny_bind (wpAny_pure (wpAny_pure (by exact fin)))
    · exact wpAny_tryCatch (wpAny_bind (wpAny_pure (wpAny_pure (by exact fin))))
  have one : wpAny (model prog w) A (tryCompare (.ref x) "__ne__" b) (fun r s' => ∃ k, r = some (.bool k) ∧ Q (.bool k) s') E s := by
    unfold tryCompare
    refine wpAny_bind (wpAny_mono bound (fun r s' hr => ?_) fun _ _ x => x)
    obtain ⟨k, rfl, q⟩ := hr
    exact wpAny_pure ⟨k, rfl, q⟩
  unfold richCompare
  simp only [oneThing_ref]
  refine wpAny_holding (wpAny_bind (wpAny_cRoomFor (by omega) ?_))
  refine wpAny_bind (I.type.here (wpAny_bind (hb.here ?_)))
  split
  · rename_i q
    have e : PySem.W.subIn K tb (.ref C) = some false := by
      rcases Bool.or_eq_true_iff.mp hn with e | e
      · rw [beq_iff_eq.mp e] at q
        simp at q
      · exact beq_iff_eq.mp e
    refine wpAny_bind ((PySem.W.looks_subIn X e).here ?_)
    simp only [Bool.false_eq_true, if_false]
    refine wpAny_bind (wpAny_mono one (fun r s' hr => ?_) fun _ _ x => x)
    obtain ⟨k, rfl, q2⟩ := hr
    exact wpAny_pure q2
  · refine wpAny_bind (wpAny_pure ?_)
    simp only [Bool.false_eq_true, if_false]
    exact wpAny_bind (wpAny_mono one (fun r s' ⟨k, er, q2⟩ => er ▸ wpAny_pure q2) fun _ _ x => x)
section
variable {X : Cx} {n : Nat} {f C : Addr} {fd : FuncData} {ps : List Str} {sp : Sp}
/-- == (neg: !=) of an instance and anything -/
def rEqA (K : PySem.W.Frag) (C : Addr) (sp : Sp) (neg : Bool) : R2 := fun x y H Q => ∃ a dx fs tb, x = .ref a ∧ H a = some (.ins C dx fs) ∧ TyX K H y tb ∧ PySem.W.notFirst K C tb = true ∧ sp [.ref a, y] H (fun v H' => ∃ k, v = .bl k ∧ Q (.bl (k != neg)) H') E0
theorem op_eqA (F : FnOk X.prog X.w X.K X.mg X.base CX0 n f fd ps sp) (me : Meth X.K C "__eq__" f) (hb : Binds X.K fd ps []) (hr : Room n X.A) : OpR X (compareOp .Eq) (rEqA X.K C sp false) := by
  intro pins s σ H x y v u Q I rx ry hq
  obtain ⟨a, dx, fs, tb, rfl, ha, ty, nf, h⟩ := hq
  cases rx
  obtain ⟨mA, O, _⟩ := ins_get I.hok ha
  obtain ⟨od, J, _⟩ := O.look
  obtain ⟨P, Z, p, _⟩ := kit_of I ry ty
  obtain ⟨m, hF⟩ := I.fr
  show wpAny (model X.prog X.w) X.A (richCompare .Eq (.ref a) u) (EP X pins σ Q) X.xe s
  refine PySem.W.cmp_K (op := .Eq) (tb := tb) hr.units0 hF I.ok.mod.kin J (Z.ty _ _ I.kIn p) nf me.at_ me.fn ?_
  refine thn (own_run (vs := [V.ref a, y]) F hb hr rfl I (.cons rfl (.cons ry .nil)) h) fun w s' ⟨z, H', I', rz, k, ez, q⟩ => ?_
  subst ez
  cases rz
  exact ⟨.bl k, H', I', rfl, by simpa using q⟩
theorem op_neA (F : FnOk X.prog X.w X.K X.mg X.base CX0 n f fd ps sp) (me : Meth X.K C "__eq__" f) (ho : PySem.W.mroIn X.K C (.type "object") = some true) (hne : PySem.W.findIn X.K (.ref C) "__ne__" = some (some (.builtin "object.__ne__"))) (hb : Binds X.K fd ps []) (hr : Room (n + 1) X.A) (hu : X.A.units + 64 < cLine) : OpR X (compareOp .NotEq) (rEqA X.K C sp true) := by
  intro pins s σ H x y v u Q I rx ry hq
  obtain ⟨a, dx, fs, tb, rfl, ha, ty, nf, h⟩ := hq
  cases rx
  obtain ⟨mA, O, _⟩ := ins_get I.hok ha
  obtain ⟨od, J, _⟩ := O.look
  obtain ⟨P, Z, p, _⟩ := kit_of I ry ty
  show wpAny (model X.prog X.w) X.A (richCompare .NotEq (.ref a) u) (EP X pins σ Q) X.xe s
  refine ne_K (tb := tb) (by omega) I.kIn J (Z.ty _ _ I.kIn p) nf ho hne me.at_ me.fn ?_
  refine thn (own_run (vs := [V.ref a, y]) F hb hr.in1 rfl I (.cons rfl (.cons ry .nil)) h) fun w s' ⟨z, H', I', rz, k, ez, q⟩ => ?_
  subst ez
  cases rz
  exact ⟨k, rfl, .bl (!k), H', I', rfl, by cases k <;> simpa using q⟩
theorem op_eqAK {K : PySem.W.Frag} (hK : X.K = K) (F : FnOk X.prog X.w X.K X.mg X.base CX0 n f fd ps sp) (me : Meth X.K C "__eq__" f) (hb : Binds X.K fd ps []) (hr : Room n X.A) : OpR X (compareOp .Eq) (rEqA K C sp false) := hK ▸ op_eqA F me hb hr
theorem op_neAK {K : PySem.W.Frag} (hK : X.K = K) (F : FnOk X.prog X.w X.K X.mg X.base CX0 n f fd ps sp) (me : Meth X.K C "__eq__" f) (ho : PySem.W.mroIn X.K C (.type "object") = some true) (hne : PySem.W.findIn X.K (.ref C) "__ne__" = some (some (.builtin "object.__ne__"))) (hb : Binds X.K fd ps []) (hr : Room (n + 1) X.A) (hu : X.A.units + 64 < cLine) : OpR X (compareOp .NotEq) (rEqA K C sp true) := hK ▸ op_neA F me ho hne hb hr hu
end
end Ct
end
section
set_option Elab.async false
set_option linter.all false
set_option maxRecDepth 100000
set_option maxHeartbeats 8000000
namespace Ct
open PySem PySem.Spec L2 StX

local macro_rules | `(tactic| wtm_at "hp") => `(tactic| first
  | assumption
  | exact (‹Same _ _›) _ _ (by wtm_at "hp")
  | exact (‹But _ _ _›) _ _ (by wtm_at "ne") (by wtm_at "hp"))
local macro_rules | `(tactic| wtm_at "hpL") => `(tactic| first | exact SqL.of (by wtm_at "hp") | assumption)
local macro_rules | `(tactic| wtm_at "hpT") => `(tactic| first | exact SqT.of (by wtm_at "hp") | assumption)
local macro_rules | `(tactic| wtm_at "ne") => `(tactic| first
  | assumption
  | exact Ne.symm (by assumption)
  | exact ne_lst_tup (by wtm_at "hp") (by wtm_at "hp")
  | exact ne_tup_lst (by wtm_at "hp") (by wtm_at "hp")
  | exact ne_of_none (by wtm_at "hp") (by assumption)
  | exact Ne.symm (ne_of_none (by wtm_at "hp") (by assumption)))
local macro_rules | `(tactic| wtm_at "c") => `(tactic| first
  | omega
  | (unfold CMul; omega)
  | (unfold CDiv; omega)
  | (unfold CPow; omega))
local macro_rules | `(tactic| wtm_at "sz") => `(tactic| first
  | exact sz64 rfl
  | exact (by decide)
  | (show _ ≤ sizeLine; rw [sizeLine_eq]; omega)
  | (show _ < sizeLine; rw [sizeLine_eq]; omega))
local macro_rules | `(tactic| wtm_at "go1") => `(tactic| first
  | with_reducible refine r_seq ?_
  | with_reducible refine r_op ?_
  | ((with_reducible refine' r_var ?rv ?_); (case rv => exact rfl))
  | with_reducible refine r_c ?_
  | with_reducible refine r_asg ?_
  | with_reducible refine r_name ?_
  | with_reducible refine r_i0 ?_
  | ((with_reducible refine' r_i ?rc ?_); (case rc => wtm_at "c"))
  | ((with_reducible refine' r_ixL ?r1 ?r2 ?_); (case r1 => wtm_at "hpL"); (case r2 => first | exact rfl | assumption))
  | ((with_reducible refine' r_ixT ?r1 ?r2 ?_); (case r1 => wtm_at "hpT"); (case r2 => first | exact rfl | assumption))
  | with_reducible refine r_consA ?_
  | with_reducible refine r_nilA ?_
  | with_reducible refine r_call ?_
  | with_reducible refine r_cb ?_
  | with_reducible refine r_test ?_
  | with_reducible refine r_exb ?_
  | ((with_reducible refine r_eq ?rq ?_); (case rq => exact rfl))
  | ((with_reducible refine r_ne ?rq ?_); (case rq => exact rfl))
  | with_reducible refine r_ret ?_
  | with_reducible refine r_if ?_
  | with_reducible refine r_next ?_
  | with_reducible refine r_drop ?_
  | with_reducible refine r_gsub ?_
  | ((with_reducible refine' r_setL ?r1 ?r2 ?_); (case r1 => wtm_at "hp"); (case r2 => exact rfl))
  | with_reducible refine r_b ?_
  | with_reducible refine r_and ?_
  | with_reducible refine r_or ?_
  | with_reducible refine r_not ?_
  | with_reducible refine r_andV ?_
  | with_reducible refine r_orV ?_
  | with_reducible refine r_notV ?_
  | with_reducible refine r_ifE ?_
  | with_reducible refine r_chain ?_
  | with_reducible refine r_u ?_
  | with_reducible refine r_un ?_
  | with_reducible refine r_fld ?_
  | with_reducible refine r_fldS ?_
  | with_reducible refine r_lst ?_
  | with_reducible refine r_tup ?_
  | with_reducible refine r_par ?_
  | with_reducible refine r_par3 ?_
  | with_reducible refine r_retN ?_
  | with_reducible refine r_gcons ?_
  | with_reducible refine r_gnil ?_
  | ((with_reducible refine' r_gtup ?r1 ?r2 ?_); (case r1 => wtm_at "hpT"); (case r2 => exact rfl))
  | with_reducible refine r_bm ?_
  | with_reducible refine r_bm0 ?_
  | with_reducible refine r_lcL ?_
  | with_reducible refine r_foL ?_
  | with_reducible refine r_foR ?_
  | with_reducible refine r_yes ?_
  | ((with_reducible refine' r_wipe ?rw ?_); (case rw => exact rfl))
  | ((with_reducible refine' r_tyL ?r1 ?_); (case r1 => wtm_at "hpL"))
  | ((with_reducible refine' r_append ?r1 ?r2 ?_); (case r1 => wtm_at "hp"); (case r2 => wtm_at "sz"))
  | with_reducible refine r_dput ?_
  | with_reducible refine r_dget ?_
  | with_reducible refine r_dget2 ?_
  | with_reducible refine r_dnew ?_
  | with_reducible refine iteT ?_
  | with_reducible refine iteF ?_
  | with_reducible refine iteNT ?_
  | with_reducible refine iteNF ?_)
local macro_rules | `(tactic| wtm_at "go") => `(tactic| repeat wtm_at "go1")

/-- an object that is no instance of C, by its type -/
structure OT (K : PySem.W.Frag) (C : Addr) (t : Value) : Prop where
  kit : PySem.W.kitOne K t (.ref C) = some false
  nf : PySem.W.notFirst K C t = true
def top (i : Nat) : Stmt := PySem.Challenge.pw_cuptalk_k10_cups_compared.main.body.getD i (.Pass ⟨0, 0, 0, 0⟩)
abbrev s_is_integer : Stmt := top 12
abbrev s_is_size : Stmt := top 13
abbrev s_is_player : Stmt := top 14
abbrev s_is_number : Stmt := top 15
abbrev s_is_pair : Stmt := top 16
abbrev s_is_result : Stmt := top 17
abbrev s_is_claim : Stmt := top 18
abbrev s_is_short_list : Stmt := top 19
abbrev s_check_size : Stmt := top 20
abbrev s_check_results : Stmt := top 21
abbrev s_check_claims : Stmt := top 22
abbrev s_greatest_claims : Stmt := top 25
abbrev s_Talk___init__ : Stmt := inClass (top 26) 0
abbrev s_Talk_size : Stmt := inClass (top 26) 1
abbrev s_Talk_results : Stmt := inClass (top 26) 2
abbrev s_Talk_claims : Stmt := inClass (top 26) 3
abbrev s_Talk___len__ : Stmt := inClass (top 26) 4
abbrev s_Talk___eq__ : Stmt := inClass (top 26) 5
abbrev s_is_order : Stmt := top 29
abbrev s_is_list_of_rounds : Stmt := top 30
abbrev s_rounds_of_order : Stmt := top 31
abbrev s_order_of_rounds : Stmt := top 32
abbrev s_Cup___init__ : Stmt := inClass (top 33) 0
abbrev s_Cup_of : Stmt := inClass (top 33) 1
abbrev s_Cup_order : Stmt := inClass (top 33) 2
abbrev s_Cup_size : Stmt := inClass (top 33) 3
abbrev s_Cup___eq__ : Stmt := inClass (top 33) 5
abbrev s_Cup_rounds : Stmt := inClass (top 33) 11
abbrev s_Cup_matches : Stmt := inClass (top 33) 12
abbrev s_Cup_talk : Stmt := inClass (top 33) 13
abbrev s_law_feed : Stmt := top 35
abbrev s_law_pick : Stmt := top 36
abbrev s_law_shuffled : Stmt := top 37
abbrev s_law_players : Stmt := top 38
abbrev s_law_order : Stmt := top 39
abbrev s_law_played : Stmt := top 40
abbrev s_law_right : Stmt := top 41
abbrev s_law : Stmt := top 42
structure Ad where
  f_is_integer : Addr
  d_is_integer : FuncData
  f_is_size : Addr
  d_is_size : FuncData
  f_is_player : Addr
  d_is_player : FuncData
  f_is_number : Addr
  d_is_number : FuncData
  f_is_pair : Addr
  d_is_pair : FuncData
  f_is_result : Addr
  d_is_result : FuncData
  f_is_claim : Addr
  d_is_claim : FuncData
  f_is_short_list : Addr
  d_is_short_list : FuncData
  f_check_size : Addr
  d_check_size : FuncData
  f_check_results : Addr
  d_check_results : FuncData
  f_check_claims : Addr
  d_check_claims : FuncData
  f_greatest_claims : Addr
  d_greatest_claims : FuncData
  f_Talk___init__ : Addr
  d_Talk___init__ : FuncData
  f_Talk_size : Addr
  d_Talk_size : FuncData
  f_Talk_results : Addr
  d_Talk_results : FuncData
  f_Talk_claims : Addr
  d_Talk_claims : FuncData
  f_Talk___len__ : Addr
  d_Talk___len__ : FuncData
  f_Talk___eq__ : Addr
  d_Talk___eq__ : FuncData
  f_is_order : Addr
  d_is_order : FuncData
  f_is_list_of_rounds : Addr
  d_is_list_of_rounds : FuncData
  f_rounds_of_order : Addr
  d_rounds_of_order : FuncData
  f_order_of_rounds : Addr
  d_order_of_rounds : FuncData
  f_Cup___init__ : Addr
  d_Cup___init__ : FuncData
  f_Cup_of : Addr
  d_Cup_of : FuncData
  f_Cup_order : Addr
  d_Cup_order : FuncData
  f_Cup_size : Addr
  d_Cup_size : FuncData
  f_Cup___eq__ : Addr
  d_Cup___eq__ : FuncData
  f_Cup_rounds : Addr
  d_Cup_rounds : FuncData
  f_Cup_matches : Addr
  d_Cup_matches : FuncData
  f_Cup_talk : Addr
  d_Cup_talk : FuncData
  f_law_feed : Addr
  d_law_feed : FuncData
  f_law_pick : Addr
  d_law_pick : FuncData
  f_law_shuffled : Addr
  d_law_shuffled : FuncData
  f_law_players : Addr
  d_law_players : FuncData
  f_law_order : Addr
  d_law_order : FuncData
  f_law_played : Addr
  d_law_played : FuncData
  f_law_right : Addr
  d_law_right : FuncData
  f_law : Addr
  d_law : FuncData
  C_Cup : Addr
  C_Talk : Addr
  p_Talk_size : Addr
  p_Talk_results : Addr
  p_Talk_claims : Addr
  p_Cup_order : Addr
  p_Cup_size : Addr
  p_Cup_of : Addr
  K_NUMBERS_OF_PLAYERS : Addr
structure Txt (K : PySem.W.Frag) (mg : Str → Option Value) (a : Ad) : Prop where
  F_is_integer : Fun K "is_integer" "is_integer" s_is_integer a.f_is_integer a.d_is_integer
  b_is_integer : Binds K a.d_is_integer ["thing"] []
  m_is_integer : mg "is_integer" = some (.ref a.f_is_integer)
  F_is_size : Fun K "is_size" "is_size" s_is_size a.f_is_size a.d_is_size
  b_is_size : Binds K a.d_is_size ["thing"] []
  m_is_size : mg "is_size" = some (.ref a.f_is_size)
  F_is_player : Fun K "is_player" "is_player" s_is_player a.f_is_player a.d_is_player
  b_is_player : Binds K a.d_is_player ["thing", "size"] []
  m_is_player : mg "is_player" = some (.ref a.f_is_player)
  F_is_number : Fun K "is_number" "is_number" s_is_number a.f_is_number a.d_is_number
  b_is_number : Binds K a.d_is_number ["thing", "size"] []
  m_is_number : mg "is_number" = some (.ref a.f_is_number)
  F_is_pair : Fun K "is_pair" "is_pair" s_is_pair a.f_is_pair a.d_is_pair
  b_is_pair : Binds K a.d_is_pair ["thing"] []
  m_is_pair : mg "is_pair" = some (.ref a.f_is_pair)
  F_is_result : Fun K "is_result" "is_result" s_is_result a.f_is_result a.d_is_result
  b_is_result : Binds K a.d_is_result ["thing", "size"] []
  m_is_result : mg "is_result" = some (.ref a.f_is_result)
  F_is_claim : Fun K "is_claim" "is_claim" s_is_claim a.f_is_claim a.d_is_claim
  b_is_claim : Binds K a.d_is_claim ["thing", "size"] []
  m_is_claim : mg "is_claim" = some (.ref a.f_is_claim)
  F_is_short_list : Fun K "is_short_list" "is_short_list" s_is_short_list a.f_is_short_list a.d_is_short_list
  b_is_short_list : Binds K a.d_is_short_list ["thing"] []
  m_is_short_list : mg "is_short_list" = some (.ref a.f_is_short_list)
  F_check_size : Fun K "check_size" "check_size" s_check_size a.f_check_size a.d_check_size
  b_check_size : Binds K a.d_check_size ["size"] []
  m_check_size : mg "check_size" = some (.ref a.f_check_size)
  F_check_results : Fun K "check_results" "check_results" s_check_results a.f_check_results a.d_check_results
  b_check_results : Binds K a.d_check_results ["results", "size"] []
  m_check_results : mg "check_results" = some (.ref a.f_check_results)
  F_check_claims : Fun K "check_claims" "check_claims" s_check_claims a.f_check_claims a.d_check_claims
  b_check_claims : Binds K a.d_check_claims ["claims", "size"] []
  m_check_claims : mg "check_claims" = some (.ref a.f_check_claims)
  F_greatest_claims : Fun K "greatest_claims" "greatest_claims" s_greatest_claims a.f_greatest_claims a.d_greatest_claims
  b_greatest_claims : Binds K a.d_greatest_claims ["claims"] []
  m_greatest_claims : mg "greatest_claims" = some (.ref a.f_greatest_claims)
  F_Talk___init__ : Fun K "__init__" "Talk.__init__" s_Talk___init__ a.f_Talk___init__ a.d_Talk___init__
  b_Talk___init__ : Binds K a.d_Talk___init__ ["self", "size", "results", "claims"] []
  F_Talk_size : Fun K "size" "Talk.size" s_Talk_size a.f_Talk_size a.d_Talk_size
  b_Talk_size : Binds K a.d_Talk_size ["self"] []
  pr_Talk_size : PropOf K a.C_Talk "size" a.p_Talk_size a.f_Talk_size
  F_Talk_results : Fun K "results" "Talk.results" s_Talk_results a.f_Talk_results a.d_Talk_results
  b_Talk_results : Binds K a.d_Talk_results ["self"] []
  pr_Talk_results : PropOf K a.C_Talk "results" a.p_Talk_results a.f_Talk_results
  F_Talk_claims : Fun K "claims" "Talk.claims" s_Talk_claims a.f_Talk_claims a.d_Talk_claims
  b_Talk_claims : Binds K a.d_Talk_claims ["self"] []
  pr_Talk_claims : PropOf K a.C_Talk "claims" a.p_Talk_claims a.f_Talk_claims
  F_Talk___len__ : Fun K "__len__" "Talk.__len__" s_Talk___len__ a.f_Talk___len__ a.d_Talk___len__
  b_Talk___len__ : Binds K a.d_Talk___len__ ["self"] []
  me_Talk___len__ : Meth K a.C_Talk "__len__" a.f_Talk___len__
  F_Talk___eq__ : Fun K "__eq__" "Talk.__eq__" s_Talk___eq__ a.f_Talk___eq__ a.d_Talk___eq__
  b_Talk___eq__ : Binds K a.d_Talk___eq__ ["self", "other"] []
  me_Talk___eq__ : Meth K a.C_Talk "__eq__" a.f_Talk___eq__
  F_is_order : Fun K "is_order" "is_order" s_is_order a.f_is_order a.d_is_order
  b_is_order : Binds K a.d_is_order ["thing"] []
  m_is_order : mg "is_order" = some (.ref a.f_is_order)
  F_is_list_of_rounds : Fun K "is_list_of_rounds" "is_list_of_rounds" s_is_list_of_rounds a.f_is_list_of_rounds a.d_is_list_of_rounds
  b_is_list_of_rounds : Binds K a.d_is_list_of_rounds ["thing"] []
  m_is_list_of_rounds : mg "is_list_of_rounds" = some (.ref a.f_is_list_of_rounds)
  F_rounds_of_order : Fun K "rounds_of_order" "rounds_of_order" s_rounds_of_order a.f_rounds_of_order a.d_rounds_of_order
  b_rounds_of_order : Binds K a.d_rounds_of_order ["order"] []
  m_rounds_of_order : mg "rounds_of_order" = some (.ref a.f_rounds_of_order)
  F_order_of_rounds : Fun K "order_of_rounds" "order_of_rounds" s_order_of_rounds a.f_order_of_rounds a.d_order_of_rounds
  b_order_of_rounds : Binds K a.d_order_of_rounds ["rounds"] []
  m_order_of_rounds : mg "order_of_rounds" = some (.ref a.f_order_of_rounds)
  F_Cup___init__ : Fun K "__init__" "Cup.__init__" s_Cup___init__ a.f_Cup___init__ a.d_Cup___init__
  b_Cup___init__ : Binds K a.d_Cup___init__ ["self", "order"] []
  F_Cup_of : Fun K "of" "Cup.of" s_Cup_of a.f_Cup_of a.d_Cup_of
  b_Cup_of : Binds K a.d_Cup_of ["cls", "rounds"] []
  cm_Cup_of : ClX.CMet K a.C_Cup (.type "type") "of" a.p_Cup_of a.f_Cup_of
  F_Cup_order : Fun K "order" "Cup.order" s_Cup_order a.f_Cup_order a.d_Cup_order
  b_Cup_order : Binds K a.d_Cup_order ["self"] []
  pr_Cup_order : PropOf K a.C_Cup "order" a.p_Cup_order a.f_Cup_order
  F_Cup_size : Fun K "size" "Cup.size" s_Cup_size a.f_Cup_size a.d_Cup_size
  b_Cup_size : Binds K a.d_Cup_size ["self"] []
  pr_Cup_size : PropOf K a.C_Cup "size" a.p_Cup_size a.f_Cup_size
  F_Cup___eq__ : Fun K "__eq__" "Cup.__eq__" s_Cup___eq__ a.f_Cup___eq__ a.d_Cup___eq__
  b_Cup___eq__ : Binds K a.d_Cup___eq__ ["self", "other"] []
  me_Cup___eq__ : Meth K a.C_Cup "__eq__" a.f_Cup___eq__
  F_Cup_rounds : Fun K "rounds" "Cup.rounds" s_Cup_rounds a.f_Cup_rounds a.d_Cup_rounds
  b_Cup_rounds : Binds K a.d_Cup_rounds ["self"] []
  me_Cup_rounds : Meth K a.C_Cup "rounds" a.f_Cup_rounds
  F_Cup_matches : Fun K "matches" "Cup.matches" s_Cup_matches a.f_Cup_matches a.d_Cup_matches
  b_Cup_matches : Binds K a.d_Cup_matches ["self"] []
  me_Cup_matches : Meth K a.C_Cup "matches" a.f_Cup_matches
  F_Cup_talk : Fun K "talk" "Cup.talk" s_Cup_talk a.f_Cup_talk a.d_Cup_talk
  b_Cup_talk : Binds K a.d_Cup_talk ["self"] []
  me_Cup_talk : Meth K a.C_Cup "talk" a.f_Cup_talk
  F_law_feed : Fun K "_law_feed" "_law_feed" s_law_feed a.f_law_feed a.d_law_feed
  b_law_feed : Binds K a.d_law_feed ["script", "k"] []
  m_law_feed : mg "_law_feed" = some (.ref a.f_law_feed)
  F_law_pick : Fun K "_law_pick" "_law_pick" s_law_pick a.f_law_pick a.d_law_pick
  b_law_pick : Binds K a.d_law_pick ["feed", "wide"] []
  m_law_pick : mg "_law_pick" = some (.ref a.f_law_pick)
  F_law_shuffled : Fun K "_law_shuffled" "_law_shuffled" s_law_shuffled a.f_law_shuffled a.d_law_shuffled
  b_law_shuffled : Binds K a.d_law_shuffled ["feed", "row"] []
  m_law_shuffled : mg "_law_shuffled" = some (.ref a.f_law_shuffled)
  F_law_players : Fun K "_law_players" "_law_players" s_law_players a.f_law_players a.d_law_players
  b_law_players : Binds K a.d_law_players ["wide"] []
  m_law_players : mg "_law_players" = some (.ref a.f_law_players)
  F_law_order : Fun K "_law_order" "_law_order" s_law_order a.f_law_order a.d_law_order
  b_law_order : Binds K a.d_law_order ["feed", "wide"] []
  m_law_order : mg "_law_order" = some (.ref a.f_law_order)
  F_law_played : Fun K "_law_played" "_law_played" s_law_played a.f_law_played a.d_law_played
  b_law_played : Binds K a.d_law_played ["row"] []
  m_law_played : mg "_law_played" = some (.ref a.f_law_played)
  F_law_right : Fun K "_law_right" "_law_right" s_law_right a.f_law_right a.d_law_right
  b_law_right : Binds K a.d_law_right ["feed", "row"] []
  m_law_right : mg "_law_right" = some (.ref a.f_law_right)
  F_law : Fun K "law" "law" s_law a.f_law a.d_law
  b_law : Binds K a.d_law ["script"] []
  m_law : mg "law" = some (.ref a.f_law)
  cl_Cup : Cls K a.C_Cup
  mC_Cup : mg "Cup" = some (.ref a.C_Cup)
  cr_Cup : ClX.CRead K a.C_Cup (.type "type")
  mo_Cup : PySem.W.mroIn K a.C_Cup (.type "object") = some true
  ne_Cup : PySem.W.findIn K (.ref a.C_Cup) "__ne__" = some (some (.builtin "object.__ne__"))
  ot_Cup_NoneType : OT K a.C_Cup (.type "NoneType")
  ot_Cup_int : OT K a.C_Cup (.type "int")
  ot_Cup_bool : OT K a.C_Cup (.type "bool")
  ot_Cup_str : OT K a.C_Cup (.type "str")
  ot_Cup_list : OT K a.C_Cup (.type "list")
  ot_Cup_tuple : OT K a.C_Cup (.type "tuple")
  ot_Cup_dict : OT K a.C_Cup (.type "dict")
  ot_Cup_Talk : OT K a.C_Cup (.ref a.C_Talk)
  is_Cup : Isi K a.C_Cup
  M_Cup : Mk K a.C_Cup a.f_Cup___init__
  cl_Talk : Cls K a.C_Talk
  mC_Talk : mg "Talk" = some (.ref a.C_Talk)
  is_Talk : Isi K a.C_Talk
  M_Talk : Mk K a.C_Talk a.f_Talk___init__
  c_LARGEST_SIZE : ∃ t, mg "LARGEST_SIZE" = some (.int 6 t)
  c_MOST_ITEMS : ∃ t, mg "MOST_ITEMS" = some (.int 200 t)
  n_Cup__beaten : NoAttr K a.C_Cup "_beaten"
  n_Cup__conquerors : NoAttr K a.C_Cup "_conquerors"
  n_Cup__order : NoAttr K a.C_Cup "_order"
  n_Cup__rounds : NoAttr K a.C_Cup "_rounds"
  n_Talk__claims : NoAttr K a.C_Talk "_claims"
  n_Talk__results : NoAttr K a.C_Talk "_results"
  n_Talk__size : NoAttr K a.C_Talk "_size"
  t_NUMBERS_OF_PLAYERS : mg "NUMBERS_OF_PLAYERS" = some (.ref a.K_NUMBERS_OF_PLAYERS)
  q_NUMBERS_OF_PLAYERS : ∀ H : Hp, SqT K H a.K_NUMBERS_OF_PLAYERS [V.int 1, V.int 2, V.int 4, V.int 8, V.int 16, V.int 32, V.int 64]
  z_abs : mg "abs" = none
  z_all : mg "all" = none
  z_bool : mg "bool" = none
  z_int : mg "int" = none
  z_isinstance : mg "isinstance" = none
  z_len : mg "len" = none
  z_list : mg "list" = none
  z_max : mg "max" = none
  z_min : mg "min" = none
  z_range : mg "range" = none
  z_repr : mg "repr" = none
  z_set : mg "set" = none
  z_sorted : mg "sorted" = none
  z_tuple : mg "tuple" = none
/-! ### what the defs promise -/
def sp_is_integer : Sp := fun vs H Q _ => ∃ i : Int, vs = [.int i] ∧ Q (.bl true) H
def sp_is_size : Sp := fun vs H Q _ => ∃ i : Int, vs = [.int i] ∧ Q (.bl (decide (0 ≤ i ∧ i ≤ 6))) H
def sp_is_player : Sp := fun vs H Q _ => ∃ i k : Int, vs = [.int i, .int k] ∧ 0 ≤ k ∧ k ≤ 6 ∧ Q (.bl (decide (0 ≤ i ∧ i < 2 ^ k.toNat))) H
def sp_is_number : Sp := fun vs H Q _ => ∃ i k : Int, vs = [.int i, .int k] ∧ Q (.bl (decide (0 ≤ i ∧ i ≤ k))) H
def sp_is_pair : Sp := fun vs H Q _ => ∃ (v : V) (p : P2), vs = [v] ∧ IsP H v p ∧ Q (.bl true) H
section
variable {P : Program} {w : World} {K : PySem.W.Frag} {mg : Str → Option Value} {base : Heap} {a : Ad}
theorem isI {i : Int} {H : Hp} {Q : VK} {E : XK} (h : Q (.bl true) H) : sp_is_integer ([V.int i] ++ []) H Q E := ⟨i, rfl, h⟩
theorem sc_is_integer : FnScope ["thing"] ["thing"] (defScope s_is_integer) := ⟨rfl, rfl, rfl, by decide +kernel, rfl, by decide +kernel, by decide +kernel⟩
theorem ok_is_integer (T : Txt K mg a) : FnOk P w K mg base CX0 1 a.f_is_integer a.d_is_integer ["thing"] (sp_is_integer) := by
  refine T.F_is_integer.ok sc_is_integer (fun vs H Q E h => (by repeat (first | (obtain ⟨rfl, _⟩ := h; rfl) | obtain ⟨_, h⟩ := h))) (fun cdv A outer s H vs Q E hr h => ?_)
  have nd := sc_is_integer.nd
  have hu := hr.units
  have hu1 := hu_of hr
  obtain ⟨i, rfl, k⟩ := h
  refine ⟨_, (pss_one (ps_ret (pe_and (pe_callB call_isi (by exact rfl) T.z_isinstance (by decide +kernel) (pa_cons (pv 0) (pa_cons (pe_bltn (v := .ty "int") (by exact rfl) T.z_int (by decide +kernel) rfl) pa_nil))) (pe_one (pe_not (pe_callB call_isi (by exact rfl) T.z_isinstance (by decide +kernel) (pa_cons (pv 0) (pa_cons (pe_bltn (v := .ty "bool") (by exact rfl) T.z_bool (by decide +kernel) rfl) pa_nil)))))))), ?_⟩
  wtm_at "go"
  refine r_isi (b := true) (.base (.int i)) (by decide +kernel) ?_
  wtm_at "go"
  refine r_isi (b := false) (.base (.int i)) (by decide +kernel) ?_
  wtm_at "go"
  exact k
theorem sc_is_size : FnScope ["thing"] ["thing"] (defScope s_is_size) := ⟨rfl, rfl, rfl, by decide +kernel, rfl, by decide +kernel, by decide +kernel⟩
theorem ok_is_size (T : Txt K mg a) : FnOk P w K mg base CX0 2 a.f_is_size a.d_is_size ["thing"] (sp_is_size) := by
  refine T.F_is_size.ok sc_is_size (fun vs H Q E h => (by repeat (first | (obtain ⟨rfl, _⟩ := h; rfl) | obtain ⟨_, h⟩ := h))) (fun cdv A outer s H vs Q E hr h => ?_)
  have nd := sc_is_size.nd
  have hu := hr.units
  have hu1 := hu_of hr
  obtain ⟨i, rfl, k⟩ := h
  refine ⟨_, (pss_one (ps_ret (pe_and (pe_call (ok_is_integer T) (hr.mono (by decide)) (by exact rfl) T.m_is_integer T.F_is_integer.kp T.b_is_integer .nil pass0 (pa_cons (pv 0) pa_nil)) (pe_one (pe_chain op_le op_le pe_int (pv 0) (pe_glob (v := .int 6) (by exact rfl) T.c_LARGEST_SIZE.choose_spec ⟨_, rfl⟩)))))), ?_⟩
  wtm_at "go"
  refine isI ?_
  wtm_at "go"
  refine iteD (fun h1 => ?_) (fun h1 => ?_)
  · wtm_at "go"
    rw [show decide (0 ≤ i ∧ i ≤ 6) = decide (i ≤ 6) from by simp [h1]] at k
    exact k
  · rw [show decide (0 ≤ i ∧ i ≤ 6) = false from by simp [h1]] at k
    exact k
theorem sc_is_player : FnScope ["thing", "size"] ["thing", "size"] (defScope s_is_player) := ⟨rfl, rfl, rfl, by decide +kernel, rfl, by decide +kernel, by decide +kernel⟩
theorem ok_is_player (T : Txt K mg a) : FnOk P w K mg base CX0 2 a.f_is_player a.d_is_player ["thing", "size"] (sp_is_player) := by
  refine T.F_is_player.ok sc_is_player (fun vs H Q E h => (by repeat (first | (obtain ⟨rfl, _⟩ := h; rfl) | obtain ⟨_, h⟩ := h))) (fun cdv A outer s H vs Q E hr h => ?_)
  have nd := sc_is_player.nd
  have hu := hr.units
  have hu1 := hu_of hr
  obtain ⟨i, z, rfl, z0, z6, k⟩ := h
  refine ⟨_, (pss_one (ps_ret (pe_and (pe_call (ok_is_integer T) (hr.mono (by decide)) (by exact rfl) T.m_is_integer T.F_is_integer.kp T.b_is_integer .nil pass0 (pa_cons (pv 0) pa_nil)) (pe_one (pe_chain op_le op_lt pe_int (pv 0) (pe_op op_shl pe_int (pv 1))))))), ?_⟩
  wtm_at "go"
  refine isI ?_
  wtm_at "go"
  refine iteD (fun h1 => ?_) (fun h1 => ?_)
  · wtm_at "go"
    rw [show decide (0 ≤ i ∧ i < 2 ^ z.toNat) = decide (i < 1 * 2 ^ z.toNat) from by simp [h1]] at k
    exact k
  · rw [show decide (0 ≤ i ∧ i < 2 ^ z.toNat) = false from by simp [h1]] at k
    exact k
theorem sc_is_number : FnScope ["thing", "size"] ["thing", "size"] (defScope s_is_number) := ⟨rfl, rfl, rfl, by decide +kernel, rfl, by decide +kernel, by decide +kernel⟩
theorem ok_is_number (T : Txt K mg a) : FnOk P w K mg base CX0 2 a.f_is_number a.d_is_number ["thing", "size"] (sp_is_number) := by
  refine T.F_is_number.ok sc_is_number (fun vs H Q E h => (by repeat (first | (obtain ⟨rfl, _⟩ := h; rfl) | obtain ⟨_, h⟩ := h))) (fun cdv A outer s H vs Q E hr h => ?_)
  have nd := sc_is_number.nd
  have hu := hr.units
  have hu1 := hu_of hr
  obtain ⟨i, z, rfl, k⟩ := h
  refine ⟨_, (pss_one (ps_ret (pe_and (pe_call (ok_is_integer T) (hr.mono (by decide)) (by exact rfl) T.m_is_integer T.F_is_integer.kp T.b_is_integer .nil pass0 (pa_cons (pv 0) pa_nil)) (pe_one (pe_chain op_le op_le pe_int (pv 0) (pv 1)))))), ?_⟩
  wtm_at "go"
  refine isI ?_
  wtm_at "go"
  refine iteD (fun h1 => ?_) (fun h1 => ?_)
  · wtm_at "go"
    rw [show decide (0 ≤ i ∧ i ≤ z) = decide (i ≤ z) from by simp [h1]] at k
    exact k
  · rw [show decide (0 ≤ i ∧ i ≤ z) = false from by simp [h1]] at k
    exact k
theorem sc_is_pair : FnScope ["thing"] ["thing"] (defScope s_is_pair) := ⟨rfl, rfl, rfl, by decide +kernel, rfl, by decide +kernel, by decide +kernel⟩
theorem ok_is_pair (T : Txt K mg a) : FnOk P w K mg base CX0 2 a.f_is_pair a.d_is_pair ["thing"] (sp_is_pair) := by
  refine T.F_is_pair.ok sc_is_pair (fun vs H Q E h => (by repeat (first | (obtain ⟨rfl, _⟩ := h; rfl) | obtain ⟨_, h⟩ := h))) (fun cdv A outer s H vs Q E hr h => ?_)
  have nd := sc_is_pair.nd
  have hu := hr.units
  have hu1 := hu_of hr
  obtain ⟨v, p, rfl, ⟨t, rfl, ht⟩, k⟩ := h
  refine ⟨_, (pss_one (ps_ret (pe_and (pe_callB call_isi (by exact rfl) T.z_isinstance (by decide +kernel) (pa_cons (pv 0) (pa_cons (pe_bltn (v := .ty "tuple") (by exact rfl) T.z_tuple (by decide +kernel) rfl) pa_nil))) (pe_and (pe_cmpR op_eq (pe_callB call_len_seq (by exact rfl) T.z_len (by decide +kernel) (pa_cons (pv 0) pa_nil)) pe_int (nomark _)) (pe_and (pe_call (ok_is_integer T) (hr.mono (by decide)) (by exact rfl) T.m_is_integer T.F_is_integer.kp T.b_is_integer .nil pass0 (pa_cons (pe_ix ix_tup (pv 0) pe_int (fun _ _ => rfl)) pa_nil)) (pe_one (pe_call (ok_is_integer T) (hr.mono (by decide)) (by exact rfl) T.m_is_integer T.F_is_integer.kp T.b_is_integer .nil pass0 (pa_cons (pe_ix ix_tup (pv 0) pe_int (fun _ _ => rfl)) pa_nil)))))))), ?_⟩
  wtm_at "go"
  refine r_isi (b := true) (.base (.tup ht)) (by decide +kernel) ?_
  wtm_at "go"
  refine ⟨_, _, rfl, .inr (SqT.of (by wtm_at "hp")), ?_⟩
  wtm_at "go"
  refine iteYes (by simp) ?_
  wtm_at "go"
  refine isI ?_
  wtm_at "go"
  refine isI ?_
  wtm_at "go"
  exact k
def sp_is_result : Sp := fun vs H Q _ => ∃ (v : V) (p : P2) (k : Int), vs = [v, .int k] ∧ IsP H v p ∧ 0 ≤ k ∧ k ≤ 6 ∧ Q (.bl (isRes k p)) H
def sp_is_claim : Sp := fun vs H Q _ => ∃ (v : V) (p : P2) (k : Int), vs = [v, .int k] ∧ IsP H v p ∧ 0 ≤ k ∧ k ≤ 6 ∧ Q (.bl (isCl k p)) H
def sp_is_short_list : Sp := fun vs H Q _ => ∃ (l : Addr) (xs : List V), vs = [.ref l] ∧ H l = some (.lst xs) ∧ xs.length ≤ 200 ∧ Q (.bl true) H
theorem sc_is_result : FnScope ["thing", "size"] ["thing", "size"] (defScope s_is_result) := ⟨rfl, rfl, rfl, by decide +kernel, rfl, by decide +kernel, by decide +kernel⟩
theorem ok_is_result (T : Txt K mg a) : FnOk P w K mg base CX0 3 a.f_is_result a.d_is_result ["thing", "size"] (sp_is_result) := by
  refine T.F_is_result.ok sc_is_result (fun vs H Q E h => (by repeat (first | (obtain ⟨rfl, _⟩ := h; rfl) | obtain ⟨_, h⟩ := h))) (fun cdv A outer s H vs Q E hr h => ?_)
  have nd := sc_is_result.nd
  have hu := hr.units
  have hu1 := hu_of hr
  obtain ⟨v, p, z, rfl, ⟨t, rfl, ht⟩, z0, z6, k⟩ := h
  refine ⟨_, (pss_cons (ps_if (PW.pt (pw_or (pt_not (pt_val (pe_call (ok_is_pair T) (hr.mono (by decide)) (by exact rfl) T.m_is_pair T.F_is_pair.kp T.b_is_pair .nil pass0 (pa_cons (pv 0) pa_nil)))) (pw_or1 (pt_cmpR op_eq (pe_ix ix_tup (pv 0) pe_int (fun _ _ => rfl)) (pe_ix ix_tup (pv 0) pe_int (fun _ _ => rfl)) (nomark _))))) (pss_one (ps_ret pe_bl)) pss_nil)
      (pss_one (ps_ret (pe_and (pe_call (ok_is_player T) (hr.mono (by decide)) (by exact rfl) T.m_is_player T.F_is_player.kp T.b_is_player .nil pass0 (pa_cons (pe_ix ix_tup (pv 0) pe_int (fun _ _ => rfl)) (pa_cons (pv 1) pa_nil))) (pe_one (pe_call (ok_is_player T) (hr.mono (by decide)) (by exact rfl) T.m_is_player T.F_is_player.kp T.b_is_player .nil pass0 (pa_cons (pe_ix ix_tup (pv 0) pe_int (fun _ _ => rfl)) (pa_cons (pv 1) pa_nil)))))))), ?_⟩
  wtm_at "go"
  refine ⟨_, p, rfl, ⟨t, rfl, ht⟩, ?_⟩
  wtm_at "go"
  refine iteD (fun h1 => ?_) (fun h1 => ?_)
  · wtm_at "go"
    rw [show isRes z p = false from by simp [isRes, V.int.inj h1]] at k
    exact k
  · have h1 : ¬ p.1 = p.2 := fun e => h1 (by rw [e])
    wtm_at "go"
    refine ⟨_, _, rfl, z0, z6, ?_⟩
    wtm_at "go"
    refine iteB (fun h2 => ?_) (fun h2 => ?_)
    · wtm_at "go"
      refine ⟨_, _, rfl, z0, z6, ?_⟩
      wtm_at "go"
      rw [show isRes z p = decide (0 ≤ p.2 ∧ p.2 < 2 ^ z.toNat) from by unfold isRes; rw [h2]; simp [h1]] at k
      exact k
    · rw [show isRes z p = false from by unfold isRes; rw [h2]; simp] at k
      exact k
theorem sc_is_claim : FnScope ["thing", "size"] ["thing", "size"] (defScope s_is_claim) := ⟨rfl, rfl, rfl, by decide +kernel, rfl, by decide +kernel, by decide +kernel⟩
theorem ok_is_claim (T : Txt K mg a) : FnOk P w K mg base CX0 3 a.f_is_claim a.d_is_claim ["thing", "size"] (sp_is_claim) := by
  refine T.F_is_claim.ok sc_is_claim (fun vs H Q E h => (by repeat (first | (obtain ⟨rfl, _⟩ := h; rfl) | obtain ⟨_, h⟩ := h))) (fun cdv A outer s H vs Q E hr h => ?_)
  have nd := sc_is_claim.nd
  have hu := hr.units
  have hu1 := hu_of hr
  obtain ⟨v, p, z, rfl, ⟨t, rfl, ht⟩, z0, z6, k⟩ := h
  refine ⟨_, (pss_one (ps_ret (pe_and (pe_call (ok_is_pair T) (hr.mono (by decide)) (by exact rfl) T.m_is_pair T.F_is_pair.kp T.b_is_pair .nil pass0 (pa_cons (pv 0) pa_nil)) (pe_and (pe_call (ok_is_player T) (hr.mono (by decide)) (by exact rfl) T.m_is_player T.F_is_player.kp T.b_is_player .nil pass0 (pa_cons (pe_ix ix_tup (pv 0) pe_int (fun _ _ => rfl)) (pa_cons (pv 1) pa_nil))) (pe_one (pe_call (ok_is_number T) (hr.mono (by decide)) (by exact rfl) T.m_is_number T.F_is_number.kp T.b_is_number .nil pass0 (pa_cons (pe_ix ix_tup (pv 0) pe_int (fun _ _ => rfl)) (pa_cons (pv 1) pa_nil)))))))), ?_⟩
  wtm_at "go"
  refine ⟨_, p, rfl, ⟨t, rfl, ht⟩, ?_⟩
  wtm_at "go"
  refine ⟨_, _, rfl, z0, z6, ?_⟩
  wtm_at "go"
  refine iteB (fun h2 => ?_) (fun h2 => ?_)
  · wtm_at "go"
    refine ⟨_, _, rfl, ?_⟩
    wtm_at "go"
    rw [show isCl z p = decide (0 ≤ p.2 ∧ p.2 ≤ z) from by unfold isCl; rw [h2]; simp] at k
    exact k
  · rw [show isCl z p = false from by unfold isCl; rw [h2]; simp] at k
    exact k
theorem sc_is_short_list : FnScope ["thing"] ["thing"] (defScope s_is_short_list) := ⟨rfl, rfl, rfl, by decide +kernel, rfl, by decide +kernel, by decide +kernel⟩
theorem ok_is_short_list (T : Txt K mg a) : FnOk P w K mg base CX0 1 a.f_is_short_list a.d_is_short_list ["thing"] (sp_is_short_list) := by
  refine T.F_is_short_list.ok sc_is_short_list (fun vs H Q E h => (by repeat (first | (obtain ⟨rfl, _⟩ := h; rfl) | obtain ⟨_, h⟩ := h))) (fun cdv A outer s H vs Q E hr h => ?_)
  have nd := sc_is_short_list.nd
  have hu := hr.units
  have hu1 := hu_of hr
  obtain ⟨l, xs, rfl, hl, hx, k⟩ := h
  refine ⟨_, (pss_one (ps_ret (pe_and (pe_callB call_isi (by exact rfl) T.z_isinstance (by decide +kernel) (pa_cons (pv 0) (pa_cons (pe_bltn (v := .ty "list") (by exact rfl) T.z_list (by decide +kernel) rfl) pa_nil))) (pe_one (pe_cmpR op_le (pe_callB call_len_seq (by exact rfl) T.z_len (by decide +kernel) (pa_cons (pv 0) pa_nil)) (pe_glob (v := .int 200) (by exact rfl) T.c_MOST_ITEMS.choose_spec ⟨_, rfl⟩) (nomark _)))))), ?_⟩
  wtm_at "go"
  refine r_isi (b := true) (.base (.lst hl)) (by decide +kernel) ?_
  wtm_at "go"
  refine ⟨_, _, rfl, .inl (SqL.of (by wtm_at "hp")), ?_⟩
  wtm_at "go"
  have e : decide ((xs.length : Int) ≤ 200) = true := decide_eq_true (by omega)
  show Q (.bl (decide ((xs.length : Int) ≤ 200))) H
  rw [e]
  exact k
end
end Ct
end
section
set_option Elab.async false
set_option linter.all false
set_option maxRecDepth 100000
set_option maxHeartbeats 8000000
namespace Ct
open PySem PySem.Spec L2 StX

local macro_rules | `(tactic| wtm_at "hp") => `(tactic| first
  | assumption
  | exact (‹Same _ _›) _ _ (by wtm_at "hp")
  | exact (‹But _ _ _›) _ _ (by wtm_at "ne") (by wtm_at "hp"))
local macro_rules | `(tactic| wtm_at "hpL") => `(tactic| first | exact SqL.of (by wtm_at "hp") | assumption)
local macro_rules | `(tactic| wtm_at "hpT") => `(tactic| first | exact SqT.of (by wtm_at "hp") | assumption)
local macro_rules | `(tactic| wtm_at "ne") => `(tactic| first
  | assumption
  | exact Ne.symm (by assumption)
  | exact ne_lst_tup (by wtm_at "hp") (by wtm_at "hp")
  | exact ne_tup_lst (by wtm_at "hp") (by wtm_at "hp")
  | exact ne_of_none (by wtm_at "hp") (by assumption)
  | exact Ne.symm (ne_of_none (by wtm_at "hp") (by assumption)))
local macro_rules | `(tactic| wtm_at "c") => `(tactic| first
  | omega
  | (unfold CMul; omega)
  | (unfold CDiv; omega)
  | (unfold CPow; omega))
local macro_rules | `(tactic| wtm_at "sz") => `(tactic| first
  | exact sz64 rfl
  | exact (by decide)
  | (show _ ≤ sizeLine; rw [sizeLine_eq]; omega)
  | (show _ < sizeLine; rw [sizeLine_eq]; omega))
local macro_rules | `(tactic| wtm_at "go1") => `(tactic| first
  | with_reducible refine r_seq ?_
  | with_reducible refine r_op ?_
  | ((with_reducible refine' r_var ?rv ?_); (case rv => exact rfl))
  | with_reducible refine r_c ?_
  | with_reducible refine r_asg ?_
  | with_reducible refine r_name ?_
  | with_reducible refine r_i0 ?_
  | ((with_reducible refine' r_i ?rc ?_); (case rc => wtm_at "c"))
  | ((with_reducible refine' r_ixL ?r1 ?r2 ?_); (case r1 => wtm_at "hpL"); (case r2 => first | exact rfl | assumption))
  | ((with_reducible refine' r_ixT ?r1 ?r2 ?_); (case r1 => wtm_at "hpT"); (case r2 => first | exact rfl | assumption))
  | with_reducible refine r_consA ?_
  | with_reducible refine r_nilA ?_
  | with_reducible refine r_call ?_
  | with_reducible refine r_cb ?_
  | with_reducible refine r_test ?_
  | with_reducible refine r_exb ?_
  | ((with_reducible refine r_eq ?rq ?_); (case rq => exact rfl))
  | ((with_reducible refine r_ne ?rq ?_); (case rq => exact rfl))
  | with_reducible refine r_ret ?_
  | with_reducible refine r_if ?_
  | with_reducible refine r_next ?_
  | with_reducible refine r_drop ?_
  | with_reducible refine r_gsub ?_
  | ((with_reducible refine' r_setL ?r1 ?r2 ?_); (case r1 => wtm_at "hp"); (case r2 => exact rfl))
  | with_reducible refine r_b ?_
  | with_reducible refine r_and ?_
  | with_reducible refine r_or ?_
  | with_reducible refine r_not ?_
  | with_reducible refine r_andV ?_
  | with_reducible refine r_orV ?_
  | with_reducible refine r_notV ?_
  | with_reducible refine r_ifE ?_
  | with_reducible refine r_chain ?_
  | with_reducible refine r_u ?_
  | with_reducible refine r_un ?_
  | with_reducible refine r_fld ?_
  | with_reducible refine r_fldS ?_
  | with_reducible refine r_lst ?_
  | with_reducible refine r_tup ?_
  | with_reducible refine r_par ?_
  | with_reducible refine r_par3 ?_
  | with_reducible refine r_retN ?_
  | with_reducible refine r_gcons ?_
  | with_reducible refine r_gnil ?_
  | ((with_reducible refine' r_gtup ?r1 ?r2 ?_); (case r1 => wtm_at "hpT"); (case r2 => exact rfl))
  | with_reducible refine r_bm ?_
  | with_reducible refine r_bm0 ?_
  | with_reducible refine r_lcL ?_
  | with_reducible refine r_foL ?_
  | with_reducible refine r_foR ?_
  | with_reducible refine r_yes ?_
  | ((with_reducible refine' r_wipe ?rw ?_); (case rw => exact rfl))
  | ((with_reducible refine' r_tyL ?r1 ?_); (case r1 => wtm_at "hpL"))
  | ((with_reducible refine' r_append ?r1 ?r2 ?_); (case r1 => wtm_at "hp"); (case r2 => wtm_at "sz"))
  | with_reducible refine r_dput ?_
  | with_reducible refine r_dget ?_
  | with_reducible refine r_dget2 ?_
  | with_reducible refine r_dnew ?_
  | with_reducible refine iteT ?_
  | with_reducible refine iteF ?_
  | with_reducible refine iteNT ?_
  | with_reducible refine iteNF ?_)
local macro_rules | `(tactic| wtm_at "go") => `(tactic| repeat wtm_at "go1")

def sp_check_size : Sp := fun vs H Q _ => ∃ i : Int, vs = [.int i] ∧ 0 ≤ i ∧ i ≤ 6 ∧ Q .non H
def sp_check_results : Sp := fun vs H Q _ => ∃ (l : Addr) (xs : List V) (ps : List P2) (k : Int), vs = [.ref l, .int k] ∧ H l = some (.lst xs) ∧ Prs H xs ps ∧ ps.length ≤ 200 ∧ 0 ≤ k ∧ k ≤ 6 ∧ (∀ p ∈ ps, isRes k p = true) ∧ ∀ H', Same H H' → Q .non H'
def sp_check_claims : Sp := fun vs H Q _ => ∃ (l : Addr) (xs : List V) (ps : List P2) (k : Int), vs = [.ref l, .int k] ∧ H l = some (.lst xs) ∧ Prs H xs ps ∧ ps.length ≤ 200 ∧ 0 ≤ k ∧ k ≤ 6 ∧ (∀ p ∈ ps, isCl k p = true) ∧ ∀ H', Same H H' → Q .non H'
def sp_greatest_claims : Sp := fun vs H Q _ => ∃ (l : Addr) (ps : List P2), vs = [.ref l] ∧ PL H l ps ∧ ps.length ≤ 100000 ∧ ∀ H' r, Same H H' → H r = none → PL H' r (gcl ps) → Q (.ref r) H'
section
variable {P : Program} {w : World} {K : PySem.W.Frag} {mg : Str → Option Value} {base : Heap} {a : Ad}
theorem sc_check_size : FnScope ["size"] ["size"] (defScope s_check_size) := ⟨rfl, rfl, rfl, by decide +kernel, rfl, by decide +kernel, by decide +kernel⟩
theorem ok_check_size (T : Txt K mg a) : FnOk P w K mg base CX0 3 a.f_check_size a.d_check_size ["size"] (sp_check_size) := by
  refine T.F_check_size.ok sc_check_size (fun vs H Q E h => (by repeat (first | (obtain ⟨rfl, _⟩ := h; rfl) | obtain ⟨_, h⟩ := h))) (fun cdv A outer s H vs Q E hr h => ?_)
  have nd := sc_check_size.nd
  have hu := hr.units
  have hu1 := hu_of hr
  obtain ⟨i, rfl, h0, h6, k⟩ := h
  refine ⟨_, (pss_one (ps_if (pt_not (pt_val (pe_call (ok_is_size T) (hr.mono (by decide)) (by exact rfl) T.m_is_size T.F_is_size.kp T.b_is_size .nil pass0 (pa_cons (pv 0) pa_nil)))) (pss_one ps_never) pss_nil)), ?_⟩
  wtm_at "go"
  refine ⟨_, rfl, ?_⟩
  wtm_at "go"
  refine iteND (fun h => absurd ⟨h0, h6⟩ h) (fun _ => ?_)
  wtm_at "go"
  exact k
theorem sc_check_results : FnScope ["results", "size", "item"] ["results", "size"] (defScope s_check_results) := ⟨rfl, rfl, rfl, by decide +kernel, rfl, by decide +kernel, by decide +kernel⟩
theorem ok_check_results (T : Txt K mg a) : FnOk P w K mg base CX0 4 a.f_check_results a.d_check_results ["results", "size"] (sp_check_results) := by
  refine T.F_check_results.ok sc_check_results (fun vs H Q E h => (by repeat (first | (obtain ⟨rfl, _⟩ := h; rfl) | obtain ⟨_, h⟩ := h))) (fun cdv A outer s H vs Q E hr h => ?_)
  have nd := sc_check_results.nd
  have hu := hr.units
  have hu1 := hu_of hr
  obtain ⟨l, xs, ps, z, rfl, hl, hp, hn, h0, h6, hv, k⟩ := h
  refine ⟨_, (pss_one (ps_if (PW.pt (pw_or (pt_not (pt_val (pe_call (ok_is_short_list T) (hr.mono (by decide)) (by exact rfl) T.m_is_short_list T.F_is_short_list.kp T.b_is_short_list .nil pass0 (pa_cons (pv 0) pa_nil)))) (pw_or1 (pt_not (pt_val (pe_callB (cr_all rfl) (by exact rfl) T.z_all (by decide +kernel) (pa_cons (pe_lc (own := [("item", 2)]) rfl nd (pi_list (pv 0)) (blkOk_by (own := [("item", 2)]) (N := ["results", "size", "item"]) (sc := defScope s_check_results) (by decide +kernel)) (fun _ _ _ _ _ => (pg_name (i := 2) nd rfl (Or.inl rfl))) (fun _ _ _ _ _ => pts_nil) (fun _ _ _ _ _ => (pe_call (ok_is_result T) (hr.mono (by decide)) (by exact rfl) T.m_is_result T.F_is_result.kp T.b_is_result .nil pass0 (pa_cons (pv 2) (pa_cons (pv 1) pa_nil))))) pa_nil))))))) (pss_one ps_never) pss_nil)), ?_⟩
  wtm_at "go"
  refine ⟨_, _, rfl, hl, by rw [hp.length]; exact hn, ?_⟩
  wtm_at "go"
  refine lcL (fun i acc G => acc = List.replicate i (V.bl true)) (SqL.of hl) (fun _ _ => rfl) (fun i x G D hi hx ⟨acc, hD, ha, s, nD, e⟩ => ?_) (fun acc G D s nD hD ha e => ?_)
  · wtm_at "go"
    obtain ⟨p, hp1, hp2⟩ := hp.get hx
    refine ⟨_, p, _, rfl, hp2.ext s, h0, h6, ?_⟩
    rw [hv p (List.mem_of_getElem? hp1)]
    have hlt := hp.length
    exact lcT hD ha (by have := line_big; omega) s nD (Same.refl _) fun _ _ _ => by
      show acc ++ [V.bl true] = List.replicate (i + 1) (V.bl true)
      rw [show acc = List.replicate i (V.bl true) from e, List.replicate_succ']
  · wtm_at "go"
    refine ⟨_, List.replicate xs.length true, rfl, SqL.of (by rw [hD, List.map_replicate]; exact congrArg (fun q => some (HO.lst q)) e), ?_⟩
    rw [rep_all]
    wtm_at "go"
    exact k _ s
theorem sc_check_claims : FnScope ["claims", "size", "item"] ["claims", "size"] (defScope s_check_claims) := ⟨rfl, rfl, rfl, by decide +kernel, rfl, by decide +kernel, by decide +kernel⟩
theorem ok_check_claims (T : Txt K mg a) : FnOk P w K mg base CX0 4 a.f_check_claims a.d_check_claims ["claims", "size"] (sp_check_claims) := by
  refine T.F_check_claims.ok sc_check_claims (fun vs H Q E h => (by repeat (first | (obtain ⟨rfl, _⟩ := h; rfl) | obtain ⟨_, h⟩ := h))) (fun cdv A outer s H vs Q E hr h => ?_)
  have nd := sc_check_claims.nd
  have hu := hr.units
  have hu1 := hu_of hr
  obtain ⟨l, xs, ps, z, rfl, hl, hp, hn, h0, h6, hv, k⟩ := h
  refine ⟨_, (pss_one (ps_if (PW.pt (pw_or (pt_not (pt_val (pe_call (ok_is_short_list T) (hr.mono (by decide)) (by exact rfl) T.m_is_short_list T.F_is_short_list.kp T.b_is_short_list .nil pass0 (pa_cons (pv 0) pa_nil)))) (pw_or1 (pt_not (pt_val (pe_callB (cr_all rfl) (by exact rfl) T.z_all (by decide +kernel) (pa_cons (pe_lc (own := [("item", 2)]) rfl nd (pi_list (pv 0)) (blkOk_by (own := [("item", 2)]) (N := ["claims", "size", "item"]) (sc := defScope s_check_claims) (by decide +kernel)) (fun _ _ _ _ _ => (pg_name (i := 2) nd rfl (Or.inl rfl))) (fun _ _ _ _ _ => pts_nil) (fun _ _ _ _ _ => (pe_call (ok_is_claim T) (hr.mono (by decide)) (by exact rfl) T.m_is_claim T.F_is_claim.kp T.b_is_claim .nil pass0 (pa_cons (pv 2) (pa_cons (pv 1) pa_nil))))) pa_nil))))))) (pss_one ps_never) pss_nil)), ?_⟩
  wtm_at "go"
  refine ⟨_, _, rfl, hl, by rw [hp.length]; exact hn, ?_⟩
  wtm_at "go"
  refine lcL (fun i acc G => acc = List.replicate i (V.bl true)) (SqL.of hl) (fun _ _ => rfl) (fun i x G D hi hx ⟨acc, hD, ha, s, nD, e⟩ => ?_) (fun acc G D s nD hD ha e => ?_)
  · wtm_at "go"
    obtain ⟨p, hp1, hp2⟩ := hp.get hx
    refine ⟨_, p, _, rfl, hp2.ext s, h0, h6, ?_⟩
    rw [hv p (List.mem_of_getElem? hp1)]
    have hlt := hp.length
    exact lcT hD ha (by have := line_big; omega) s nD (Same.refl _) fun _ _ _ => by
      show acc ++ [V.bl true] = List.replicate (i + 1) (V.bl true)
      rw [show acc = List.replicate i (V.bl true) from e, List.replicate_succ']
  · wtm_at "go"
    refine ⟨_, List.replicate xs.length true, rfl, SqL.of (by rw [hD, List.map_replicate]; exact congrArg (fun q => some (HO.lst q)) e), ?_⟩
    rw [rep_all]
    wtm_at "go"
    exact k _ s
theorem sc_greatest_claims : FnScope ["claims", "greatest", "player", "number"] ["claims"] (defScope s_greatest_claims) := ⟨rfl, rfl, rfl, by decide +kernel, rfl, by decide +kernel, by decide +kernel⟩
theorem ok_greatest_claims (T : Txt K mg a) : FnOk P w K mg base CX0 1 a.f_greatest_claims a.d_greatest_claims ["claims"] (sp_greatest_claims) := by
  refine T.F_greatest_claims.ok sc_greatest_claims (fun vs H Q E h => (by repeat (first | (obtain ⟨rfl, _⟩ := h; rfl) | obtain ⟨_, h⟩ := h))) (fun cdv A outer s H vs Q E hr h => ?_)
  have nd := sc_greatest_claims.nd
  have hu := hr.units
  have hu1 := hu_of hr
  obtain ⟨l, ps, rfl, ⟨xs, hl, hp⟩, hn, k⟩ := h
  refine ⟨_, (pss_cons (ps_set (i := 1) nd rfl (Or.inr rfl) pe_dnewK)
      (pss_cons (ps_for PassesOwn.never rfl (pi_list (pv 0)) (pg_tup rfl (pgs_cons (pg_name (i := 2) nd rfl (Or.inl rfl)) (pgs_cons (pg_name (i := 3) nd rfl (Or.inl rfl)) pgs_nil)))
      (pss_one (ps_dput hu1 (pv 1) (pv 2) (pe_callB (call_max2 rfl) (by exact rfl) T.z_max (by decide +kernel) (pa_cons (pv 3) (pa_cons (pe_dget2 hu1 (pv 1) (pv 2) pe_int ⟨rfl, rfl, rfl, rfl⟩) pa_nil))) rfl)))
      (pss_one (ps_ret (pe_lc (own := [("player", 2)]) rfl nd (pi_list (pe_callB (cr_sortD hu rfl) (by exact rfl) T.z_sorted (by decide +kernel) (pa_cons (pv 1) pa_nil))) (blkOk_by (own := [("player", 2)]) (N := ["claims", "greatest", "player", "number"]) (sc := defScope s_greatest_claims) (by decide +kernel)) (fun _ _ _ _ _ => (pg_name (i := 2) nd rfl (Or.inl rfl))) (fun _ _ _ _ _ => (pts_one (pt_cmpR op_gt (pe_dget hu1 (pv 1) (pv 2) (fun _ _ => rfl)) pe_int (nomark _)))) (fun _ _ _ _ _ => (pe_tup (pa_cons (pv 2) (pa_cons (pe_dget hu1 (pv 1) (pv 2) (fun _ _ => rfl)) pa_nil))))))))), ?_⟩
  wtm_at "go"
  refine fun d n_d => ?_
  generalize e_H1 : upd _ d _ = H1
  have s_H1 := same_upd n_d e_H1
  have h_d := upd_at e_H1
  clear e_H1
  wtm_at "go"
  refine foL (xs := xs) ((s_H1 _ _ hl |> SqL.of)) (fun i σ G => ∃ u v kvs, σ = [some (.ref l), some (.ref d), u, v] ∧ Same H G ∧ G d = some (.dK kvs) ∧ Best kvs (ps.take i)) ⟨_, _, _, rfl, s_H1, h_d, Best.nil⟩ (fun i σ G _ ⟨_, _, _, _, s, _⟩ => SqL.of (s _ _ hl)) (fun i x σ G hi hx ⟨u, v, kvs, e, s, hd, hb⟩ => ?_) (fun σ G ⟨u, v, kvs, e, s, hd, hb⟩ => ?_)
  · subst e
    obtain ⟨p, hp1, hp2⟩ := hp.get hx
    obtain ⟨t, rfl, ht⟩ := hp2.ext s
    wtm_at "go"
    refine e_isd hd ?_
    wtm_at "go"
    refine e_dget2 hd ?_
    rw [hb.val]
    wtm_at "go"
    refine ⟨_, _, rfl, ?_⟩
    wtm_at "go"
    have hlen := hb.len
    rw [List.length_take] at hlen
    have hlt := hp.length
    refine e_dput hd (by have := line_big; omega) (hold ?_)
    generalize e_G2 : upd G d _ = G2
    have b := but_upd e_G2
    have hd2 := upd_at e_G2
    refine ⟨_, _, _, rfl, b.same s n_d, hd2, ?_⟩
    rw [take_snoc hp1]
    exact hb.put p
  · subst e
    have htk : ps.take xs.length = ps := by rw [hp.length, List.take_length]
    rw [htk] at hb
    obtain ⟨ks, k1, k2, k3⟩ := hb.keys
    wtm_at "go"
    refine ⟨d, kvs, ks, rfl, .inl hd, k1, ?_⟩
    refine fun q n_q => ?_
    generalize e_G1 : upd _ q _ = G1
    have s_G1 := same_upd n_q e_G1
    have h_q := upd_at e_G1
    clear e_G1
    have hd1 := s_G1 _ _ hd
    refine lcL (fun i acc G' => Prs G' acc (ofKeys ps ((isort ks).take i))) (SqL.of h_q) (fun _ _ => .nil) (fun i x G' D hi hx ⟨acc, hD, ha, s2, nD, e⟩ => ?_) (fun acc G' D s2 nD hD ha e => ?_)
    · obtain ⟨n, hn1, rfl⟩ : ∃ n, (isort ks)[i]? = some n ∧ V.int n = x := by
        rw [List.getElem?_map] at hx
        cases z : (isort ks)[i]? with
        | none => rw [z] at hx; cases hx
        | some n => rw [z] at hx; exact ⟨n, rfl, Option.some.inj hx⟩
      have hmem : n ∈ ks := (isort_perm ks).mem_iff.mp (List.mem_of_getElem? hn1)
      have hg := hb.has n ((k3 n).mp hmem)
      have hd2 := s2 _ _ hd1
      wtm_at "go"
      refine e_dget hd2 hg ?_
      wtm_at "go"
      refine iteD (fun hpos => ?_) (fun hpos => ?_)
      · wtm_at "go"
        refine e_dget hd2 hg ?_
        wtm_at "go"
        refine ⟨by wtm_at "sz", fun t n_t => ?_⟩
        generalize e_G3 : upd _ t _ = G3
        have s_G3 := same_upd n_t e_G3
        have h_t := upd_at e_G3
        clear e_G3
        have hlk : ks.length ≤ ps.length := by
          have z1 := congrArg List.length k1
          rw [List.length_map, List.length_map] at z1
          rw [← z1]
          exact hb.len
        rw [List.length_map] at hi
        have hil := (isort_perm ks).length_eq
        exact lcT hD ha (by have := line_big; omega) s2 nD s_G3 fun H5 b5 hD5 => by
          show Prs H5 _ (ofKeys ps ((isort ks).take (i + 1)))
          rw [take_snoc hn1, ofKeys_snoc, if_pos hpos]
          exact Prs.app (b5.prs hD5 (Prs.ext e s_G3)) (.cons ⟨_, rfl, b5 _ _ (ne_tup_lst h_t hD5) h_t⟩ .nil)
      · exact lcN hD ha s2 nD (Same.refl _) (by
          show Prs G' _ (ofKeys ps ((isort ks).take (i + 1)))
          rw [take_snoc hn1, ofKeys_snoc, if_neg hpos, List.append_nil]
          exact e)
    · refine k G' D ((s.trans s_G1).trans s2) ((s.trans s_G1).free nD) ⟨acc, hD, ?_⟩
      rw [List.length_map, List.take_length, ofKeys_sorted k2 k3] at e
      exact e
end
end Ct
end
section
set_option Elab.async false
set_option linter.all false
set_option maxRecDepth 100000
set_option maxHeartbeats 8000000
namespace Ct
open PySem PySem.Spec L2 StX

local macro_rules | `(tactic| wtm_at "hp") => `(tactic| first
  | assumption
  | exact (‹Same _ _›) _ _ (by wtm_at "hp")
  | exact (‹But _ _ _›) _ _ (by wtm_at "ne") (by wtm_at "hp"))
local macro_rules | `(tactic| wtm_at "hpL") => `(tactic| first | exact SqL.of (by wtm_at "hp") | assumption)
local macro_rules | `(tactic| wtm_at "hpT") => `(tactic| first | exact SqT.of (by wtm_at "hp") | assumption)
local macro_rules | `(tactic| wtm_at "ne") => `(tactic| first
  | assumption
  | exact Ne.symm (by assumption)
  | exact ne_lst_tup (by wtm_at "hp") (by wtm_at "hp")
  | exact ne_tup_lst (by wtm_at "hp") (by wtm_at "hp")
  | exact ne_of_none (by wtm_at "hp") (by assumption)
  | exact Ne.symm (ne_of_none (by wtm_at "hp") (by assumption)))
local macro_rules | `(tactic| wtm_at "c") => `(tactic| first
  | omega
  | (unfold CMul; omega)
  | (unfold CDiv; omega)
  | (unfold CPow; omega))
local macro_rules | `(tactic| wtm_at "sz") => `(tactic| first
  | exact sz64 rfl
  | exact (by decide)
  | (show _ ≤ sizeLine; rw [sizeLine_eq]; omega)
  | (show _ < sizeLine; rw [sizeLine_eq]; omega))
local macro_rules | `(tactic| wtm_at "go1") => `(tactic| first
  | with_reducible refine r_seq ?_
  | with_reducible refine r_op ?_
  | ((with_reducible refine' r_var ?rv ?_); (case rv => exact rfl))
  | with_reducible refine r_c ?_
  | with_reducible refine r_asg ?_
  | with_reducible refine r_name ?_
  | with_reducible refine r_i0 ?_
  | ((with_reducible refine' r_i ?rc ?_); (case rc => wtm_at "c"))
  | ((with_reducible refine' r_ixL ?r1 ?r2 ?_); (case r1 => wtm_at "hpL"); (case r2 => first | exact rfl | assumption))
  | ((with_reducible refine' r_ixT ?r1 ?r2 ?_); (case r1 => wtm_at "hpT"); (case r2 => first | exact rfl | assumption))
  | with_reducible refine r_consA ?_
  | with_reducible refine r_nilA ?_
  | with_reducible refine r_call ?_
  | with_reducible refine r_cb ?_
  | with_reducible refine r_test ?_
  | with_reducible refine r_exb ?_
  | ((with_reducible refine r_eq ?rq ?_); (case rq => exact rfl))
  | ((with_reducible refine r_ne ?rq ?_); (case rq => exact rfl))
  | with_reducible refine r_ret ?_
  | with_reducible refine r_if ?_
  | with_reducible refine r_next ?_
  | with_reducible refine r_drop ?_
  | with_reducible refine r_gsub ?_
  | ((with_reducible refine' r_setL ?r1 ?r2 ?_); (case r1 => wtm_at "hp"); (case r2 => exact rfl))
  | with_reducible refine r_b ?_
  | with_reducible refine r_and ?_
  | with_reducible refine r_or ?_
  | with_reducible refine r_not ?_
  | with_reducible refine r_andV ?_
  | with_reducible refine r_orV ?_
  | with_reducible refine r_notV ?_
  | with_reducible refine r_ifE ?_
  | with_reducible refine r_chain ?_
  | with_reducible refine r_u ?_
  | with_reducible refine r_un ?_
  | with_reducible refine r_fld ?_
  | with_reducible refine r_fldS ?_
  | with_reducible refine r_lst ?_
  | with_reducible refine r_tup ?_
  | with_reducible refine r_par ?_
  | with_reducible refine r_par3 ?_
  | with_reducible refine r_retN ?_
  | with_reducible refine r_gcons ?_
  | with_reducible refine r_gnil ?_
  | ((with_reducible refine' r_gtup ?r1 ?r2 ?_); (case r1 => wtm_at "hpT"); (case r2 => exact rfl))
  | with_reducible refine r_bm ?_
  | with_reducible refine r_bm0 ?_
  | with_reducible refine r_lcL ?_
  | with_reducible refine r_foL ?_
  | with_reducible refine r_foR ?_
  | with_reducible refine r_yes ?_
  | ((with_reducible refine' r_wipe ?rw ?_); (case rw => exact rfl))
  | ((with_reducible refine' r_tyL ?r1 ?_); (case r1 => wtm_at "hpL"))
  | ((with_reducible refine' r_append ?r1 ?r2 ?_); (case r1 => wtm_at "hp"); (case r2 => wtm_at "sz"))
  | with_reducible refine r_dput ?_
  | with_reducible refine r_dget ?_
  | with_reducible refine r_dget2 ?_
  | with_reducible refine r_dnew ?_
  | with_reducible refine iteT ?_
  | with_reducible refine iteF ?_
  | with_reducible refine iteNT ?_
  | with_reducible refine iteNF ?_)
local macro_rules | `(tactic| wtm_at "go") => `(tactic| repeat wtm_at "go1")

def sp_Talk___init__ (a : Ad) : Sp := fun vs H Q _ => ∃ (t dx : Addr) (l m : Addr) (w : Int) (rs cs : List P2), vs = [.ref t, .int w, .ref l, .ref m] ∧ H t = some (.ins a.C_Talk dx []) ∧ PL H l rs ∧ PL H m cs ∧ rs.length ≤ 200 ∧ cs.length ≤ 200 ∧
  0 ≤ w ∧ w ≤ 6 ∧ (∀ p ∈ rs, isRes w p = true) ∧ (∀ p ∈ cs, isCl w p = true) ∧ ∀ H' r c, But t H H' → H r = none → H c = none → TalkR a.C_Talk H' t r c w (pset rs) (gcl cs) → Q .non H'
def sp_Talk_size (a : Ad) : Sp := fun vs H Q _ => ∃ (t r c : Addr) (w : Int) (rs cs : List P2), vs = [.ref t] ∧ TalkR a.C_Talk H t r c w rs cs ∧ Q (.int w) H
def sp_Talk_results (a : Ad) : Sp := fun vs H Q _ => ∃ (t r c : Addr) (w : Int) (rs cs : List P2), vs = [.ref t] ∧ TalkR a.C_Talk H t r c w rs cs ∧ ∀ H' x, Same H H' → H x = none → PL H' x rs → Q (.ref x) H'
def sp_Talk_claims (a : Ad) : Sp := fun vs H Q _ => ∃ (t r c : Addr) (w : Int) (rs cs : List P2), vs = [.ref t] ∧ TalkR a.C_Talk H t r c w rs cs ∧ ∀ H' x, Same H H' → H x = none → PL H' x cs → Q (.ref x) H'
def sp_Talk___len__ (a : Ad) : Sp := fun vs H Q _ => ∃ (t r c : Addr) (w : Int) (rs cs : List P2), vs = [.ref t] ∧ TalkR a.C_Talk H t r c w rs cs ∧ rs.length + cs.length ≤ 100000 ∧ ∀ H', Same H H' → Q (.int (rs.length + cs.length : Nat)) H'
def sp_Talk___eq__ (a : Ad) : Sp := fun vs H Q _ => ∃ (t r c : Addr) (w : Int) (rs cs : List P2) (t' r' c' : Addr) (w' : Int) (rs' cs' : List P2), vs = [.ref t, .ref t'] ∧ TalkR a.C_Talk H t r c w rs cs ∧ TalkR a.C_Talk H t' r' c' w' rs' cs' ∧
  rs.length ≤ 10000 ∧ cs.length ≤ 10000 ∧ rs'.length ≤ 10000 ∧ cs'.length ≤ 10000 ∧ Q (.bl (decide (w = w') && decide (rs = rs') && decide (cs = cs'))) H
section
variable {P : Program} {w : World} {K : PySem.W.Frag} {mg : Str → Option Value} {base : Heap} {a : Ad}
theorem sc_Talk___init__ : FnScope ["self", "size", "results", "claims"] ["self", "size", "results", "claims"] (defScope s_Talk___init__) := ⟨rfl, rfl, rfl, by decide +kernel, rfl, by decide +kernel, by decide +kernel⟩
theorem ok_Talk___init__ (T : Txt K mg a) : FnOk P w K mg base CX0 5 a.f_Talk___init__ a.d_Talk___init__ ["self", "size", "results", "claims"] (sp_Talk___init__ a) := by
  refine T.F_Talk___init__.ok sc_Talk___init__ (fun vs H Q E h => (by repeat (first | (obtain ⟨rfl, _⟩ := h; rfl) | obtain ⟨_, h⟩ := h))) (fun cdv A outer s H vs Q E hr h => ?_)
  have nd := sc_Talk___init__.nd
  have hu := hr.units
  have hu1 := hu_of hr
  obtain ⟨t, dx, l, m, w, rs, cs, rfl, ht, hr', hc', hrn, hcn, h0, h6, hrv, hcv, k⟩ := h
  refine ⟨_, (pss_cons (ps_expr (pe_call (ok_check_size T) (hr.mono (by decide)) (by exact rfl) T.m_check_size T.F_check_size.kp T.b_check_size .nil pass0 (pa_cons (pv 1) pa_nil)))
      (pss_cons (ps_expr (pe_call (ok_check_results T) (hr.mono (by decide)) (by exact rfl) T.m_check_results T.F_check_results.kp T.b_check_results .nil pass0 (pa_cons (pv 2) (pa_cons (pv 1) pa_nil))))
      (pss_cons (ps_expr (pe_call (ok_check_claims T) (hr.mono (by decide)) (by exact rfl) T.m_check_claims T.F_check_claims.kp T.b_check_claims .nil pass0 (pa_cons (pv 3) (pa_cons (pv 1) pa_nil))))
      (pss_cons (ps_fld (pv 0) (pv 1) rfl)
      (pss_cons (ps_fld (pv 0) (pe_callB (cr_sortS hu rfl) (by exact rfl) T.z_sorted (by decide +kernel) (pa_cons (pe_callTy (cr_setP rfl hu) (by exact rfl) T.z_set (by decide +kernel) (pa_cons (pv 2) pa_nil)) pa_nil)) rfl)
      (pss_one (ps_fld (pv 0) (pe_call (ok_greatest_claims T) (hr.mono (by decide)) (by exact rfl) T.m_greatest_claims T.F_greatest_claims.kp T.b_greatest_claims .nil pass0 (pa_cons (pv 3) pa_nil)) rfl))))))), ?_⟩
  wtm_at "go"
  refine ⟨w, rfl, h0, h6, ?_⟩
  wtm_at "go"
  obtain ⟨xs, hl, hp⟩ := hr'
  refine ⟨l, xs, rs, w, rfl, hl, hp, hrn, h0, h6, hrv, fun H1 s1 => ?_⟩
  wtm_at "go"
  obtain ⟨ys, hm, hpm⟩ := hc'
  refine ⟨m, ys, cs, w, rfl, s1 _ _ hm, hpm.ext s1, hcn, h0, h6, hcv, fun H2 s2 => ?_⟩
  have s := s1.trans s2
  have ht2 := s _ _ ht
  wtm_at "go"
  refine ⟨t, _, dx, [], rfl, ht2, T.cl_Talk, T.n_Talk__size, Nat.le_of_ble_eq_true rfl, ?_⟩
  refine hold ?_
  generalize e_H3 : upd _ t _ = H3
  have b_H3 := but_upd e_H3
  have h_H3 := upd_at e_H3
  clear e_H3
  have l3 : PL H3 l rs := b_H3.plI ht2 ⟨xs, s _ _ hl, hp.ext s⟩
  have m3 : PL H3 m cs := b_H3.plI ht2 ⟨ys, s _ _ hm, hpm.ext s⟩
  have b3 : But t H H3 := (Same.but s).trans b_H3
  obtain ⟨xs3, hl3, hp3⟩ := l3
  wtm_at "go"
  refine ⟨l, xs3, rs, rfl, .of hl3, hp3, by omega, fun d o nd' sp => ?_⟩
  generalize e_H4 : upd _ d _ = H4 at sp ⊢
  have s4 := same_upd nd' e_H4
  wtm_at "go"
  refine ⟨d, rs, rfl, sp, fun r zs nr hz => ?_⟩
  generalize e_H5 : upd _ r _ = H5
  have s5 := same_upd nr e_H5
  have h_r := upd_at e_H5
  have hz5 := hz.ext s5
  wtm_at "go"
  have ht5 := s5 _ _ (s4 _ _ h_H3)
  refine ⟨t, _, dx, _, rfl, ht5, T.cl_Talk, T.n_Talk__results, Nat.le_of_ble_eq_true rfl, ?_⟩
  refine hold ?_
  generalize e_H6 : upd _ t _ = H6
  have b_H6 := but_upd e_H6
  have h_H6 := upd_at e_H6
  clear e_H6
  have b6 : But t H H6 := (b3.trans (Same.but (s4.trans s5))).trans b_H6
  have r6 : PL H6 r (pset rs) := b_H6.plI ht5 ⟨zs, h_r, hz5⟩
  have m6 : PL H6 m cs := b_H6.plI ht5 (m3.ext (s4.trans s5))
  wtm_at "go"
  refine ⟨m, cs, rfl, m6, by omega, fun H7 c s7 nc hc7 => ?_⟩
  wtm_at "go"
  have ht7 := s7 _ _ h_H6
  refine ⟨t, _, dx, _, rfl, ht7, T.cl_Talk, T.n_Talk__claims, Nat.le_of_ble_eq_true rfl, ?_⟩
  refine hold ?_
  generalize e_H8 : upd _ t _ = H8
  have b_H8 := but_upd e_H8
  have h_H8 := upd_at e_H8
  clear e_H8
  wtm_at "go"
  have b8 : But t H H8 := (b6.trans (Same.but s7)).trans b_H8
  refine k H8 r c b8 (b3.free h_H3 (s4.free nr)) (b6.free h_H6 nc) ⟨⟨dx, _, h_H8, rfl, rfl, rfl, Nat.le_of_ble_eq_true rfl, fun f n1 n2 n3 => ?_⟩, b_H8.plI ht7 (r6.ext s7), b_H8.plI ht7 hc7⟩
  rw [lookup_putF, if_neg n3, lookup_putF, if_neg n2, lookup_putF, if_neg n1]
  rfl
theorem sc_Talk_size : FnScope ["self"] ["self"] (defScope s_Talk_size) := ⟨rfl, rfl, rfl, by decide +kernel, rfl, by decide +kernel, by decide +kernel⟩
theorem ok_Talk_size (T : Txt K mg a) : FnOk P w K mg base CX0 1 a.f_Talk_size a.d_Talk_size ["self"] (sp_Talk_size a) := by
  refine T.F_Talk_size.ok sc_Talk_size (fun vs H Q E h => (by repeat (first | (obtain ⟨rfl, _⟩ := h; rfl) | obtain ⟨_, h⟩ := h))) (fun cdv A outer s H vs Q E hr h => ?_)
  have nd := sc_Talk_size.nd
  have hu := hr.units
  have hu1 := hu_of hr
  obtain ⟨t, r, c, w, rs, cs, rfl, ⟨⟨dx, fs, h1, h2, h3, h4, h5, h6⟩, hr1, hc1⟩, k⟩ := h
  refine ⟨_, (pss_one (ps_ret (pe_fld (pv 0) rfl))), ?_⟩
  wtm_at "go"
  refine ⟨t, _, dx, fs, _, rfl, h1, T.cl_Talk, T.n_Talk__size, h2, ?_⟩
  wtm_at "go"
  exact k
theorem sc_Talk_results : FnScope ["self"] ["self"] (defScope s_Talk_results) := ⟨rfl, rfl, rfl, by decide +kernel, rfl, by decide +kernel, by decide +kernel⟩
theorem ok_Talk_results (T : Txt K mg a) : FnOk P w K mg base CX0 1 a.f_Talk_results a.d_Talk_results ["self"] (sp_Talk_results a) := by
  refine T.F_Talk_results.ok sc_Talk_results (fun vs H Q E h => (by repeat (first | (obtain ⟨rfl, _⟩ := h; rfl) | obtain ⟨_, h⟩ := h))) (fun cdv A outer s H vs Q E hr h => ?_)
  have nd := sc_Talk_results.nd
  have hu := hr.units
  have hu1 := hu_of hr
  obtain ⟨t, r, c, w, rs, cs, rfl, ⟨⟨dx, fs, h1, h2, h3, h4, h5, h6⟩, ⟨xs, hx, hp⟩, hc1⟩, k⟩ := h
  refine ⟨_, (pss_one (ps_ret (pe_callTy call_list_of (by exact rfl) T.z_list (by decide +kernel) (pa_cons (pe_fld (pv 0) rfl) pa_nil)))), ?_⟩
  wtm_at "go"
  refine ⟨t, _, dx, fs, _, rfl, h1, T.cl_Talk, T.n_Talk__results, h3, ?_⟩
  wtm_at "go"
  refine ⟨_, _, rfl, .inl (SqL.of (by wtm_at "hp")), ?_⟩
  refine fun q n_q => ?_
  generalize e_H1 : upd _ q _ = H1
  have s_H1 := same_upd n_q e_H1
  have h_q := upd_at e_H1
  clear e_H1
  wtm_at "go"
  exact k H1 q s_H1 n_q ⟨xs, h_q, hp.ext s_H1⟩
theorem sc_Talk_claims : FnScope ["self"] ["self"] (defScope s_Talk_claims) := ⟨rfl, rfl, rfl, by decide +kernel, rfl, by decide +kernel, by decide +kernel⟩
theorem ok_Talk_claims (T : Txt K mg a) : FnOk P w K mg base CX0 1 a.f_Talk_claims a.d_Talk_claims ["self"] (sp_Talk_claims a) := by
  refine T.F_Talk_claims.ok sc_Talk_claims (fun vs H Q E h => (by repeat (first | (obtain ⟨rfl, _⟩ := h; rfl) | obtain ⟨_, h⟩ := h))) (fun cdv A outer s H vs Q E hr h => ?_)
  have nd := sc_Talk_claims.nd
  have hu := hr.units
  have hu1 := hu_of hr
  obtain ⟨t, r, c, w, rs, cs, rfl, ⟨⟨dx, fs, h1, h2, h3, h4, h5, h6⟩, hr1, ⟨xs, hx, hp⟩⟩, k⟩ := h
  refine ⟨_, (pss_one (ps_ret (pe_callTy call_list_of (by exact rfl) T.z_list (by decide +kernel) (pa_cons (pe_fld (pv 0) rfl) pa_nil)))), ?_⟩
  wtm_at "go"
  refine ⟨t, _, dx, fs, _, rfl, h1, T.cl_Talk, T.n_Talk__claims, h4, ?_⟩
  wtm_at "go"
  refine ⟨_, _, rfl, .inl (SqL.of (by wtm_at "hp")), ?_⟩
  refine fun q n_q => ?_
  generalize e_H1 : upd _ q _ = H1
  have s_H1 := same_upd n_q e_H1
  have h_q := upd_at e_H1
  clear e_H1
  wtm_at "go"
  exact k H1 q s_H1 n_q ⟨xs, h_q, hp.ext s_H1⟩
theorem sc_Talk___len__ : FnScope ["self"] ["self"] (defScope s_Talk___len__) := ⟨rfl, rfl, rfl, by decide +kernel, rfl, by decide +kernel, by decide +kernel⟩
theorem ok_Talk___len__ (T : Txt K mg a) : FnOk P w K mg base CX0 1 a.f_Talk___len__ a.d_Talk___len__ ["self"] (sp_Talk___len__ a) := by
  refine T.F_Talk___len__.ok sc_Talk___len__ (fun vs H Q E h => (by repeat (first | (obtain ⟨rfl, _⟩ := h; rfl) | obtain ⟨_, h⟩ := h))) (fun cdv A outer s H vs Q E hr h => ?_)
  have nd := sc_Talk___len__.nd
  have hu := hr.units
  have hu1 := hu_of hr
  obtain ⟨t, r, c, w, rs, cs, rfl, ⟨⟨dx, fs, h1, h2, h3, h4, h5, h6⟩, ⟨xs, hx, hp⟩, ⟨ys, hy, hq⟩⟩, hn, k⟩ := h
  refine ⟨_, (pss_one (ps_ret (pe_callB call_len_seq (by exact rfl) T.z_len (by decide +kernel) (pa_cons (pe_lst (pa_star (pe_fld (pv 0) rfl) (pa_star (pe_fld (pv 0) rfl) pa_nil))) pa_nil)))), ?_⟩
  wtm_at "go"
  refine r_star ?_
  wtm_at "go"
  refine ⟨t, _, dx, fs, _, rfl, h1, T.cl_Talk, T.n_Talk__results, h3, ?_⟩
  refine ⟨_, _, rfl, .inr (SqL.of hx), ?_⟩
  refine r_star ?_
  wtm_at "go"
  refine ⟨t, _, dx, fs, _, rfl, h1, T.cl_Talk, T.n_Talk__claims, h4, ?_⟩
  refine ⟨_, _, rfl, .inr (SqL.of hy), ?_⟩
  wtm_at "go"
  have e1 := hp.length
  have e2 := hq.length
  have e3 : (xs ++ (ys ++ [])).length = rs.length + cs.length := by rw [List.length_append, List.append_nil, e1, e2]
  refine ⟨by rw [e3]; have := line_big; omega, fun q n_q => ?_⟩
  generalize e_H1 : upd _ q _ = H1
  have s_H1 := same_upd n_q e_H1
  have h_q := upd_at e_H1
  clear e_H1
  wtm_at "go"
  refine ⟨_, _, rfl, .inl (SqL.of (by wtm_at "hp")), ?_⟩
  rw [e3]
  wtm_at "go"
  exact k H1 s_H1
theorem sc_Talk___eq__ : FnScope ["self", "other"] ["self", "other"] (defScope s_Talk___eq__) := ⟨rfl, rfl, rfl, by decide +kernel, rfl, by decide +kernel, by decide +kernel⟩
theorem ok_Talk___eq__ (T : Txt K mg a) : FnOk P w K mg base CX0 1 a.f_Talk___eq__ a.d_Talk___eq__ ["self", "other"] (sp_Talk___eq__ a) := by
  refine T.F_Talk___eq__.ok sc_Talk___eq__ (fun vs H Q E h => (by repeat (first | (obtain ⟨rfl, _⟩ := h; rfl) | obtain ⟨_, h⟩ := h))) (fun cdv A outer s H vs Q E hr h => ?_)
  have nd := sc_Talk___eq__.nd
  have hu := hr.units
  have hu1 := hu_of hr
  obtain ⟨t, r, c, w, rs, cs, t', r', c', w', rs', cs', rfl, ht, ht', z1, z2, z3, z4, k⟩ := h
  have pr := ht.res.dp (K := K)
  have pc := ht.cla.dp (K := K)
  have pr' := ht'.res.dp (K := K)
  have pc' := ht'.cla.dp (K := K)
  obtain ⟨⟨dx, fs, h1, h2, h3, h4, h5, h6⟩, _, _⟩ := ht
  obtain ⟨⟨dx', fs', h1', h2', h3', h4', h5', h6'⟩, _, _⟩ := ht'
  refine ⟨_, (pss_one (ps_ret (pe_and (pe_callB call_isi (by exact rfl) T.z_isinstance (by decide +kernel) (pa_cons (pv 1) (pa_cons (pe_glob (v := .ref a.C_Talk) (by exact rfl) T.mC_Talk rfl) pa_nil))) (pe_and (pe_cmpR op_eq (pe_fld (pv 0) rfl) (pe_fld (pv 1) rfl) (nomark _)) (pe_and (pe_cmpR (op_eqD hu) (pe_fld (pv 0) rfl) (pe_fld (pv 1) rfl) (nomark _)) (pe_one (pe_cmpR (op_eqD hu) (pe_fld (pv 0) rfl) (pe_fld (pv 1) rfl) (nomark _)))))))), ?_⟩
  wtm_at "go"
  refine ⟨_, _, _, _, _, rfl, .own _, T.is_Talk.ty T.cl_Talk h1', Isi.kit _, ?_⟩
  wtm_at "go"
  refine ⟨t, _, dx, fs, _, rfl, h1, T.cl_Talk, T.n_Talk__size, h2, ?_⟩
  wtm_at "go"
  refine ⟨t', _, dx', fs', _, rfl, h1', T.cl_Talk, T.n_Talk__size, h2', ?_⟩
  wtm_at "go"
  refine iteD (fun e1 => ?_) (fun e1 => ?_)
  · have e1' := V.int.inj e1
    wtm_at "go"
    refine ⟨t, _, dx, fs, _, rfl, h1, T.cl_Talk, T.n_Talk__results, h3, ?_⟩
    wtm_at "go"
    refine ⟨t', _, dx', fs', _, rfl, h1', T.cl_Talk, T.n_Talk__results, h3', ?_⟩
    refine ⟨_, _, pr, pr', dL_shaped _, dL_shaped _, ?_⟩
    rw [dL_eqv]
    wtm_at "go"
    refine iteD (fun e2 => ?_) (fun e2 => ?_)
    · wtm_at "go"
      refine ⟨t, _, dx, fs, _, rfl, h1, T.cl_Talk, T.n_Talk__claims, h4, ?_⟩
      wtm_at "go"
      refine ⟨t', _, dx', fs', _, rfl, h1', T.cl_Talk, T.n_Talk__claims, h4', ?_⟩
      refine ⟨_, _, pc, pc', dL_shaped _, dL_shaped _, ?_⟩
      rw [dL_eqv]
      rw [decide_eq_true e1', decide_eq_true e2] at k
      exact k
    · rw [decide_eq_true e1', decide_eq_false e2] at k
      exact k
  · have e1' : ¬ w = w' := fun z => e1 (congrArg V.int z)
    rw [decide_eq_false e1'] at k
    exact k
end
end Ct
end
section
set_option Elab.async false
set_option linter.all false
set_option maxRecDepth 100000
set_option maxHeartbeats 8000000
namespace Ct
open PySem PySem.Spec L2 StX

local macro_rules | `(tactic| wtm_at "hp") => `(tactic| first
  | assumption
  | exact (‹Same _ _›) _ _ (by wtm_at "hp")
  | exact (‹But _ _ _›) _ _ (by wtm_at "ne") (by wtm_at "hp"))
local macro_rules | `(tactic| wtm_at "hpL") => `(tactic| first | exact SqL.of (by wtm_at "hp") | assumption)
local macro_rules | `(tactic| wtm_at "hpT") => `(tactic| first | exact SqT.of (by wtm_at "hp") | assumption)
local macro_rules | `(tactic| wtm_at "ne") => `(tactic| first
  | assumption
  | exact Ne.symm (by assumption)
  | exact ne_lst_tup (by wtm_at "hp") (by wtm_at "hp")
  | exact ne_tup_lst (by wtm_at "hp") (by wtm_at "hp")
  | exact ne_of_none (by wtm_at "hp") (by assumption)
  | exact Ne.symm (ne_of_none (by wtm_at "hp") (by assumption)))
local macro_rules | `(tactic| wtm_at "c") => `(tactic| first
  | omega
  | (unfold CMul; omega)
  | (unfold CDiv; omega)
  | (unfold CPow; omega))
local macro_rules | `(tactic| wtm_at "sz") => `(tactic| first
  | exact sz64 rfl
  | exact (by decide)
  | (show _ ≤ sizeLine; rw [sizeLine_eq]; omega)
  | (show _ < sizeLine; rw [sizeLine_eq]; omega))
local macro_rules | `(tactic| wtm_at "go1") => `(tactic| first
  | with_reducible refine r_seq ?_
  | with_reducible refine r_op ?_
  | ((with_reducible refine' r_var ?rv ?_); (case rv => exact rfl))
  | with_reducible refine r_c ?_
  | with_reducible refine r_asg ?_
  | with_reducible refine r_name ?_
  | with_reducible refine r_i0 ?_
  | ((with_reducible refine' r_i ?rc ?_); (case rc => wtm_at "c"))
  | ((with_reducible refine' r_ixL ?r1 ?r2 ?_); (case r1 => wtm_at "hpL"); (case r2 => first | exact rfl | assumption))
  | ((with_reducible refine' r_ixT ?r1 ?r2 ?_); (case r1 => wtm_at "hpT"); (case r2 => first | exact rfl | assumption))
  | with_reducible refine r_consA ?_
  | with_reducible refine r_nilA ?_
  | with_reducible refine r_call ?_
  | with_reducible refine r_cb ?_
  | with_reducible refine r_test ?_
  | with_reducible refine r_exb ?_
  | ((with_reducible refine r_eq ?rq ?_); (case rq => exact rfl))
  | ((with_reducible refine r_ne ?rq ?_); (case rq => exact rfl))
  | with_reducible refine r_ret ?_
  | with_reducible refine r_if ?_
  | with_reducible refine r_next ?_
  | with_reducible refine r_drop ?_
  | with_reducible refine r_gsub ?_
  | ((with_reducible refine' r_setL ?r1 ?r2 ?_); (case r1 => wtm_at "hp"); (case r2 => exact rfl))
  | with_reducible refine r_b ?_
  | with_reducible refine r_and ?_
  | with_reducible refine r_or ?_
  | with_reducible refine r_not ?_
  | with_reducible refine r_andV ?_
  | with_reducible refine r_orV ?_
  | with_reducible refine r_notV ?_
  | with_reducible refine r_ifE ?_
  | with_reducible refine r_chain ?_
  | with_reducible refine r_u ?_
  | with_reducible refine r_un ?_
  | with_reducible refine r_fld ?_
  | with_reducible refine r_fldS ?_
  | with_reducible refine r_lst ?_
  | with_reducible refine r_tup ?_
  | with_reducible refine r_par ?_
  | with_reducible refine r_par3 ?_
  | with_reducible refine r_retN ?_
  | with_reducible refine r_gcons ?_
  | with_reducible refine r_gnil ?_
  | ((with_reducible refine' r_gtup ?r1 ?r2 ?_); (case r1 => wtm_at "hpT"); (case r2 => exact rfl))
  | with_reducible refine r_bm ?_
  | with_reducible refine r_bm0 ?_
  | with_reducible refine r_lcL ?_
  | with_reducible refine r_foL ?_
  | with_reducible refine r_foR ?_
  | with_reducible refine r_yes ?_
  | ((with_reducible refine' r_wipe ?rw ?_); (case rw => exact rfl))
  | ((with_reducible refine' r_tyL ?r1 ?_); (case r1 => wtm_at "hpL"))
  | ((with_reducible refine' r_append ?r1 ?r2 ?_); (case r1 => wtm_at "hp"); (case r2 => wtm_at "sz"))
  | with_reducible refine r_dput ?_
  | with_reducible refine r_dget ?_
  | with_reducible refine r_dget2 ?_
  | with_reducible refine r_dnew ?_
  | with_reducible refine iteT ?_
  | with_reducible refine iteF ?_
  | with_reducible refine iteNT ?_
  | with_reducible refine iteNF ?_)
local macro_rules | `(tactic| wtm_at "go") => `(tactic| repeat wtm_at "go1")


local macro_rules | `(tactic| wtm_at "go1") => `(tactic| first
  | with_reducible refine e_int1 ?_
  | with_reducible refine e_int2 ?_
  | with_reducible refine e_two ?_
  | ((with_reducible refine' e_lenL ?r1 ?_); (case r1 => wtm_at "hpL"))
  | ((with_reducible refine' e_lenT ?r1 ?_); (case r1 => wtm_at "hpT")))

local macro_rules | `(tactic| wtm_at "go1") => `(tactic| first
  | with_reducible refine r_listRg ?_
  | with_reducible refine r_rg1 ?_
  | with_reducible refine r_exi ?_)
def sp_check_player : Sp := fun vs H Q _ => ∃ i k : Int, vs = [.int i, .int k] ∧ 0 ≤ k ∧ k ≤ 6 ∧ 0 ≤ i ∧ i < 2 ^ k.toNat ∧ Q .non H
def sp_is_order : Sp := fun vs H Q _ => ∃ (l : Addr) (row : List Int) (n : Nat), vs = [.ref l] ∧ H l = some (.lst (row.map V.int)) ∧ n ≤ 6 ∧ row.length = 2 ^ n ∧ row.Perm ((List.range (2 ^ n)).map Int.ofNat) ∧ ∀ H', Same H H' → Q (.bl true) H'
section
variable {P : Program} {w : World} {K : PySem.W.Frag} {mg : Str → Option Value} {base : Heap} {a : Ad}
theorem sc_is_order : FnScope ["thing", "player"] ["thing"] (defScope s_is_order) := ⟨rfl, rfl, rfl, by decide +kernel, rfl, by decide +kernel, by decide +kernel⟩
theorem ok_is_order (T : Txt K mg a) : FnOk P w K mg base CX0 2 a.f_is_order a.d_is_order ["thing"] (sp_is_order) := by
  refine T.F_is_order.ok sc_is_order (fun vs H Q E h => (by repeat (first | (obtain ⟨rfl, _⟩ := h; rfl) | obtain ⟨_, h⟩ := h))) (fun cdv A outer s H vs Q E hr h => ?_)
  have nd := sc_is_order.nd
  have hu := hr.units
  have hu1 := hu_of hr
  obtain ⟨l, row, n, rfl, hl, hn, hlen, hp, k⟩ := h
  refine ⟨_, (pss_cons (ps_if (PW.pt (pw_or (pt_not (pt_val (pe_callB call_isi (by exact rfl) T.z_isinstance (by decide +kernel) (pa_cons (pv 0) (pa_cons (pe_bltn (v := .ty "list") (by exact rfl) T.z_list (by decide +kernel) rfl) pa_nil))))) (pw_or1 (pt_cmpR op_notIn_seq (pe_callB call_len_seq (by exact rfl) T.z_len (by decide +kernel) (pa_cons (pv 0) pa_nil)) (pe_glob (v := .ref a.K_NUMBERS_OF_PLAYERS) (by exact rfl) T.t_NUMBERS_OF_PLAYERS rfl) (by rfl))))) (pss_one (ps_ret pe_bl)) pss_nil)
      (pss_one (ps_ret (pe_and (pe_callB (cr_all rfl) (by exact rfl) T.z_all (by decide +kernel) (pa_cons (pe_lc (own := [("player", 1)]) rfl nd (pi_list (pv 0)) (blkOk_by (own := [("player", 1)]) (N := ["thing", "player"]) (sc := defScope s_is_order) (by decide +kernel)) (fun _ _ _ _ _ => (pg_name (i := 1) nd rfl (Or.inl rfl))) (fun _ _ _ _ _ => pts_nil) (fun _ _ _ _ _ => (pe_call (ok_is_integer T) (hr.mono (by decide)) (by exact rfl) T.m_is_integer T.F_is_integer.kp T.b_is_integer .nil pass0 (pa_cons (pv 1) pa_nil)))) pa_nil)) (pe_one (pe_cmpR (op_eqD hu) (pe_callB cr_sortedI (by exact rfl) T.z_sorted (by decide +kernel) (pa_cons (pv 0) pa_nil)) (L2.pe_listRg rfl (by exact rfl) T.z_list (L2.prg_1 (by exact rfl) T.z_range (pe_callB call_len_seq (by exact rfl) T.z_len (by decide +kernel) (pa_cons (pv 0) pa_nil)))) (nomark _))))))), ?_⟩
  wtm_at "go"
  refine r_isi (b := true) (.base (.lst hl)) (by decide +kernel) ?_
  wtm_at "go"
  refine ⟨_, _, rfl, .inr (T.q_NUMBERS_OF_PLAYERS H), rfl, rfl, ?_⟩
  have hin : inV (V.int ((row.map V.int).length : Nat)) [V.int 1, V.int 2, V.int 4, V.int 8, V.int 16, V.int 32, V.int 64] = true := by
    rw [List.length_map, hlen]
    have hn' : n = 0 ∨ n = 1 ∨ n = 2 ∨ n = 3 ∨ n = 4 ∨ n = 5 ∨ n = 6 := by omega
    rcases hn' with rfl | rfl | rfl | rfl | rfl | rfl | rfl <;> decide
  rw [hin, if_pos rfl]
  wtm_at "go"
  refine lcL (fun i acc G => acc = List.replicate i (V.bl true)) (SqL.of hl) (fun _ _ => rfl) (fun i x G D hi hx ⟨acc, hD, ha, s, nD, e⟩ => ?_) (fun acc G D s nD hD ha e => ?_)
  · obtain ⟨z, rfl⟩ : ∃ z, x = V.int z := by
      rw [List.getElem?_map] at hx
      cases q : row[i]? with
      | none => rw [q] at hx; cases hx
      | some z => rw [q] at hx; exact ⟨z, (Option.some.inj hx).symm⟩
    wtm_at "go"
    refine isI ?_
    have hlt : (row.map V.int).length ≤ 64 := by
      rw [List.length_map, hlen]
      exact Nat.pow_le_pow_right (by decide) hn
    exact lcT hD ha (by have := line_big; omega) s nD (Same.refl _) fun _ _ _ => by
      show acc ++ [V.bl true] = List.replicate (i + 1) (V.bl true)
      rw [show acc = List.replicate i (V.bl true) from e, List.replicate_succ']
  · wtm_at "go"
    refine ⟨_, List.replicate (row.map V.int).length true, rfl, SqL.of (by rw [hD, List.map_replicate]; exact congrArg (fun q => some (HO.lst q)) e), ?_⟩
    rw [rep_all]
    wtm_at "go"
    refine ⟨l, row, rfl, .of (s _ _ hl), fun ns' p hpm hps np => ?_⟩
    generalize e_H2 : upd _ p _ = H2
    have s2 := same_upd np e_H2
    have h_p := upd_at e_H2
    have hl2 := s2 _ _ (s _ _ hl)
    wtm_at "go"
    have hl64 : (2 : Nat) ^ n ≤ 64 := Nat.pow_le_pow_right (by decide) hn
    have hlm : (row.map V.int).length = 2 ^ n := by rw [List.length_map, hlen]
    refine ⟨.of_le (by decide) (by omega) (by decide) (by omega), fun q nq => ?_⟩
    generalize e_H3 : upd _ q _ = H3
    have s3 := same_upd nq e_H3
    have h_q := upd_at e_H3
    have er : rgV 0 ((row.map V.int).length : Nat) = ((List.range (2 ^ n)).map Int.ofNat).map V.int := by
      unfold rgV
      rw [hlm, List.map_map]
      have e0 : (((2 ^ n : Nat) : Int) - 0).toNat = 2 ^ n := by omega
      rw [e0]
      refine List.map_congr_left fun i _ => ?_
      show V.int (0 + (i : Int)) = V.int (Int.ofNat i)
      rw [Int.zero_add]
      rfl
    rw [er] at h_q
    refine ⟨_, _, dI_dp (s3 _ _ h_p), dI_dp h_q, dI_shaped _, dI_shaped _, ?_⟩
    have es : ns' = (List.range (2 ^ n)).map Int.ofNat := sorted_one (hpm.trans hp) hps (by
      refine List.pairwise_map.mpr (List.Pairwise.imp (fun {a b} h => ?_) (List.pairwise_lt_range (n := 2 ^ n)))
      show (a : Int) ≤ (b : Int)
      omega)
    rw [dI_eqv, es, decide_eq_true rfl]
    exact k H3 ((s.trans s2).trans s3)
end
end Ct
end
section
set_option Elab.async false
set_option linter.all false
set_option maxRecDepth 100000
set_option maxHeartbeats 8000000
namespace Ct
open PySem PySem.Spec L2 StX

local macro_rules | `(tactic| wtm_at "hp") => `(tactic| first
  | assumption
  | exact (‹Same _ _›) _ _ (by wtm_at "hp")
  | exact (‹But _ _ _›) _ _ (by wtm_at "ne") (by wtm_at "hp"))
local macro_rules | `(tactic| wtm_at "hpL") => `(tactic| first | exact SqL.of (by wtm_at "hp") | assumption)
local macro_rules | `(tactic| wtm_at "hpT") => `(tactic| first | exact SqT.of (by wtm_at "hp") | assumption)
local macro_rules | `(tactic| wtm_at "ne") => `(tactic| first
  | assumption
  | exact Ne.symm (by assumption)
  | exact ne_lst_tup (by wtm_at "hp") (by wtm_at "hp")
  | exact ne_tup_lst (by wtm_at "hp") (by wtm_at "hp")
  | exact ne_of_none (by wtm_at "hp") (by assumption)
  | exact Ne.symm (ne_of_none (by wtm_at "hp") (by assumption)))
local macro_rules | `(tactic| wtm_at "c") => `(tactic| first
  | omega
  | (unfold CMul; omega)
  | (unfold CDiv; omega)
  | (unfold CPow; omega))
local macro_rules | `(tactic| wtm_at "sz") => `(tactic| first
  | exact sz64 rfl
  | exact (by decide)
  | (show _ ≤ sizeLine; rw [sizeLine_eq]; omega)
  | (show _ < sizeLine; rw [sizeLine_eq]; omega))
local macro_rules | `(tactic| wtm_at "go1") => `(tactic| first
  | with_reducible refine r_seq ?_
  | with_reducible refine r_op ?_
  | ((with_reducible refine' r_var ?rv ?_); (case rv => exact rfl))
  | with_reducible refine r_c ?_
  | with_reducible refine r_asg ?_
  | with_reducible refine r_name ?_
  | with_reducible refine r_i0 ?_
  | ((with_reducible refine' r_i ?rc ?_); (case rc => wtm_at "c"))
  | ((with_reducible refine' r_ixL ?r1 ?r2 ?_); (case r1 => wtm_at "hpL"); (case r2 => first | exact rfl | assumption))
  | ((with_reducible refine' r_ixT ?r1 ?r2 ?_); (case r1 => wtm_at "hpT"); (case r2 => first | exact rfl | assumption))
  | with_reducible refine r_consA ?_
  | with_reducible refine r_nilA ?_
  | with_reducible refine r_call ?_
  | with_reducible refine r_cb ?_
  | with_reducible refine r_test ?_
  | with_reducible refine r_exb ?_
  | ((with_reducible refine r_eq ?rq ?_); (case rq => exact rfl))
  | ((with_reducible refine r_ne ?rq ?_); (case rq => exact rfl))
  | with_reducible refine r_ret ?_
  | with_reducible refine r_if ?_
  | with_reducible refine r_next ?_
  | with_reducible refine r_drop ?_
  | with_reducible refine r_gsub ?_
  | ((with_reducible refine' r_setL ?r1 ?r2 ?_); (case r1 => wtm_at "hp"); (case r2 => exact rfl))
  | with_reducible refine r_b ?_
  | with_reducible refine r_and ?_
  | with_reducible refine r_or ?_
  | with_reducible refine r_not ?_
  | with_reducible refine r_andV ?_
  | with_reducible refine r_orV ?_
  | with_reducible refine r_notV ?_
  | with_reducible refine r_ifE ?_
  | with_reducible refine r_chain ?_
  | with_reducible refine r_u ?_
  | with_reducible refine r_un ?_
  | with_reducible refine r_fld ?_
  | with_reducible refine r_fldS ?_
  | with_reducible refine r_lst ?_
  | with_reducible refine r_tup ?_
  | with_reducible refine r_par ?_
  | with_reducible refine r_par3 ?_
  | with_reducible refine r_retN ?_
  | with_reducible refine r_gcons ?_
  | with_reducible refine r_gnil ?_
  | ((with_reducible refine' r_gtup ?r1 ?r2 ?_); (case r1 => wtm_at "hpT"); (case r2 => exact rfl))
  | with_reducible refine r_bm ?_
  | with_reducible refine r_bm0 ?_
  | with_reducible refine r_lcL ?_
  | with_reducible refine r_foL ?_
  | with_reducible refine r_foR ?_
  | with_reducible refine r_yes ?_
  | ((with_reducible refine' r_wipe ?rw ?_); (case rw => exact rfl))
  | ((with_reducible refine' r_tyL ?r1 ?_); (case r1 => wtm_at "hpL"))
  | ((with_reducible refine' r_append ?r1 ?r2 ?_); (case r1 => wtm_at "hp"); (case r2 => wtm_at "sz"))
  | with_reducible refine r_dput ?_
  | with_reducible refine r_dget ?_
  | with_reducible refine r_dget2 ?_
  | with_reducible refine r_dnew ?_
  | with_reducible refine iteT ?_
  | with_reducible refine iteF ?_
  | with_reducible refine iteNT ?_
  | with_reducible refine iteNF ?_)
local macro_rules | `(tactic| wtm_at "go") => `(tactic| repeat wtm_at "go1")


local macro_rules | `(tactic| wtm_at "go1") => `(tactic| first
  | with_reducible refine e_int1 ?_
  | with_reducible refine e_int2 ?_
  | with_reducible refine e_two ?_
  | ((with_reducible refine' e_lenL ?r1 ?_); (case r1 => wtm_at "hpL"))
  | ((with_reducible refine' e_lenT ?r1 ?_); (case r1 => wtm_at "hpT")))

local macro_rules | `(tactic| wtm_at "go1") => `(tactic| first
  | with_reducible refine r_lcC ?_
  | with_reducible refine r_ev2 ?_)
def sp_rounds_of_order : Sp := fun vs H Q _ => ∃ (o : Addr) (row : List Int) (n : Nat), vs = [.ref o] ∧ H o = some (.lst (row.map V.int)) ∧ n ≤ 6 ∧ row.length = 2 ^ n ∧ row.Nodup ∧ ∀ H' r, Same H H' → H r = none → RL H' r (rds n row) → (∀ vs, H' r = some (.lst vs) → ∀ x : Addr, V.ref x ∈ vs → H x = none) → Q (.ref r) H'
section
variable {P : Program} {w : World} {K : PySem.W.Frag} {mg : Str → Option Value} {base : Heap} {a : Ad}
theorem sc_rounds_of_order : FnScope ["order", "left", "rounds", "at"] ["order"] (defScope s_rounds_of_order) := ⟨rfl, rfl, rfl, by decide +kernel, rfl, by decide +kernel, by decide +kernel⟩
theorem ok_rounds_of_order (T : Txt K mg a) : FnOk P w K mg base CX0 1 a.f_rounds_of_order a.d_rounds_of_order ["order"] (sp_rounds_of_order) := by
  refine T.F_rounds_of_order.ok sc_rounds_of_order (fun vs H Q E h => (by repeat (first | (obtain ⟨rfl, _⟩ := h; rfl) | obtain ⟨_, h⟩ := h))) (fun cdv A outer s H vs Q E hr h => ?_)
  have nd := sc_rounds_of_order.nd
  have hu := hr.units
  have hu1 := hu_of hr
  obtain ⟨o, row, n, rfl, ho, hn, hlen, hnd, k⟩ := h
  refine ⟨_, (pss_cons (ps_set (i := 1) nd rfl (Or.inr rfl) (pv 0))
      (pss_cons (ps_set (i := 2) nd rfl (Or.inl rfl) (pe_lst pa_nil))
      (pss_cons (ps_while PassesOwn.never (pt_cmpR op_gt (pe_callB call_len_seq (by exact rfl) T.z_len (by decide +kernel) (pa_cons (pv 1) pa_nil)) pe_int (nomark _)) (pss_cons (ps_expr (pe_bm PySem.F.plainAttrs_list PySem.F.slot_list_append PySem.F.type_list_append mt_append (pv 2) (pa_cons (pe_callB (cr_sortP hu) (by exact rfl) T.z_sorted (by decide +kernel) (pa_cons (pe_lc (own := [("at", 3)]) rfl nd (L2.pi_range3 (by exact rfl) T.z_range (pa_cons pe_int (pa_cons (pe_callB call_len_seq (by exact rfl) T.z_len (by decide +kernel) (pa_cons (pv 1) pa_nil)) (pa_cons pe_int pa_nil)))) (blkOk_by (own := [("at", 3)]) (N := ["order", "left", "rounds", "at"]) (sc := defScope s_rounds_of_order) (by decide +kernel)) (fun _ _ _ _ _ => (pg_name (i := 3) nd rfl (Or.inl rfl))) (fun _ _ _ _ _ => pts_nil) (fun _ _ _ _ _ => (pe_tup (pa_cons (pe_ix (r := rIxL K) ix_list (pv 1) (pv 3) (fun _ _ => rfl)) (pa_cons (pe_ix (r := rIxL K) ix_list (pv 1) (pe_op op_add (pv 3) pe_int) (fun _ _ => rfl)) pa_nil))))) pa_nil)) pa_nil)))
      (pss_one (ps_set (i := 1) nd rfl (Or.inr rfl) (pe_ev2 (pv 1))))))
      (pss_one (ps_ret (pv 2)))))), ?_⟩
  wtm_at "go"
  refine ⟨by wtm_at "sz", fun r n_r => ?_⟩
  generalize e_H1 : upd _ r _ = H1
  have s_H1 := same_upd n_r e_H1
  have h_r := upd_at e_H1
  clear e_H1
  have nor : o ≠ r := ne_of_none ho n_r
  wtm_at "go"
  refine r_while (fun m σ G => ∃ u p l acc vs, σ = [some (.ref o), some (.ref p), some (.ref r), u] ∧ Same H G ∧ p ≠ r ∧ G p = some (.lst (l.map V.int)) ∧ l.length = 2 ^ m ∧ l.Nodup ∧ G r = some (.lst vs) ∧ Paired (IsL G) vs acc ∧ (∀ x : Addr, V.ref x ∈ vs → H x = none) ∧ acc.length + m = n ∧ acc ++ rds m l = rds n row) n ⟨_, o, row, [], [], rfl, s_H1, nor, s_H1 _ _ ho, hlen, hnd, h_r, .nil, (fun x h => by cases h), Nat.zero_add _, rfl⟩ (fun m σ G ⟨u, p, l, acc, vs, e, s, npr, hp, hl, hd, hr, pr, fr, em, er⟩ => ?_)
  subst e
  wtm_at "go"
  refine iteD (fun h1 => ?_) (fun h1 => ?_)
  · cases m with
    | zero => rw [List.length_map, hl] at h1; exact absurd h1 (by decide)
    | succ m =>
      refine ⟨fun σ G => ∃ u p l acc vs, σ = [some (.ref o), some (.ref p), some (.ref r), u] ∧ Same H G ∧ p ≠ r ∧ G p = some (.lst (l.map V.int)) ∧ l.length = 2 ^ m ∧ l.Nodup ∧ G r = some (.lst vs) ∧ Paired (IsL G) vs acc ∧ (∀ x : Addr, V.ref x ∈ vs → H x = none) ∧ acc.length + m = n ∧ acc ++ rds m l = rds n row, fun σ' H' h => ⟨m, Nat.lt_succ_self _, h⟩, ?_⟩
      have hl2 : (pairsOf l).length = 2 ^ m := pairsOf_len (by rw [hl, Nat.pow_succ]; omega)
      have h64 : (2 : Nat) ^ m ≤ 32 := Nat.pow_le_pow_right (n := 2) (by decide) (show m ≤ 5 by omega)
      wtm_at "go"
      rw [List.length_map, hl]
      refine lcC (rg2 (by omega)) (fun i acc G => Prs G acc ((pairsOf l).take i)) (fun _ _ => .nil) (fun i G1 D hi ⟨acc1, hD, ha, s1, nD, e1⟩ => ?_) (fun acc1 G1 D s1 nD hD ha e1 => ?_)
      · have e0 : (0 + (i : Int) * 2) = ((2 * i : Nat) : Int) := by omega
        rw [e0]
        have hl' : l.length = 2 * 2 ^ m := by rw [hl, Nat.pow_succ]; omega
        have j1 : 2 * i < l.length := by omega
        have j2 : 2 * i + 1 < l.length := by omega
        have x1 : l[2 * i]? = some l[2 * i] := List.getElem?_eq_getElem j1
        have x2 : l[2 * i + 1]? = some l[2 * i + 1] := List.getElem?_eq_getElem j2
        have hv1 : atI (l.map V.int) ((2 * i : Nat) : Int) = some (V.int l[2 * i]) := atI_nat (by rw [List.getElem?_map, x1]; rfl)
        have hv2 : atI (l.map V.int) (((2 * i : Nat) : Int) + 1) = some (V.int l[2 * i + 1]) := by
          rw [show (((2 * i : Nat) : Int) + 1) = ((2 * i + 1 : Nat) : Int) by omega]
          exact atI_nat (by rw [List.getElem?_map, x2]; rfl)
        have hp1 := s1 _ _ hp
        wtm_at "go"
        refine ⟨by wtm_at "sz", fun t n_t => ?_⟩
        generalize e_G3 : upd _ t _ = G3
        have s_G3 := same_upd n_t e_G3
        have h_t := upd_at e_G3
        clear e_G3
        exact lcT hD ha (by have := line_big; omega) s1 nD s_G3 fun H5 b5 hD5 => by
          show Prs H5 _ ((pairsOf l).take (i + 1))
          rw [take_snoc (pairsOf_at x1 x2)]
          exact Prs.app (b5.prs hD5 (Prs.ext e1 s_G3)) (.cons ⟨_, rfl, b5 _ _ (ne_tup_lst h_t hD5) h_t⟩ .nil)
      · rw [← hl2, List.take_length] at e1
        wtm_at "go"
        refine ⟨D, acc1, pairsOf l, rfl, .of hD, e1, fun q ys nq hys => ?_⟩
        rw [psort_nodup (pairsOf_nodup hd)] at hys
        generalize e_G2 : upd _ q _ = G2
        have s2 := same_upd nq e_G2
        have h_q := upd_at e_G2
        have hr2 := s2 _ _ (s1 _ _ hr)
        have pr2 := isLs_ext pr (s1.trans s2)
        have hvs := Paired.length pr
        wtm_at "go"
        try refine r_append hr2 (by have := line_big; omega) ?_
        refine hold ?_
        generalize e_G3 : upd _ r _ = G3
        have b_G3 := but_upd e_G3
        have h_G3 := upd_at e_G3
        clear e_G3
        have s02 := (s.trans s1).trans s2
        have s03 := b_G3.same s02 n_r
        have hp3 := b_G3 _ _ npr (s2 _ _ (s1 _ _ hp))
        wtm_at "go"
        refine ⟨p, _, rfl, .of hp3, fun p2 np2 => ?_⟩
        generalize e_G4 : upd _ p2 _ = G4
        have s4 := same_upd np2 e_G4
        have h_p2 := upd_at e_G4
        rw [evens_map] at h_p2
        wtm_at "go"
        refine ⟨_, p2, evens l, acc ++ [pset (pairsOf l)], _, rfl, s03.trans s4, Ne.symm (ne_of_none h_G3 np2), h_p2, ?_, (evens_sub l).nodup hd, s4 _ _ h_G3, isLs_app (isLs_ext (isLs_but hr2 b_G3 (fun _ h => h) pr2) s4) (.cons ⟨q, rfl, ys, s4 _ _ (b_G3 _ _ (Ne.symm (ne_of_none (s1 _ _ hr) nq)) h_q), Prs.ext (b_G3.prs hr2 (hys.ext s2)) s4⟩ .nil), (fun x hx => (List.mem_append.mp hx).elim (fr x) fun h => by cases List.mem_singleton.mp h; exact (s.trans s1).free nq), ?_, ?_⟩
        · rw [evens_len, hl, Nat.pow_succ]
          omega
        · rw [List.length_append]
          show acc.length + 1 + m = n
          omega
        · rw [List.append_assoc]
          exact er
  · cases m with
    | zero =>
      wtm_at "go"
      have er' : acc = rds n row := by rw [← er]; exact (List.append_nil acc).symm
      exact k G r s n_r ⟨vs, hr, er' ▸ pr⟩ fun ws hw => by rw [hr] at hw; rw [← HO.lst.inj (Option.some.inj hw)]; exact fr
    | succ m =>
      rw [List.length_map, hl] at h1
      have := Nat.one_le_two_pow (n := m)
      rw [Nat.pow_succ] at h1
      omega
end
end Ct
end
section
set_option Elab.async false
set_option linter.all false
set_option maxRecDepth 100000
set_option maxHeartbeats 8000000
namespace Ct
open PySem PySem.Spec L2 StX

local macro_rules | `(tactic| wtm_at "hp") => `(tactic| first
  | assumption
  | exact (‹Same _ _›) _ _ (by wtm_at "hp")
  | exact (‹But _ _ _›) _ _ (by wtm_at "ne") (by wtm_at "hp"))
local macro_rules | `(tactic| wtm_at "hpL") => `(tactic| first | exact SqL.of (by wtm_at "hp") | assumption)
local macro_rules | `(tactic| wtm_at "hpT") => `(tactic| first | exact SqT.of (by wtm_at "hp") | assumption)
local macro_rules | `(tactic| wtm_at "ne") => `(tactic| first
  | assumption
  | exact Ne.symm (by assumption)
  | exact ne_lst_tup (by wtm_at "hp") (by wtm_at "hp")
  | exact ne_tup_lst (by wtm_at "hp") (by wtm_at "hp")
  | exact ne_of_none (by wtm_at "hp") (by assumption)
  | exact Ne.symm (ne_of_none (by wtm_at "hp") (by assumption)))
local macro_rules | `(tactic| wtm_at "c") => `(tactic| first
  | omega
  | (unfold CMul; omega)
  | (unfold CDiv; omega)
  | (unfold CPow; omega))
local macro_rules | `(tactic| wtm_at "sz") => `(tactic| first
  | exact sz64 rfl
  | exact (by decide)
  | (show _ ≤ sizeLine; rw [sizeLine_eq]; omega)
  | (show _ < sizeLine; rw [sizeLine_eq]; omega))
local macro_rules | `(tactic| wtm_at "go1") => `(tactic| first
  | with_reducible refine r_seq ?_
  | with_reducible refine r_op ?_
  | ((with_reducible refine' r_var ?rv ?_); (case rv => exact rfl))
  | with_reducible refine r_c ?_
  | with_reducible refine r_asg ?_
  | with_reducible refine r_name ?_
  | with_reducible refine r_i0 ?_
  | ((with_reducible refine' r_i ?rc ?_); (case rc => wtm_at "c"))
  | ((with_reducible refine' r_ixL ?r1 ?r2 ?_); (case r1 => wtm_at "hpL"); (case r2 => first | exact rfl | assumption))
  | ((with_reducible refine' r_ixT ?r1 ?r2 ?_); (case r1 => wtm_at "hpT"); (case r2 => first | exact rfl | assumption))
  | with_reducible refine r_consA ?_
  | with_reducible refine r_nilA ?_
  | with_reducible refine r_call ?_
  | with_reducible refine r_cb ?_
  | with_reducible refine r_test ?_
  | with_reducible refine r_exb ?_
  | ((with_reducible refine r_eq ?rq ?_); (case rq => exact rfl))
  | ((with_reducible refine r_ne ?rq ?_); (case rq => exact rfl))
  | with_reducible refine r_ret ?_
  | with_reducible refine r_if ?_
  | with_reducible refine r_next ?_
  | with_reducible refine r_drop ?_
  | with_reducible refine r_gsub ?_
  | ((with_reducible refine' r_setL ?r1 ?r2 ?_); (case r1 => wtm_at "hp"); (case r2 => exact rfl))
  | with_reducible refine r_b ?_
  | with_reducible refine r_and ?_
  | with_reducible refine r_or ?_
  | with_reducible refine r_not ?_
  | with_reducible refine r_andV ?_
  | with_reducible refine r_orV ?_
  | with_reducible refine r_notV ?_
  | with_reducible refine r_ifE ?_
  | with_reducible refine r_chain ?_
  | with_reducible refine r_u ?_
  | with_reducible refine r_un ?_
  | with_reducible refine r_fld ?_
  | with_reducible refine r_fldS ?_
  | with_reducible refine r_lst ?_
  | with_reducible refine r_tup ?_
  | with_reducible refine r_par ?_
  | with_reducible refine r_par3 ?_
  | with_reducible refine r_retN ?_
  | with_reducible refine r_gcons ?_
  | with_reducible refine r_gnil ?_
  | ((with_reducible refine' r_gtup ?r1 ?r2 ?_); (case r1 => wtm_at "hpT"); (case r2 => exact rfl))
  | with_reducible refine r_bm ?_
  | with_reducible refine r_bm0 ?_
  | with_reducible refine r_lcL ?_
  | with_reducible refine r_foL ?_
  | with_reducible refine r_foR ?_
  | with_reducible refine r_yes ?_
  | ((with_reducible refine' r_wipe ?rw ?_); (case rw => exact rfl))
  | ((with_reducible refine' r_tyL ?r1 ?_); (case r1 => wtm_at "hpL"))
  | ((with_reducible refine' r_append ?r1 ?r2 ?_); (case r1 => wtm_at "hp"); (case r2 => wtm_at "sz"))
  | with_reducible refine r_dput ?_
  | with_reducible refine r_dget ?_
  | with_reducible refine r_dget2 ?_
  | with_reducible refine r_dnew ?_
  | with_reducible refine iteT ?_
  | with_reducible refine iteF ?_
  | with_reducible refine iteNT ?_
  | with_reducible refine iteNF ?_)
local macro_rules | `(tactic| wtm_at "go") => `(tactic| repeat wtm_at "go1")


local macro_rules | `(tactic| wtm_at "go1") => `(tactic| first
  | with_reducible refine e_int1 ?_
  | with_reducible refine e_int2 ?_
  | with_reducible refine e_two ?_
  | ((with_reducible refine' e_lenL ?r1 ?_); (case r1 => wtm_at "hpL"))
  | ((with_reducible refine' e_lenT ?r1 ?_); (case r1 => wtm_at "hpT")))

def sp_Cup___init__ (a : Ad) : Sp := fun vs H Q _ => ∃ (c dx l : Addr) (row : List Int) (n : Nat), vs = [.ref c, .ref l] ∧ H c = some (.ins a.C_Cup dx []) ∧ H l = some (.lst (row.map V.int)) ∧ n ≤ 6 ∧ row.length = 2 ^ n ∧ row.Perm ((List.range (2 ^ n)).map Int.ofNat) ∧
  ∀ H' o r q b, But c H H' → CupF H H' o r q b → CupR a.C_Cup H' c o r q b row n → Q .non H'
section
variable {P : Program} {w : World} {K : PySem.W.Frag} {mg : Str → Option Value} {base : Heap} {a : Ad}
theorem sc_Cup___init__ : FnScope ["self", "order", "stage", "winner", "loser", "_"] ["self", "order"] (defScope s_Cup___init__) := ⟨rfl, rfl, rfl, by decide +kernel, rfl, by decide +kernel, by decide +kernel⟩
theorem ok_Cup___init__ (T : Txt K mg a) : FnOk P w K mg base CX0 3 a.f_Cup___init__ a.d_Cup___init__ ["self", "order"] (sp_Cup___init__ a) := by
  refine T.F_Cup___init__.ok sc_Cup___init__ (fun vs H Q E h => (by repeat (first | (obtain ⟨rfl, _⟩ := h; rfl) | obtain ⟨_, h⟩ := h))) (fun cdv A outer s H vs Q E hr h => ?_)
  have nd := sc_Cup___init__.nd
  have hu := hr.units
  have hu1 := hu_of hr
  obtain ⟨c, dx, l, row, n, rfl, hc, hl, hn, hlen, hp, k⟩ := h
  refine ⟨_, (pss_cons (ps_if (pt_not (pt_val (pe_call (ok_is_order T) (hr.mono (by decide)) (by exact rfl) T.m_is_order T.F_is_order.kp T.b_is_order .nil pass0 (pa_cons (pv 1) pa_nil)))) (pss_one ps_never) pss_nil)
      (pss_cons (ps_fld (pv 0) (pe_callTy call_list_of (by exact rfl) T.z_list (by decide +kernel) (pa_cons (pv 1) pa_nil)) rfl)
      (pss_cons (ps_fld (pv 0) (pe_call (ok_rounds_of_order T) (hr.mono (by decide)) (by exact rfl) T.m_rounds_of_order T.F_rounds_of_order.kp T.b_rounds_of_order .nil pass0 (pa_cons (pe_fld (pv 0) rfl) pa_nil)) rfl)
      (pss_cons (ps_fld (pv 0) (pe_lc (own := [("_", 5)]) rfl nd (pi_list (pv 1)) (blkOk_by (own := [("_", 5)]) (N := ["self", "order", "stage", "winner", "loser", "_"]) (sc := defScope s_Cup___init__) (by decide +kernel)) (fun _ _ _ _ _ => (pg_name (i := 5) nd rfl (Or.inl rfl))) (fun _ _ _ _ _ => pts_nil) (fun _ _ _ _ _ => pe_non)) rfl)
      (pss_cons (ps_fld (pv 0) (pe_lc (own := [("_", 5)]) rfl nd (pi_list (pv 1)) (blkOk_by (own := [("_", 5)]) (N := ["self", "order", "stage", "winner", "loser", "_"]) (sc := defScope s_Cup___init__) (by decide +kernel)) (fun _ _ _ _ _ => (pg_name (i := 5) nd rfl (Or.inl rfl))) (fun _ _ _ _ _ => pts_nil) (fun _ _ _ _ _ => (pe_lst pa_nil))) rfl)
      (pss_one (ps_for PassesOwn.never rfl (pi_list (pe_fld (pv 0) rfl)) (pg_name (i := 2) nd rfl (Or.inl rfl))
      (pss_one (ps_for PassesOwn.never rfl (pi_list (pv 2)) (pg_tup rfl (pgs_cons (pg_name (i := 3) nd rfl (Or.inl rfl)) (pgs_cons (pg_name (i := 4) nd rfl (Or.inl rfl)) pgs_nil)))
      (pss_cons (ps_asg (pv 3) (pg_sub (pe_fld (pv 0) rfl) (pv 4) set_list))
      (pss_one (ps_expr (pe_bm PySem.F.plainAttrs_list PySem.F.slot_list_append PySem.F.type_list_append mt_append (pe_ix ix_list (pe_fld (pv 0) rfl) (pv 3) (fun _ _ => rfl)) (pa_cons (pv 4) pa_nil)))))))))))))), ?_⟩
  wtm_at "go"
  refine ⟨l, row, n, rfl, hl, hn, hlen, hp, fun H1 s1 => ?_⟩
  wtm_at "go"
  have hl1 := s1 _ _ hl
  refine fun o n_o => ?_
  generalize e_H2 : upd _ o _ = H2
  have s_H2 := same_upd n_o e_H2
  have h_o := upd_at e_H2
  clear e_H2
  have hc2 := s_H2 _ _ (s1 _ _ hc)
  wtm_at "go"
  refine ⟨c, _, dx, [], rfl, hc2, T.cl_Cup, T.n_Cup__order, by decide, ?_⟩
  refine hold ?_
  generalize e_H3 : upd _ c _ = H3
  have b_H3 := but_upd e_H3
  have h_H3 := upd_at e_H3
  clear e_H3
  have ho3 := b_H3 _ _ (ne_insL hc2 h_o) h_o
  have hl3 := b_H3 _ _ (ne_insL hc2 (s_H2 _ _ hl1)) (s_H2 _ _ hl1)
  wtm_at "go"
  refine ⟨c, _, dx, _, _, rfl, h_H3, T.cl_Cup, T.n_Cup__order, rfl, ?_⟩
  wtm_at "go"
  have hnd : row.Nodup := hp.nodup_iff.mpr (List.pairwise_map.mpr ((List.nodup_range (n := 2 ^ n)).imp fun {a b} h z => h (Int.ofNat.inj z)))
  refine ⟨o, row, n, rfl, ho3, hn, hlen, hnd, fun H4 r s4 nr hr fr4 => ?_⟩
  have hc4 := s4 _ _ h_H3
  wtm_at "go"
  refine ⟨c, _, dx, _, rfl, hc4, T.cl_Cup, T.n_Cup__rounds, Nat.le_of_ble_eq_true rfl, ?_⟩
  refine hold ?_
  generalize e_H5 : upd _ c _ = H5
  have b_H5 := but_upd e_H5
  have h_H5 := upd_at e_H5
  clear e_H5
  have hr5 := hr.ins hc4 b_H5
  obtain ⟨v0, hv0, _⟩ := id hr
  have hv5 := b_H5 _ _ (ne_insL hc4 hv0) hv0
  have hl4 := s4 _ _ hl3
  have hl5 := b_H5 _ _ (ne_insL hc4 hl4) hl4
  wtm_at "go"
  have hN : (row.map V.int).length = 2 ^ n := by rw [List.length_map, hlen]
  have h64 : (2 : Nat) ^ n ≤ 64 := Nat.pow_le_pow_right (n := 2) (by decide) hn
  refine lcL (fun i acc G => acc = List.replicate i V.non) (SqL.of hl5) (fun _ _ => rfl) (fun i x G D hi hx ⟨acc, hD, ha, s, nD, e⟩ => ?_) (fun acc H6 q s5 nq hq ha e => ?_)
  · wtm_at "go"
    exact lcT hD ha (by have := line_big; omega) s nD (Same.refl _) fun _ _ _ => by
      show acc ++ [V.non] = List.replicate (i + 1) V.non
      rw [show acc = List.replicate i V.non from e, List.replicate_succ']
  have hq0 : H6 q = some (.lst (conqL [] (2 ^ n))) := by
    rw [hq, conqL_nil, show acc = List.replicate _ V.non from e, hN]
  have hc6 := s5 _ _ h_H5
  wtm_at "go"
  refine ⟨c, _, dx, _, rfl, hc6, T.cl_Cup, T.n_Cup__conquerors, Nat.le_of_ble_eq_true rfl, ?_⟩
  refine hold ?_
  generalize e_H7 : upd _ c _ = H7
  have b_H7 := but_upd e_H7
  have h_H7 := upd_at e_H7
  clear e_H7
  have hl6 := s5 _ _ hl5
  have hl7 := b_H7 _ _ (ne_insL hc6 hl6) hl6
  have hq7 := b_H7 _ _ (ne_insL hc6 hq0) hq0
  have b57 : But c H5 H7 := But.trans (Same.but s5) b_H7
  wtm_at "go"
  refine lcL (fun i acc G => ∃ as : List Addr, acc = as.map V.ref ∧ as.length = i ∧ as.Nodup ∧ ∀ x ∈ as, G x = some (.lst []) ∧ H7 x = none) (SqL.of hl7) (fun _ _ => ⟨[], rfl, rfl, List.nodup_nil, fun x h => by cases h⟩) (fun i x G D hi hx ⟨acc, hD, ha, s, nD, as, e1, e2, e3, e4⟩ => ?_) (fun acc H8 b s7 nb hb ha ⟨as, e1, e2, e3, e4⟩ => ?_)
  · wtm_at "go"
    refine ⟨by wtm_at "sz", fun y n_y => ?_⟩
    generalize e_G3 : upd _ y _ = G3
    have s_G3 := same_upd n_y e_G3
    have h_y := upd_at e_G3
    clear e_G3
    refine lcT hD ha (by have := line_big; omega) s nD s_G3 fun H5' b5 hD5 => ⟨as ++ [y], ?_, ?_, ?_, ?_⟩
    · rw [e1, List.map_append]; rfl
    · rw [List.length_append, e2]; rfl
    · refine List.nodup_append.mpr ⟨e3, by simp, fun u hu v hv => ?_⟩
      rw [List.mem_singleton.mp hv]
      exact ne_of_none (e4 u hu).1 n_y
    · intro u hu
      have nyD : y ≠ D := Ne.symm (ne_of_none hD n_y)
      rcases List.mem_append.mp hu with z | z
      · refine ⟨b5 _ _ (fun w => ?_) (s_G3 _ _ (e4 u z).1), (e4 u z).2⟩
        exact notin_of (e1 ▸ hD) (fun x hx => (e4 x hx).1) (w ▸ z)
      · rw [List.mem_singleton.mp z]
        exact ⟨b5 _ _ nyD h_y, s.free n_y⟩
  have gb8 : H8 b = some (.lst (as.map V.ref)) := by rw [hb, e1]
  have nbas : b ∉ as := notin_of gb8 fun x hx => (e4 x hx).1
  have hc8 := s7 _ _ h_H7
  have hq8 := s7 _ _ hq7
  wtm_at "go"
  refine ⟨c, _, dx, _, rfl, hc8, T.cl_Cup, T.n_Cup__beaten, Nat.le_of_ble_eq_true rfl, ?_⟩
  refine hold ?_
  generalize e_H9 : upd _ c _ = H9
  have b_H9 := but_upd e_H9
  have h_H9 := upd_at e_H9
  clear e_H9
  obtain ⟨F, eF⟩ : ∃ F : List (Str × V), F = putF ("_beaten" : Str) (V.ref b) (putF ("_conquerors" : Str) (V.ref q) (putF ("_rounds" : Str) (V.ref r) (putF ("_order" : Str) (V.ref o) []))) := ⟨_, rfl⟩
  rw [← eF] at h_H9
  have L1 : F.lookup ("_order" : Str) = some (.ref o) := by rw [eF]; rfl
  have L2' : F.lookup ("_rounds" : Str) = some (.ref r) := by rw [eF]; rfl
  have L3 : F.lookup ("_conquerors" : Str) = some (.ref q) := by rw [eF]; rfl
  have L4 : F.lookup ("_beaten" : Str) = some (.ref b) := by rw [eF]; rfl
  have L5 : F.length < 1000 := by rw [eF]; exact Nat.le_of_ble_eq_true rfl
  have S : CkS c q b H5 as (2 ^ n) := ⟨e2.trans hN, e3, ne_of_none hq7 nb, fun z => (by have := (e4 q z).2; rw [hq7] at this; cases this), nbas, ne_insL hc6 hq0, Ne.symm (ne_of_none h_H7 nb), fun z => (by have := (e4 c z).2; rw [h_H7] at this; cases this), nq, b57.free h_H7 nb, fun x hx => b57.free h_H7 (e4 x hx).2⟩
  have I0 := CkI.mk (C := a.C_Cup) (B := H5) (ms := []) (N := 2 ^ n) (But.trans b57 (But.trans (Same.but s7) b_H9)) h_H9 (b_H9 _ _ (ne_insL hc8 hq8) hq8) (b_H9 _ _ (ne_insL hc8 gb8) gb8) (fun i x hx => b_H9 _ _ (ne_insL hc8 (e4 x (List.mem_of_getElem? hx)).1) (e4 x (List.mem_of_getElem? hx)).1)
  obtain ⟨rv, hrv, prv⟩ := hr5
  have hrv9 := I0.bt _ _ (ne_insL h_H5 hrv) hrv
  wtm_at "go"
  refine ⟨c, _, dx, _, _, rfl, h_H9, T.cl_Cup, T.n_Cup__rounds, L2', ?_⟩
  refine foL (xs := rv) (SqL.of hrv9) (fun i σ G => ∃ u v w z, σ = [some (.ref c), some (.ref l), u, v, w, z] ∧ CkI a.C_Cup c dx F H5 G q b as ((rds n row).take i).flatten (2 ^ n)) ⟨_, _, _, _, rfl, I0⟩ (fun i σ G _ ⟨_, _, _, _, _, I⟩ => SqL.of (I.bt _ _ (ne_insL h_H5 hrv) hrv)) (fun i x σ G hi hx ⟨u, v, w, z, e, I⟩ => ?_) (fun σ G ⟨u, v, w, z, e, I⟩ => ?_)
  · subst e
    obtain ⟨ps, hps, y, rfl, xs, hxs, pxs⟩ := isLs_get prv hx
    have hmem := List.mem_of_getElem? hps
    wtm_at "go"
    refine foL (xs := xs) (SqL.of (I.bt _ _ (ne_insL h_H5 hxs) hxs)) (fun j σ G => ∃ v w z, σ = [some (.ref c), some (.ref l), some (.ref y), v, w, z] ∧ CkI a.C_Cup c dx F H5 G q b as (((rds n row).take i).flatten ++ ps.take j) (2 ^ n)) ⟨_, _, _, rfl, by rw [List.take_zero, List.append_nil]; exact I⟩ (fun j σ G _ ⟨_, _, _, _, I⟩ => SqL.of (I.bt _ _ (ne_insL h_H5 hxs) hxs)) (fun j x σ G hj hx2 ⟨v, w, z, e, I⟩ => ?_) (fun σ G ⟨v, w, z, e, I⟩ => ?_)
    · subst e
      obtain ⟨p, hp1, t, rfl, ht⟩ := pxs.get hx2
      have htG := I.bt _ _ (ne_of ht h_H5 (by intro z; cases z)) ht
      obtain ⟨m1, m2⟩ := rds_mem hmem p (List.mem_of_getElem? hp1)
      obtain ⟨k1, hk1, e1'⟩ := List.mem_map.mp (hp.mem_iff.mp m1)
      obtain ⟨k2, hk2, e2'⟩ := List.mem_map.mp (hp.mem_iff.mp m2)
      have hk1' := List.mem_range.mp hk1
      have hk2' := List.mem_range.mp hk2
      wtm_at "go"
      refine ⟨c, _, dx, _, _, rfl, I.at_, T.cl_Cup, T.n_Cup__conquerors, L3, ?_⟩
      wtm_at "go"
      refine r_setL I.cq (ixN_nat' (j := k2) e2'.symm (by rw [conqL_len]; exact hk2')) ?_
      refine hold ?_
      generalize e_G1 : upd _ q _ = G1
      have b_G1 := but_upd e_G1
      have h_G1 := upd_at e_G1
      clear e_G1
      obtain ⟨x, hx3⟩ : ∃ x, as[k1]? = some x := ⟨_, List.getElem?_eq_getElem (by rw [S.len]; exact hk1')⟩
      have hxm := List.mem_of_getElem? hx3
      have hc1 := b_G1 _ _ (Ne.symm S.qc) I.at_
      have hb1 := b_G1 _ _ (Ne.symm S.qb) I.gb
      have hxG := b_G1 _ _ (fun z => S.qa (z ▸ hxm)) (I.ga k1 x hx3)
      wtm_at "go"
      refine ⟨c, _, dx, _, _, rfl, hc1, T.cl_Cup, T.n_Cup__beaten, L4, ?_⟩
      wtm_at "go"
      refine r_ixL (SqL.of hb1) (v := .ref x) ?_ ?_
      · rw [← e1']
        exact atI_nat (by rw [List.getElem?_map, hx3]; rfl)
      wtm_at "go"
      have hlps := rds_le hmem
      have hfl := flat_le (L := row.length) (pss := (rds n row).take i) fun q hq => rds_le (List.mem_of_mem_take hq)
      have htk : ((rds n row).take i).length ≤ n := by rw [List.length_take, rds_len]; exact Nat.min_le_right _ _
      have hmul : ((rds n row).take i).length * row.length ≤ 6 * 64 := Nat.mul_le_mul (by omega) (by omega)
      have hbl := beat_le (((rds n row).take i).flatten ++ ps.take j) (k1 : Int)
      rw [List.length_append, List.length_take] at hbl
      try refine r_append hxG (by rw [List.length_map]; have := line_big; omega) ?_
      refine hold ?_
      generalize e_G2 : upd _ x _ = G2
      have b_G2 := but_upd e_G2
      have h_G2 := upd_at e_G2
      clear e_G2
      refine ⟨_, _, _, rfl, ?_⟩
      rw [take_snoc hp1, ← List.append_assoc]
      exact CkI.step S I e2'.symm hk2' e1'.symm hx3 b_G1 h_G1 b_G2 h_G2
    · refine ⟨_, _, _, _, e, ?_⟩
      rw [show xs.length = ps.length from pxs.length, List.take_length] at I
      rw [take_snoc hps, List.flatten_append]
      show CkI _ _ _ _ _ _ _ _ _ (_ ++ (ps ++ [])) _
      rw [List.append_nil]
      exact I
  · have hrl : rv.length = (rds n row).length := Paired.length prv
    rw [hrl, List.take_length] at I
    have b03 : But c H H3 := But.trans (Same.but (s1.trans s_H2)) b_H3
    have b05 : But c H H5 := But.trans (But.trans b03 (Same.but s4)) b_H5
    have ho4 := s4 _ _ ho3
    have ho5 := b_H5 _ _ (ne_insL hc4 ho4) ho4
    refine k G o r q b (But.trans b05 I.bt) ⟨Same.free s1 n_o, b03.free h_H3 nr, b05.free h_H5 S.bq, b05.free h_H5 S.bb, fun as' h' x hx => ?_, fun ws h' x hx => ?_⟩ ⟨⟨dx, F, I.at_, L1, L2', L3, L4, L5, fun f n1 n2 n3 n4 => ?_⟩, I.bt _ _ (ne_insL h_H5 ho5) ho5, RL.ins h_H5 I.bt ⟨rv, hrv, prv⟩, I.cq, ⟨as, I.gb, S.len, S.nd, S.ba, I.ga⟩⟩
    · rw [I.gb] at h'
      have e' := refs_inj (HO.lst.inj (Option.some.inj h'))
      exact b05.free h_H5 (S.bas x (e' ▸ hx))
    · rw [I.bt _ _ (ne_insL h_H5 hv5) hv5] at h'
      rw [← HO.lst.inj (Option.some.inj h')] at hx
      exact b03.free h_H3 (fr4 _ hv0 x hx)
    rw [eF, lookup_putF, if_neg n4, lookup_putF, if_neg n3, lookup_putF, if_neg n2, lookup_putF, if_neg n1]
    rfl
end
end Ct
end
section
set_option Elab.async false
set_option linter.all false
set_option maxRecDepth 100000
set_option maxHeartbeats 8000000
namespace Ct
open PySem PySem.Spec L2 StX

local macro_rules | `(tactic| wtm_at "hp") => `(tactic| first
  | assumption
  | exact (‹Same _ _›) _ _ (by wtm_at "hp")
  | exact (‹But _ _ _›) _ _ (by wtm_at "ne") (by wtm_at "hp"))
local macro_rules | `(tactic| wtm_at "hpL") => `(tactic| first | exact SqL.of (by wtm_at "hp") | assumption)
local macro_rules | `(tactic| wtm_at "hpT") => `(tactic| first | exact SqT.of (by wtm_at "hp") | assumption)
local macro_rules | `(tactic| wtm_at "ne") => `(tactic| first
  | assumption
  | exact Ne.symm (by assumption)
  | exact ne_lst_tup (by wtm_at "hp") (by wtm_at "hp")
  | exact ne_tup_lst (by wtm_at "hp") (by wtm_at "hp")
  | exact ne_of_none (by wtm_at "hp") (by assumption)
  | exact Ne.symm (ne_of_none (by wtm_at "hp") (by assumption)))
local macro_rules | `(tactic| wtm_at "c") => `(tactic| first
  | omega
  | (unfold CMul; omega)
  | (unfold CDiv; omega)
  | (unfold CPow; omega))
local macro_rules | `(tactic| wtm_at "sz") => `(tactic| first
  | exact sz64 rfl
  | exact (by decide)
  | (show _ ≤ sizeLine; rw [sizeLine_eq]; omega)
  | (show _ < sizeLine; rw [sizeLine_eq]; omega))
local macro_rules | `(tactic| wtm_at "go1") => `(tactic| first
  | with_reducible refine r_seq ?_
  | with_reducible refine r_op ?_
  | ((with_reducible refine' r_var ?rv ?_); (case rv => exact rfl))
  | with_reducible refine r_c ?_
  | with_reducible refine r_asg ?_
  | with_reducible refine r_name ?_
  | with_reducible refine r_i0 ?_
  | ((with_reducible refine' r_i ?rc ?_); (case rc => wtm_at "c"))
  | ((with_reducible refine' r_ixL ?r1 ?r2 ?_); (case r1 => wtm_at "hpL"); (case r2 => first | exact rfl | assumption))
  | ((with_reducible refine' r_ixT ?r1 ?r2 ?_); (case r1 => wtm_at "hpT"); (case r2 => first | exact rfl | assumption))
  | with_reducible refine r_consA ?_
  | with_reducible refine r_nilA ?_
  | with_reducible refine r_call ?_
  | with_reducible refine r_cb ?_
  | with_reducible refine r_test ?_
  | with_reducible refine r_exb ?_
  | ((with_reducible refine r_eq ?rq ?_); (case rq => exact rfl))
  | ((with_reducible refine r_ne ?rq ?_); (case rq => exact rfl))
  | with_reducible refine r_ret ?_
  | with_reducible refine r_if ?_
  | with_reducible refine r_next ?_
  | with_reducible refine r_drop ?_
  | with_reducible refine r_gsub ?_
  | ((with_reducible refine' r_setL ?r1 ?r2 ?_); (case r1 => wtm_at "hp"); (case r2 => exact rfl))
  | with_reducible refine r_b ?_
  | with_reducible refine r_and ?_
  | with_reducible refine r_or ?_
  | with_reducible refine r_not ?_
  | with_reducible refine r_andV ?_
  | with_reducible refine r_orV ?_
  | with_reducible refine r_notV ?_
  | with_reducible refine r_ifE ?_
  | with_reducible refine r_chain ?_
  | with_reducible refine r_u ?_
  | with_reducible refine r_un ?_
  | with_reducible refine r_fld ?_
  | with_reducible refine r_fldS ?_
  | with_reducible refine r_lst ?_
  | with_reducible refine r_tup ?_
  | with_reducible refine r_par ?_
  | with_reducible refine r_par3 ?_
  | with_reducible refine r_retN ?_
  | with_reducible refine r_gcons ?_
  | with_reducible refine r_gnil ?_
  | ((with_reducible refine' r_gtup ?r1 ?r2 ?_); (case r1 => wtm_at "hpT"); (case r2 => exact rfl))
  | with_reducible refine r_bm ?_
  | with_reducible refine r_bm0 ?_
  | with_reducible refine r_lcL ?_
  | with_reducible refine r_foL ?_
  | with_reducible refine r_foR ?_
  | with_reducible refine r_yes ?_
  | ((with_reducible refine' r_wipe ?rw ?_); (case rw => exact rfl))
  | ((with_reducible refine' r_tyL ?r1 ?_); (case r1 => wtm_at "hpL"))
  | ((with_reducible refine' r_append ?r1 ?r2 ?_); (case r1 => wtm_at "hp"); (case r2 => wtm_at "sz"))
  | with_reducible refine r_dput ?_
  | with_reducible refine r_dget ?_
  | with_reducible refine r_dget2 ?_
  | with_reducible refine r_dnew ?_
  | with_reducible refine iteT ?_
  | with_reducible refine iteF ?_
  | with_reducible refine iteNT ?_
  | with_reducible refine iteNF ?_)
local macro_rules | `(tactic| wtm_at "go") => `(tactic| repeat wtm_at "go1")


local macro_rules | `(tactic| wtm_at "go1") => `(tactic| first
  | with_reducible refine e_int1 ?_
  | with_reducible refine e_int2 ?_
  | with_reducible refine e_two ?_
  | ((with_reducible refine' e_lenL ?r1 ?_); (case r1 => wtm_at "hpL"))
  | ((with_reducible refine' e_lenT ?r1 ?_); (case r1 => wtm_at "hpT")))

local macro_rules | `(tactic| wtm_at "go1") => `(tactic| first
  | with_reducible refine r_prop ?_)
def sp_Cup_size (a : Ad) : Sp := fun vs H Q _ => ∃ (c o r q b : Addr) (row : List Int) (n : Nat), vs = [.ref c] ∧ CupR a.C_Cup H c o r q b row n ∧ Q (.int (n : Nat)) H
def sp_Cup_wins (a : Ad) : Sp := fun vs H Q _ => ∃ (c o r q b : Addr) (row : List Int) (n : Nat) (x : Int), vs = [.ref c, .int x] ∧ CupR a.C_Cup H c o r q b row n ∧ n ≤ 6 ∧ 0 ≤ x ∧ x < (2 ^ n : Nat) ∧ Q (.int (beat (rds n row).flatten x).length) H
def sp_Cup_round_of (a : Ad) : Sp := fun vs H Q _ => ∃ (c o r q b : Addr) (row : List Int) (n : Nat) (x y : Int), vs = [.ref c, .int x, .int y] ∧ CupR a.C_Cup H c o r q b row n ∧ n ≤ 6 ∧ 0 ≤ x ∧ x < (2 ^ n : Nat) ∧ 0 ≤ y ∧ y < (2 ^ n : Nat) ∧ Q (metV (rds n row).flatten x y) H
section
variable {P : Program} {w : World} {K : PySem.W.Frag} {mg : Str → Option Value} {base : Heap} {a : Ad}
theorem sc_Cup_size : FnScope ["self"] ["self"] (defScope s_Cup_size) := ⟨rfl, rfl, rfl, by decide +kernel, rfl, by decide +kernel, by decide +kernel⟩
theorem ok_Cup_size (T : Txt K mg a) : FnOk P w K mg base CX0 1 a.f_Cup_size a.d_Cup_size ["self"] (sp_Cup_size a) := by
  refine T.F_Cup_size.ok sc_Cup_size (fun vs H Q E h => (by repeat (first | (obtain ⟨rfl, _⟩ := h; rfl) | obtain ⟨_, h⟩ := h))) (fun cdv A outer s H vs Q E hr h => ?_)
  have nd := sc_Cup_size.nd
  have hu := hr.units
  have hu1 := hu_of hr
  obtain ⟨c, o, r, q, b, row, n, rfl, hC, k⟩ := h
  refine ⟨_, (pss_one (ps_ret (pe_callB call_len_seq (by exact rfl) T.z_len (by decide +kernel) (pa_cons (pe_fld (pv 0) rfl) pa_nil)))), ?_⟩
  obtain ⟨dx, fs, e1, e2, e3, e4, e5, e6, e7⟩ := id hC.at_
  obtain ⟨vs, hv, pv⟩ := hC.rnd
  have hl : vs.length = n := (Paired.length pv).trans (rds_len n row)
  wtm_at "go"
  refine ⟨c, _, dx, fs, _, rfl, e1, T.cl_Cup, T.n_Cup__rounds, e3, ?_⟩
  wtm_at "go"
  rw [hl]
  exact k
end
end Ct
end
section
set_option Elab.async false
set_option linter.all false
set_option maxRecDepth 100000
set_option maxHeartbeats 8000000
namespace Ct
open PySem PySem.Spec L2 StX

local macro_rules | `(tactic| wtm_at "hp") => `(tactic| first
  | assumption
  | exact (‹Same _ _›) _ _ (by wtm_at "hp")
  | exact (‹But _ _ _›) _ _ (by wtm_at "ne") (by wtm_at "hp"))
local macro_rules | `(tactic| wtm_at "hpL") => `(tactic| first | exact SqL.of (by wtm_at "hp") | assumption)
local macro_rules | `(tactic| wtm_at "hpT") => `(tactic| first | exact SqT.of (by wtm_at "hp") | assumption)
local macro_rules | `(tactic| wtm_at "ne") => `(tactic| first
  | assumption
  | exact Ne.symm (by assumption)
  | exact ne_lst_tup (by wtm_at "hp") (by wtm_at "hp")
  | exact ne_tup_lst (by wtm_at "hp") (by wtm_at "hp")
  | exact ne_of_none (by wtm_at "hp") (by assumption)
  | exact Ne.symm (ne_of_none (by wtm_at "hp") (by assumption)))
local macro_rules | `(tactic| wtm_at "c") => `(tactic| first
  | omega
  | (unfold CMul; omega)
  | (unfold CDiv; omega)
  | (unfold CPow; omega))
local macro_rules | `(tactic| wtm_at "sz") => `(tactic| first
  | exact sz64 rfl
  | exact (by decide)
  | (show _ ≤ sizeLine; rw [sizeLine_eq]; omega)
  | (show _ < sizeLine; rw [sizeLine_eq]; omega))
local macro_rules | `(tactic| wtm_at "go1") => `(tactic| first
  | with_reducible refine r_seq ?_
  | with_reducible refine r_op ?_
  | ((with_reducible refine' r_var ?rv ?_); (case rv => exact rfl))
  | with_reducible refine r_c ?_
  | with_reducible refine r_asg ?_
  | with_reducible refine r_name ?_
  | with_reducible refine r_i0 ?_
  | ((with_reducible refine' r_i ?rc ?_); (case rc => wtm_at "c"))
  | ((with_reducible refine' r_ixL ?r1 ?r2 ?_); (case r1 => wtm_at "hpL"); (case r2 => first | exact rfl | assumption))
  | ((with_reducible refine' r_ixT ?r1 ?r2 ?_); (case r1 => wtm_at "hpT"); (case r2 => first | exact rfl | assumption))
  | with_reducible refine r_consA ?_
  | with_reducible refine r_nilA ?_
  | with_reducible refine r_call ?_
  | with_reducible refine r_cb ?_
  | with_reducible refine r_test ?_
  | with_reducible refine r_exb ?_
  | ((with_reducible refine r_eq ?rq ?_); (case rq => exact rfl))
  | ((with_reducible refine r_ne ?rq ?_); (case rq => exact rfl))
  | with_reducible refine r_ret ?_
  | with_reducible refine r_if ?_
  | with_reducible refine r_next ?_
  | with_reducible refine r_drop ?_
  | with_reducible refine r_gsub ?_
  | ((with_reducible refine' r_setL ?r1 ?r2 ?_); (case r1 => wtm_at "hp"); (case r2 => exact rfl))
  | with_reducible refine r_b ?_
  | with_reducible refine r_and ?_
  | with_reducible refine r_or ?_
  | with_reducible refine r_not ?_
  | with_reducible refine r_andV ?_
  | with_reducible refine r_orV ?_
  | with_reducible refine r_notV ?_
  | with_reducible refine r_ifE ?_
  | with_reducible refine r_chain ?_
  | with_reducible refine r_u ?_
  | with_reducible refine r_un ?_
  | with_reducible refine r_fld ?_
  | with_reducible refine r_fldS ?_
  | with_reducible refine r_lst ?_
  | with_reducible refine r_tup ?_
  | with_reducible refine r_par ?_
  | with_reducible refine r_par3 ?_
  | with_reducible refine r_retN ?_
  | with_reducible refine r_gcons ?_
  | with_reducible refine r_gnil ?_
  | ((with_reducible refine' r_gtup ?r1 ?r2 ?_); (case r1 => wtm_at "hpT"); (case r2 => exact rfl))
  | with_reducible refine r_bm ?_
  | with_reducible refine r_bm0 ?_
  | with_reducible refine r_lcL ?_
  | with_reducible refine r_foL ?_
  | with_reducible refine r_foR ?_
  | with_reducible refine r_yes ?_
  | ((with_reducible refine' r_wipe ?rw ?_); (case rw => exact rfl))
  | ((with_reducible refine' r_tyL ?r1 ?_); (case r1 => wtm_at "hpL"))
  | ((with_reducible refine' r_append ?r1 ?r2 ?_); (case r1 => wtm_at "hp"); (case r2 => wtm_at "sz"))
  | with_reducible refine r_dput ?_
  | with_reducible refine r_dget ?_
  | with_reducible refine r_dget2 ?_
  | with_reducible refine r_dnew ?_
  | with_reducible refine iteT ?_
  | with_reducible refine iteF ?_
  | with_reducible refine iteNT ?_
  | with_reducible refine iteNF ?_)
local macro_rules | `(tactic| wtm_at "go") => `(tactic| repeat wtm_at "go1")


local macro_rules | `(tactic| wtm_at "go1") => `(tactic| first
  | with_reducible refine e_int1 ?_
  | with_reducible refine e_int2 ?_
  | with_reducible refine e_two ?_
  | ((with_reducible refine' e_lenL ?r1 ?_); (case r1 => wtm_at "hpL"))
  | ((with_reducible refine' e_lenT ?r1 ?_); (case r1 => wtm_at "hpT")))


local macro_rules | `(tactic| wtm_at "go1") => `(tactic| first
  | with_reducible refine r_make ?_
  | with_reducible refine r_makeK ?_
  | with_reducible refine r_prop ?_
  | with_reducible refine r_revL ?_
  | with_reducible refine r_star ?_
  | with_reducible refine r_meth ?_
  | with_reducible refine r_methK ?_
  | ((with_reducible refine' r_clear ?r1 ?_); (case r1 => wtm_at "hp")))

local macro_rules | `(tactic| wtm_at "go1") => `(tactic| first
  | with_reducible refine r_prop ?_
  | with_reducible refine r_listRg ?_
  | with_reducible refine r_rg1 ?_
  | with_reducible refine r_exi ?_
  | with_reducible refine r_lc2L ?_
  | with_reducible refine r_lcR ?_
  | ((with_reducible refine' r_makeV ?rv ?_); (case rv => exact rfl))
  | with_reducible refine r_cmeth ?_
  | with_reducible refine r_cmethK ?_
  | with_reducible refine r_maxLen ?_)
def sp_is_list_of_rounds : Sp := fun vs H Q _ => ∃ (l : Addr) (rs : List (List P2)) (row : List Int) (n : Nat), vs = [.ref l] ∧ RL H l rs ∧ PmL rs (rdsU n row) ∧ n ≤ 6 ∧ row.Perm (rowOf n) ∧ ∀ H', Same H H' → Q (.bl true) H'
def sp_order_of_rounds : Sp := fun vs H Q _ => ∃ (l : Addr) (rs : List (List P2)) (row : List Int) (n : Nat), vs = [.ref l] ∧ RL H l rs ∧ PmL rs (rdsU n row) ∧ n ≤ 6 ∧ row.Perm (rowOf n) ∧ ∀ H' r, Same H H' → H r = none → H' r = some (.lst (row.map V.int)) → Q (.ref r) H'
section
variable {P : Program} {w : World} {K : PySem.W.Frag} {mg : Str → Option Value} {base : Heap} {a : Ad}
theorem sc_is_list_of_rounds : FnScope ["thing", "left", "stage", "winner", "_", "pair", "player"] ["thing"] (defScope s_is_list_of_rounds) := ⟨rfl, rfl, rfl, by decide +kernel, rfl, by decide +kernel, by decide +kernel⟩
theorem ok_is_list_of_rounds (T : Txt K mg a) : FnOk P w K mg base CX0 3 a.f_is_list_of_rounds a.d_is_list_of_rounds ["thing"] (sp_is_list_of_rounds) := by
  refine T.F_is_list_of_rounds.ok sc_is_list_of_rounds (fun vs H Q E h => (by repeat (first | (obtain ⟨rfl, _⟩ := h; rfl) | obtain ⟨_, h⟩ := h))) (fun cdv A outer s H vs Q E hr h => ?_)
  have nd := sc_is_list_of_rounds.nd
  have hu := hr.units
  have hu1 := hu_of hr
  obtain ⟨l, rs, row, n, rfl, hl, pm, hn, hp, k⟩ := h
  refine ⟨_, (pss_cons (ps_if (PW.pt (pw_or (pt_not (pt_val (pe_callB call_isi (by exact rfl) T.z_isinstance (by decide +kernel) (pa_cons (pv 0) (pa_cons (pe_bltn (v := .ty "list") (by exact rfl) T.z_list (by decide +kernel) rfl) pa_nil))))) (pw_or1 (pt_cmpR op_gt (pe_callB call_len_seq (by exact rfl) T.z_len (by decide +kernel) (pa_cons (pv 0) pa_nil)) (pe_glob (v := .int 6) (by exact rfl) T.c_LARGEST_SIZE.choose_spec ⟨_, rfl⟩) (nomark _))))) (pss_one (ps_ret pe_bl)) pss_nil)
      (pss_cons (ps_set (i := 1) nd rfl (Or.inl rfl) (L2.pe_listRg rfl (by exact rfl) T.z_list (L2.prg_1 (by exact rfl) T.z_range (pe_op op_shl pe_int (pe_callB call_len_seq (by exact rfl) T.z_len (by decide +kernel) (pa_cons (pv 0) pa_nil))))))
      (pss_cons (ps_for PassesOwn.never rfl (pi_list (pv 0)) (pg_name (i := 2) nd rfl (Or.inl rfl))
      (pss_cons (ps_if (PW.pt (pw_or (pt_not (pt_val (pe_callB call_isi (by exact rfl) T.z_isinstance (by decide +kernel) (pa_cons (pv 2) (pa_cons (pe_bltn (v := .ty "list") (by exact rfl) T.z_list (by decide +kernel) rfl) pa_nil))))) (pw_or1 (pt_not (pt_val (pe_callB (cr_all rfl) (by exact rfl) T.z_all (by decide +kernel) (pa_cons (pe_lc (own := [("pair", 5)]) rfl nd (pi_list (pv 2)) (blkOk_by (own := [("pair", 5)]) (N := ["thing", "left", "stage", "winner", "_", "pair", "player"]) (sc := defScope s_is_list_of_rounds) (by decide +kernel)) (fun _ _ _ _ _ => (pg_name (i := 5) nd rfl (Or.inl rfl))) (fun _ _ _ _ _ => pts_nil) (fun _ _ _ _ _ => (pe_call (ok_is_pair T) (hr.mono (by decide)) (by exact rfl) T.m_is_pair T.F_is_pair.kp T.b_is_pair .nil pass0 (pa_cons (pv 5) pa_nil)))) pa_nil))))))) (pss_one (ps_ret pe_bl)) pss_nil)
      (pss_cons (ps_if (pt_cmpR (op_neD hu) (pe_callB cr_sortedI (by exact rfl) T.z_sorted (by decide +kernel) (pa_cons (pe_lc2 (own := [("pair", 5), ("player", 6)]) (vs1 := [6]) rfl nd (pi_list (pv 2)) (blkOk_by (own := [("pair", 5), ("player", 6)]) (N := ["thing", "left", "stage", "winner", "_", "pair", "player"]) (sc := defScope s_is_list_of_rounds) (by decide +kernel)) (by decide) (fun _ _ _ _ _ => (pg_name (i := 5) nd rfl (Or.inl rfl))) (fun _ _ _ _ _ => pts_nil) (fun _ _ _ _ _ => (pi_tupK (K := K) rfl (pv 5))) (fun _ _ _ _ _ => (pg_name (i := 6) nd rfl (Or.inl rfl))) (fun _ _ _ _ _ => pts_nil) (fun _ _ _ _ _ => (pv 6))) pa_nil)) (pv 1) (nomark _)) (pss_one (ps_ret pe_bl)) pss_nil)
      (pss_one (ps_set (i := 1) nd rfl (Or.inl rfl) (pe_callB cr_sortedI (by exact rfl) T.z_sorted (by decide +kernel) (pa_cons (pe_lc (own := [("winner", 3), ("_", 4)]) rfl nd (pi_list (pv 2)) (blkOk_by (own := [("winner", 3), ("_", 4)]) (N := ["thing", "left", "stage", "winner", "_", "pair", "player"]) (sc := defScope s_is_list_of_rounds) (by decide +kernel)) (fun _ _ _ _ _ => (pg_tupK (K := K) (n := 2) rfl rfl (pgs_cons (pg_name (i := 3) nd rfl (Or.inl rfl)) (pgs_cons (pg_name (i := 4) nd rfl (Or.inl rfl)) pgs_nil)))) (fun _ _ _ _ _ => pts_nil) (fun _ _ _ _ _ => (pv 3))) pa_nil)))))))
      (pss_one (ps_ret pe_bl))))), ?_⟩
  have hlen : row.length = 2 ^ n := by rw [hp.length_eq]; unfold rowOf; rw [List.length_map, List.length_range]
  have hnd : row.Nodup := hp.nodup_iff.mpr (rowOf_nodup n)
  have h64 : (2 : Nat) ^ n ≤ 64 := Nat.pow_le_pow_right (n := 2) (by decide) hn
  obtain ⟨xs, hx, px⟩ := hl
  have hxl : xs.length = n := ((Paired.length px).trans (Paired.length pm)).trans (rdsU_len n row)
  wtm_at "go"
  refine r_isi (b := true) (.base (.lst hx)) (by decide +kernel) ?_
  wtm_at "go"
  refine iteNo (by omega) ?_
  wtm_at "go"
  rw [hxl, Int.one_mul, two_pow_toNat, rgV_row]
  refine ⟨.of_le (by decide) (Int.le_trans (Int.ofNat_le.mpr h64) (by decide)) (by decide) (Int.natCast_nonneg _), ?_⟩
  refine fun o n_o => ?_
  generalize e_H1 : upd _ o _ = H1
  have s_H1 := same_upd n_o e_H1
  have h_o := upd_at e_H1
  clear e_H1
  wtm_at "go"
  refine foL (xs := xs) (SqL.of (s_H1 _ _ hx)) (fun i σ G => ∃ o u2 u3 u4 u5 u6, σ = [some (.ref l), some (.ref o), u2, u3, u4, u5, u6] ∧ Same H G ∧ G o = some (.lst ((isort (lv i row)).map V.int))) ⟨o, _, _, _, _, _, rfl, s_H1, by rw [show isort (lv 0 row) = rowOf n from isort_row hp]; exact h_o⟩ (fun i σ G _ ⟨_, _, _, _, _, _, _, s, _⟩ => SqL.of (s _ _ hx)) (fun i x σ G hi hxi ⟨o, u2, u3, u4, u5, u6, e, s, ho⟩ => ?_) (fun σ G ⟨o, u2, u3, u4, u5, u6, e, s, ho⟩ => ?_)
  · subst e
    obtain ⟨ps, hps, y, rfl, ys, hy, py⟩ := isLs_get px hxi
    obtain ⟨hin, ppm⟩ := rnd_at pm hps
    have hyl := py.length
    have hpl : ps.length ≤ 64 := by
      rw [ppm.length_eq, pairsOf_len (half_lv hin hlen)]
      have : 2 ^ (n - (i + 1)) ≤ 2 ^ 6 := Nat.pow_le_pow_right (by decide) (by omega)
      omega
    have hyG := s _ _ hy
    have pyG := py.ext s
    wtm_at "go"
    refine r_isi (b := true) (.base (.lst hyG)) (by decide +kernel) ?_
    wtm_at "go"
    refine lcL (fun i acc G => acc = List.replicate i (V.bl true)) (SqL.of hyG) (fun _ _ => rfl) (fun i x G D hi hx ⟨acc, hD, ha, s2, nD, e⟩ => ?_) (fun acc G D s2 nD hD ha e => ?_)
    · obtain ⟨p, hpi, hip⟩ := pyG.get hx
      wtm_at "go"
      refine ⟨_, p, rfl, hip.ext s2, ?_⟩
      exact lcT hD ha (by have := line_big; omega) s2 nD (Same.refl _) fun _ _ _ => by
        show acc ++ [V.bl true] = List.replicate (i + 1) (V.bl true)
        rw [show acc = List.replicate i (V.bl true) from e, List.replicate_succ']
    · wtm_at "go"
      refine ⟨_, List.replicate ys.length true, rfl, SqL.of (by rw [hD, List.map_replicate]; exact congrArg (fun q => some (HO.lst q)) e), ?_⟩
      rw [rep_all]
      wtm_at "go"
      have s02 := s.trans s2
      refine lc2P (SqL.of (s02 _ _ hy)) (py.ext s02) (by omega) (fun _ => rfl) (fun _ => rfl) (fun _ _ => rfl) (fun _ _ => rfl) (fun G3 D3 s3 n3 h3 => ?_)
      wtm_at "go"
      refine sortI h3 (fun G4 p4 s4 n4 h4 => ?_)
      wtm_at "go"
      have s24 := (s2.trans s3).trans s4
      refine r_neI h4 (s24 _ _ ho) ?_
      rw [rnd_plrs pm hlen hps, decide_eq_true rfl]
      wtm_at "go"
      have s04 := s.trans s24
      have py4 := py.ext s04
      refine lcL (fun i acc G => acc = ((ps.take i).map (·.1)).map V.int) (SqL.of (s04 _ _ hy)) (fun _ _ => rfl) (fun i x G D hi hx ⟨acc, hD, ha, s5, nD, e⟩ => ?_) (fun acc G D s5 nD hD ha e => ?_)
      · obtain ⟨p, hpi, t, rfl, ht⟩ := py4.get hx
        have ht5 := s5 _ _ ht
        wtm_at "go"
        exact lcT hD ha (by have := line_big; omega) s5 nD (Same.refl _) fun _ _ _ => by
          show acc ++ [V.int p.1] = _
          rw [take_snoc hpi, List.map_append, List.map_append, e]
          rfl
      · rw [hyl, List.take_length] at e
        wtm_at "go"
        refine sortI (by rw [hD, e]) (fun G6 p6 s6 n6 h6 => ?_)
        rw [rnd_wins pm hlen hps] at h6
        wtm_at "go"
        exact ⟨p6, _, _, _, _, _, rfl, s04.trans (s5.trans s6), h6⟩
  · subst e
    wtm_at "go"
    exact k G s
theorem sc_order_of_rounds : FnScope ["rounds", "parts", "stage", "winner", "loser", "player"] ["rounds"] (defScope s_order_of_rounds) := ⟨rfl, rfl, rfl, by decide +kernel, rfl, by decide +kernel, by decide +kernel⟩
theorem ok_order_of_rounds (T : Txt K mg a) : FnOk P w K mg base CX0 1 a.f_order_of_rounds a.d_order_of_rounds ["rounds"] (sp_order_of_rounds) := by
  refine T.F_order_of_rounds.ok sc_order_of_rounds (fun vs H Q E h => (by repeat (first | (obtain ⟨rfl, _⟩ := h; rfl) | obtain ⟨_, h⟩ := h))) (fun cdv A outer s H vs Q E hr h => ?_)
  have nd := sc_order_of_rounds.nd
  have hu := hr.units
  have hu1 := hu_of hr
  obtain ⟨l, rs, row, n, rfl, hl, pm, hn, hp, k⟩ := h
  refine ⟨_, (pss_cons (ps_setLc (i := 1) (own := [("player", 5)]) rfl nd rfl rfl (sw_true rfl rfl rfl (by decide +kernel)) (pi_range1 (by exact rfl) T.z_range (pa_cons (pe_op op_shl pe_int (pe_callB call_len_seq (by exact rfl) T.z_len (by decide +kernel) (pa_cons (pv 0) pa_nil))) pa_nil)) (blkOk_by (own := [("player", 5)]) (N := ["rounds", "parts", "stage", "winner", "loser", "player"]) (sc := defScope s_order_of_rounds) (by decide +kernel)) (fun _ _ _ _ _ => (pg_name (i := 5) nd rfl (Or.inl rfl))) (fun _ _ _ _ _ => pts_nil) (fun _ _ _ _ _ => (pe_lst (pa_cons (pv 5) pa_nil))))
      (pss_cons (ps_for PassesOwn.never rfl (pi_list (pv 0)) (pg_name (i := 2) nd rfl (Or.inl rfl))
      (pss_one (ps_for PassesOwn.never rfl (pi_list (pv 2)) (pg_tup rfl (pgs_cons (pg_name (i := 3) nd rfl (Or.inl rfl)) (pgs_cons (pg_name (i := 4) nd rfl (Or.inl rfl)) pgs_nil)))
      (pss_one (ps_asg (pe_op op_cat (pe_ix ix_list (pv 1) (pv 3) (fun _ _ => rfl)) (pe_ix ix_list (pv 1) (pv 4) (fun _ _ => rfl))) (pg_sub (pv 1) (pv 3) set_list))))))
      (pss_one (ps_ret (pe_maxLen (by exact rfl) T.z_max (by decide +kernel) (by exact rfl) T.z_len (by decide +kernel) rfl (pa_cons (pv 1) pa_nil)))))), ?_⟩
  have hlen : row.length = 2 ^ n := by rw [hp.length_eq]; unfold rowOf; rw [List.length_map, List.length_range]
  have hnd : row.Nodup := hp.nodup_iff.mpr (rowOf_nodup n)
  have hmem : ∀ {x : Int}, x ∈ row → 0 ≤ x ∧ x < (2 ^ n : Nat) := fun h => rowOf_mem.mp (hp.mem_iff.mp h)
  have h64 : (2 : Nat) ^ n ≤ 64 := Nat.pow_le_pow_right (n := 2) (by decide) hn
  obtain ⟨xs, hx, px⟩ := hl
  have hxl : xs.length = n := ((Paired.length px).trans (Paired.length pm)).trans (rdsU_len n row)
  wtm_at "go"
  rw [hxl, Int.one_mul, two_pow_toNat]
  refine lcR ⟨by omega, by omega⟩ (fun i acc G => ∃ as : List Addr, acc = as.map V.ref ∧ as.length = i ∧ ∀ (j : Nat) (x : Addr), as[j]? = some x → H x = none ∧ G x = some (.lst [V.int j])) (fun _ _ => ⟨[], rfl, rfl, fun _ _ h => by cases h⟩) (fun i G D hi ⟨acc, hD, ha, s, nD, as, e1, e2, e3⟩ => ?_) (fun acc G D s nD hD ha ⟨as, e1, e2, e3⟩ => ?_)
  · wtm_at "go"
    refine ⟨by wtm_at "sz", fun y n_y => ?_⟩
    generalize e_G3 : upd _ y _ = G3
    have s_G3 := same_upd n_y e_G3
    have h_y := upd_at e_G3
    clear e_G3
    rw [Int.toNat_natCast] at hi
    refine lcT hD ha (by have := line_big; omega) s nD s_G3 fun H5 b5 hD5 => ⟨as ++ [y], by rw [e1, List.map_append]; rfl, by rw [List.length_append, e2]; rfl, fun j x hx => ?_⟩
    have nyD : y ≠ D := Ne.symm (ne_of_none hD n_y)
    by_cases c : j < as.length
    · rw [List.getElem?_append_left c] at hx
      obtain ⟨z1, z2⟩ := e3 j x hx
      refine ⟨z1, b5 _ _ (fun w => ?_) (s_G3 _ _ z2)⟩
      subst w
      have z3 := s_G3 _ _ z2
      rw [z3] at hD5
      have z4 : [V.int j] = acc := HO.lst.inj (Option.some.inj hD5)
      rw [e1] at z4
      cases as with
      | nil => cases c
      | cons u r => cases z4
    · have hj : j = as.length := by
        have := (List.getElem?_eq_some_iff.mp hx).1
        rw [List.length_append, List.length_singleton] at this
        omega
      subst hj
      rw [List.getElem?_append_right (Nat.le_refl _), Nat.sub_self] at hx
      cases hx
      rw [e2]
      exact ⟨s.free n_y, b5 _ _ nyD h_y⟩
  · rw [Int.toNat_natCast] at e2
    have I0 : PaI H G D as (fun i => [i]) (2 ^ n) := ⟨s, by rw [hD, e1], e2, fun j x hx => by
      obtain ⟨z1, z2⟩ := e3 j x hx
      refine ⟨fun w => ?_, z1, z2⟩
      subst w
      rw [z2] at hD
      have z4 : [V.int j] = acc := HO.lst.inj (Option.some.inj hD)
      rw [e1] at z4
      cases as with
      | nil => cases hx
      | cons u r => cases z4⟩
    have hxG := s _ _ hx
    wtm_at "go"
    refine foL (xs := xs) (SqL.of hxG) (fun i σ G => ∃ u2 u3 u4 u5 as, σ = [some (.ref l), some (.ref D), u2, u3, u4, u5] ∧ PaI H G D as (runP (fun i => [i]) (rs.take i).flatten) (2 ^ n)) ⟨_, _, _, _, as, rfl, I0⟩ (fun i σ G _ ⟨_, _, _, _, _, _, I⟩ => SqL.of (I.s _ _ hx)) (fun i x σ G hi hxi ⟨u2, u3, u4, u5, as, e, I⟩ => ?_) (fun σ G ⟨u2, u3, u4, u5, as, e, I⟩ => ?_)
    · subst e
      obtain ⟨ps, hps, y, rfl, ys, hy, py⟩ := isLs_get px hxi
      obtain ⟨hin, ppm⟩ := rnd_at pm hps
      have hyl := py.length
      have lev := rnd_lev pm hnd hlen i (by rw [Paired.length pm, rdsU_len]; omega)
      wtm_at "go"
      refine foL (xs := ys) (SqL.of (I.s _ _ hy)) (fun j σ G => ∃ u3 u4 u5 as, σ = [some (.ref l), some (.ref D), some (.ref y), u3, u4, u5] ∧ PaI H G D as (runP (runP (fun i => [i]) (rs.take i).flatten) (ps.take j)) (2 ^ n)) ⟨_, _, _, as, rfl, I⟩ (fun j σ G _ ⟨_, _, _, _, _, I⟩ => SqL.of (I.s _ _ hy)) (fun j x σ G hj hxj ⟨u3, u4, u5, as, e, I⟩ => ?_) (fun σ G ⟨u3, u4, u5, as, e, I⟩ => ?_)
      · subst e
        obtain ⟨p, hpj, t, rfl, ht⟩ := py.get hxj
        have htG := I.s _ _ ht
        obtain ⟨c1, c2, m1, m2⟩ := cur_len lev (half_lv hin hlen) (lv_nodup hnd) ppm hpj
        have k1 := hmem (lv_mem m1)
        have k2 := hmem (lv_mem m2)
        have hD' := I.at_
        obtain ⟨i1, e1⟩ : ∃ i1 : Nat, p.1 = (i1 : Int) := ⟨p.1.toNat, by omega⟩
        obtain ⟨i2, e2⟩ : ∃ i2 : Nat, p.2 = (i2 : Int) := ⟨p.2.toNat, by omega⟩
        have l1 : i1 < as.length := by rw [I.len]; omega
        have l2 : i2 < as.length := by rw [I.len]; omega
        obtain ⟨x1, hx1⟩ : ∃ x, as[i1]? = some x := ⟨_, List.getElem?_eq_getElem l1⟩
        obtain ⟨x2, hx2⟩ : ∃ x, as[i2]? = some x := ⟨_, List.getElem?_eq_getElem l2⟩
        obtain ⟨_, _, g1⟩ := I.it i1 x1 hx1
        obtain ⟨_, _, g2⟩ := I.it i2 x2 hx2
        rw [← e1] at g1
        rw [← e2] at g2
        have v1 : atI (as.map V.ref) p.1 = some (V.ref x1) := by rw [e1]; exact atI_nat (by rw [List.getElem?_map, hx1]; rfl)
        have v2 : atI (as.map V.ref) p.2 = some (V.ref x2) := by rw [e2]; exact atI_nat (by rw [List.getElem?_map, hx2]; rfl)
        wtm_at "go"
        have p32 : 2 ^ i ≤ 2 ^ 6 := Nat.pow_le_pow_right (by decide) (by omega)
        refine ⟨x1, x2, _, _, rfl, rfl, g1, g2, by rw [List.length_map, List.length_map, c1, c2]; have := line_big; omega, fun z nz => ?_⟩
        generalize e_G1 : upd G z _ = G1
        have s_G1 := same_upd nz e_G1
        have h_z := upd_at e_G1
        clear e_G1
        rw [← List.map_append] at h_z
        have hD1 := s_G1 _ _ hD'
        wtm_at "go"
        refine r_setL hD1 (ixN_nat' (j := i1) e1 (by rw [List.length_map]; exact l1)) ?_
        refine hold ?_
        generalize e_G2 : upd G1 D _ = G2
        have b_G2 := but_upd e_G2
        have h_D2 := upd_at e_G2
        clear e_G2
        rw [← List.map_set] at h_D2
        refine ⟨_, _, _, as.set i1 z, rfl, ?_⟩
        rw [take_snoc hpj, runP_snoc]
        exact I.put nD e1 (by rw [← I.len]; exact l1) s_G1 nz h_z b_G2 h_D2
      · rw [hyl, List.take_length] at I
        refine ⟨_, _, _, _, as, e, ?_⟩
        rw [take_snoc hps, List.flatten_append]
        show PaI H G D as (runP _ (_ ++ (ps ++ []))) _
        rw [List.append_nil, runP_app]
        exact I
    · subst e
      rw [Paired.length px, List.take_length] at I
      obtain ⟨c, hc⟩ : ∃ c, row[0]? = some c := ⟨_, List.getElem?_eq_getElem (by have := Nat.one_le_two_pow (n := n); omega)⟩
      obtain ⟨w1, w2⟩ := rnd_order pm hnd hlen hc
      have mc := hmem (List.mem_of_getElem? hc)
      have hD' := I.at_
      wtm_at "go"
      refine ⟨D, as, fun i => (runP (fun i => [i]) rs.flatten (i : Int)).length, rfl, SqL.of hD', by rw [I.len]; exact Nat.two_pow_pos n, fun i x hx => ⟨_, SqL.of (I.it i x hx).2.2, by rw [List.length_map]⟩, fun i x hx lon => ?_⟩
      obtain ⟨ic, ec⟩ : ∃ i : Nat, c = (i : Int) := ⟨c.toNat, by omega⟩
      have hi : i < 2 ^ n := by rw [← I.len]; exact lon.1
      have hic : i = ic := by
        by_cases z : i = ic
        · exact z
        · have q1 := (lon.2 ic (by rw [I.len]; omega)).1
          have q2 := w2 (i : Int) (hp.mem_iff.mpr (rowOf_mem.mpr ⟨by omega, by omega⟩)) (by omega)
          dsimp only at q1
          rw [← ec, w1] at q1
          omega
      subst hic
      obtain ⟨_, z2, z3⟩ := I.it i x hx
      rw [← ec, w1] at z3
      wtm_at "go"
      exact k G x I.s z2 z3
end
end Ct
end
section
set_option Elab.async false
set_option linter.all false
set_option maxRecDepth 100000
set_option maxHeartbeats 8000000
namespace Ct
open PySem PySem.Spec L2 StX

local macro_rules | `(tactic| wtm_at "hp") => `(tactic| first
  | assumption
  | exact (‹Same _ _›) _ _ (by wtm_at "hp")
  | exact (‹But _ _ _›) _ _ (by wtm_at "ne") (by wtm_at "hp"))
local macro_rules | `(tactic| wtm_at "hpL") => `(tactic| first | exact SqL.of (by wtm_at "hp") | assumption)
local macro_rules | `(tactic| wtm_at "hpT") => `(tactic| first | exact SqT.of (by wtm_at "hp") | assumption)
local macro_rules | `(tactic| wtm_at "ne") => `(tactic| first
  | assumption
  | exact Ne.symm (by assumption)
  | exact ne_lst_tup (by wtm_at "hp") (by wtm_at "hp")
  | exact ne_tup_lst (by wtm_at "hp") (by wtm_at "hp")
  | exact ne_of_none (by wtm_at "hp") (by assumption)
  | exact Ne.symm (ne_of_none (by wtm_at "hp") (by assumption)))
local macro_rules | `(tactic| wtm_at "c") => `(tactic| first
  | omega
  | (unfold CMul; omega)
  | (unfold CDiv; omega)
  | (unfold CPow; omega))
local macro_rules | `(tactic| wtm_at "sz") => `(tactic| first
  | exact sz64 rfl
  | exact (by decide)
  | (show _ ≤ sizeLine; rw [sizeLine_eq]; omega)
  | (show _ < sizeLine; rw [sizeLine_eq]; omega))
local macro_rules | `(tactic| wtm_at "go1") => `(tactic| first
  | with_reducible refine r_seq ?_
  | with_reducible refine r_op ?_
  | ((with_reducible refine' r_var ?rv ?_); (case rv => exact rfl))
  | with_reducible refine r_c ?_
  | with_reducible refine r_asg ?_
  | with_reducible refine r_name ?_
  | with_reducible refine r_i0 ?_
  | ((with_reducible refine' r_i ?rc ?_); (case rc => wtm_at "c"))
  | ((with_reducible refine' r_ixL ?r1 ?r2 ?_); (case r1 => wtm_at "hpL"); (case r2 => first | exact rfl | assumption))
  | ((with_reducible refine' r_ixT ?r1 ?r2 ?_); (case r1 => wtm_at "hpT"); (case r2 => first | exact rfl | assumption))
  | with_reducible refine r_consA ?_
  | with_reducible refine r_nilA ?_
  | with_reducible refine r_call ?_
  | with_reducible refine r_cb ?_
  | with_reducible refine r_test ?_
  | with_reducible refine r_exb ?_
  | ((with_reducible refine r_eq ?rq ?_); (case rq => exact rfl))
  | ((with_reducible refine r_ne ?rq ?_); (case rq => exact rfl))
  | with_reducible refine r_ret ?_
  | with_reducible refine r_if ?_
  | with_reducible refine r_next ?_
  | with_reducible refine r_drop ?_
  | with_reducible refine r_gsub ?_
  | ((with_reducible refine' r_setL ?r1 ?r2 ?_); (case r1 => wtm_at "hp"); (case r2 => exact rfl))
  | with_reducible refine r_b ?_
  | with_reducible refine r_and ?_
  | with_reducible refine r_or ?_
  | with_reducible refine r_not ?_
  | with_reducible refine r_andV ?_
  | with_reducible refine r_orV ?_
  | with_reducible refine r_notV ?_
  | with_reducible refine r_ifE ?_
  | with_reducible refine r_chain ?_
  | with_reducible refine r_u ?_
  | with_reducible refine r_un ?_
  | with_reducible refine r_fld ?_
  | with_reducible refine r_fldS ?_
  | with_reducible refine r_lst ?_
  | with_reducible refine r_tup ?_
  | with_reducible refine r_par ?_
  | with_reducible refine r_par3 ?_
  | with_reducible refine r_retN ?_
  | with_reducible refine r_gcons ?_
  | with_reducible refine r_gnil ?_
  | ((with_reducible refine' r_gtup ?r1 ?r2 ?_); (case r1 => wtm_at "hpT"); (case r2 => exact rfl))
  | with_reducible refine r_bm ?_
  | with_reducible refine r_bm0 ?_
  | with_reducible refine r_lcL ?_
  | with_reducible refine r_foL ?_
  | with_reducible refine r_foR ?_
  | with_reducible refine r_yes ?_
  | ((with_reducible refine' r_wipe ?rw ?_); (case rw => exact rfl))
  | ((with_reducible refine' r_tyL ?r1 ?_); (case r1 => wtm_at "hpL"))
  | ((with_reducible refine' r_append ?r1 ?r2 ?_); (case r1 => wtm_at "hp"); (case r2 => wtm_at "sz"))
  | with_reducible refine r_dput ?_
  | with_reducible refine r_dget ?_
  | with_reducible refine r_dget2 ?_
  | with_reducible refine r_dnew ?_
  | with_reducible refine iteT ?_
  | with_reducible refine iteF ?_
  | with_reducible refine iteNT ?_
  | with_reducible refine iteNF ?_)
local macro_rules | `(tactic| wtm_at "go") => `(tactic| repeat wtm_at "go1")


local macro_rules | `(tactic| wtm_at "go1") => `(tactic| first
  | with_reducible refine e_int1 ?_
  | with_reducible refine e_int2 ?_
  | with_reducible refine e_two ?_
  | ((with_reducible refine' e_lenL ?r1 ?_); (case r1 => wtm_at "hpL"))
  | ((with_reducible refine' e_lenT ?r1 ?_); (case r1 => wtm_at "hpT")))


local macro_rules | `(tactic| wtm_at "go1") => `(tactic| first
  | with_reducible refine r_make ?_
  | with_reducible refine r_makeK ?_
  | with_reducible refine r_prop ?_
  | with_reducible refine r_revL ?_
  | with_reducible refine r_star ?_
  | with_reducible refine r_meth ?_
  | with_reducible refine r_methK ?_
  | ((with_reducible refine' r_clear ?r1 ?_); (case r1 => wtm_at "hp")))

local macro_rules | `(tactic| wtm_at "go1") => `(tactic| first
  | with_reducible refine r_prop ?_
  | with_reducible refine r_exi ?_
  | ((with_reducible refine' r_makeV ?rv ?_); (case rv => exact rfl)))
def sp_Cup_of (a : Ad) : Sp := fun vs H Q _ => ∃ (l : Addr) (rs : List (List P2)) (row : List Int) (n : Nat), vs = [.ref a.C_Cup, .ref l] ∧ RL H l rs ∧ PmL rs (rdsU n row) ∧ n ≤ 6 ∧ row.Perm (rowOf n) ∧ ∀ H' c o r q b, Same H H' → H c = none → CupF H H' o r q b → CupR a.C_Cup H' c o r q b row n → Q (.ref c) H'
def sp_Cup_order (a : Ad) : Sp := fun vs H Q _ => ∃ (c o r q b : Addr) (row : List Int) (n : Nat), vs = [.ref c] ∧ CupR a.C_Cup H c o r q b row n ∧ ∀ H' x, Same H H' → H x = none → H' x = some (.lst (row.map V.int)) → Q (.ref x) H'
def sp_Cup_champion (a : Ad) : Sp := fun vs H Q _ => ∃ (c o r q b : Addr) (row : List Int) (n : Nat) (z : Int), vs = [.ref c] ∧ CupR a.C_Cup H c o r q b row n ∧ row[0]? = some z ∧ Q (.int z) H
def sp_Cup___eq__ (K : PySem.W.Frag) (a : Ad) : Sp := fun vs H Q _ => ∃ (c o r q b : Addr) (row : List Int) (n : Nat) (y : V), vs = [.ref c, y] ∧ CupR a.C_Cup H c o r q b row n ∧ ((∃ (c' o' r' q' b' : Addr) (row' : List Int) (n' : Nat), y = .ref c' ∧ CupR a.C_Cup H c' o' r' q' b' row' n' ∧ Q (.bl (decide (row = row'))) H) ∨ (∃ t : Value, TyX K H y t ∧ PySem.W.kitOne K t (.ref a.C_Cup) = some false ∧ Q (.bl false) H))
def sp_Cup_rounds (a : Ad) : Sp := fun vs H Q _ => ∃ (c o r q b : Addr) (row : List Int) (n : Nat), vs = [.ref c] ∧ CupR a.C_Cup H c o r q b row n ∧ n ≤ 6 ∧ ∀ H' x, Same H H' → H x = none → RL H' x (rds n row) → Q (.ref x) H'
section
variable {P : Program} {w : World} {K : PySem.W.Frag} {mg : Str → Option Value} {base : Heap} {a : Ad}
theorem sc_Cup_of : FnScope ["cls", "rounds"] ["cls", "rounds"] (defScope s_Cup_of) := ⟨rfl, rfl, rfl, by decide +kernel, rfl, by decide +kernel, by decide +kernel⟩
theorem ok_Cup_of (T : Txt K mg a) : FnOk P w K mg base CX0 5 a.f_Cup_of a.d_Cup_of ["cls", "rounds"] (sp_Cup_of a) := by
  refine T.F_Cup_of.ok sc_Cup_of (fun vs H Q E h => (by repeat (first | (obtain ⟨rfl, _⟩ := h; rfl) | obtain ⟨_, h⟩ := h))) (fun cdv A outer s H vs Q E hr h => ?_)
  have nd := sc_Cup_of.nd
  have hu := hr.units
  have hu1 := hu_of hr
  obtain ⟨l, rs, row, n, rfl, hl, pm, hn, hp, k⟩ := h
  refine ⟨_, (pss_cons (ps_if (pt_not (pt_val (pe_call (ok_is_list_of_rounds T) (hr.mono (by decide)) (by exact rfl) T.m_is_list_of_rounds T.F_is_list_of_rounds.kp T.b_is_list_of_rounds .nil pass0 (pa_cons (pv 1) pa_nil)))) (pss_one ps_never) pss_nil)
      (pss_one (ps_ret (pe_makeV (i := 0) T.M_Cup (ok_Cup___init__ T) (hr.mono (by decide)) rfl (Or.inl rfl) T.b_Cup___init__ .nil pass0 (pa_cons (pe_call (ok_order_of_rounds T) (hr.mono (by decide)) (by exact rfl) T.m_order_of_rounds T.F_order_of_rounds.kp T.b_order_of_rounds .nil pass0 (pa_cons (pv 1) pa_nil)) pa_nil))))), ?_⟩
  have hlen : row.length = 2 ^ n := by rw [hp.length_eq]; unfold rowOf; rw [List.length_map, List.length_range]
  wtm_at "go"
  refine ⟨l, rs, row, n, rfl, hl, pm, hn, hp, fun H1 s1 => ?_⟩
  wtm_at "go"
  refine ⟨l, rs, row, n, rfl, hl.ext s1, pm, hn, hp, fun H2 o2 s2 n2 h2 => ?_⟩
  wtm_at "go"
  refine fun c dx nc nd' _ => ?_
  have up1 := made_up (o := .own c) (o' := .ins a.C_Cup dx []) nc nd'
  have s12 := s1.trans s2
  refine ⟨c, dx, o2, row, n, rfl, upd_same, up1 _ _ h2, hn, hlen, hp, fun H3 o' r q b b1 F1 C1 => ⟨rfl, ?_⟩⟩
  have fr : ∀ {x : Addr}, (upd (upd H2 dx (.own c)) c (.ins a.C_Cup dx [])) x = none → H x = none := fun h => s12.free (made_free nc nd' h)
  wtm_at "go"
  exact k H3 c o' r q b (s12.trans (made_same nc nd' b1)) (s12.free nc) (F1.free fun x h => fr h) C1
theorem sc_Cup_order : FnScope ["self"] ["self"] (defScope s_Cup_order) := ⟨rfl, rfl, rfl, by decide +kernel, rfl, by decide +kernel, by decide +kernel⟩
theorem ok_Cup_order (T : Txt K mg a) : FnOk P w K mg base CX0 1 a.f_Cup_order a.d_Cup_order ["self"] (sp_Cup_order a) := by
  refine T.F_Cup_order.ok sc_Cup_order (fun vs H Q E h => (by repeat (first | (obtain ⟨rfl, _⟩ := h; rfl) | obtain ⟨_, h⟩ := h))) (fun cdv A outer s H vs Q E hr h => ?_)
  have nd := sc_Cup_order.nd
  have hu := hr.units
  have hu1 := hu_of hr
  obtain ⟨c, o, r, q, b, row, n, rfl, hC, k⟩ := h
  refine ⟨_, (pss_one (ps_ret (pe_callTy call_list_of (by exact rfl) T.z_list (by decide +kernel) (pa_cons (pe_fld (pv 0) rfl) pa_nil)))), ?_⟩
  obtain ⟨dx, fs, e1, e2, e3, e4, e5, e6, e7⟩ := id hC.at_
  have ho := hC.ord
  wtm_at "go"
  refine ⟨c, _, dx, fs, _, rfl, e1, T.cl_Cup, T.n_Cup__order, e2, ?_⟩
  wtm_at "go"
  refine fun x n_x => ?_
  generalize e_H1 : upd _ x _ = H1
  have s_H1 := same_upd n_x e_H1
  have h_x := upd_at e_H1
  clear e_H1
  wtm_at "go"
  exact k H1 x s_H1 n_x h_x
theorem sc_Cup___eq__ : FnScope ["self", "other"] ["self", "other"] (defScope s_Cup___eq__) := ⟨rfl, rfl, rfl, by decide +kernel, rfl, by decide +kernel, by decide +kernel⟩
theorem ok_Cup___eq__ (T : Txt K mg a) : FnOk P w K mg base CX0 1 a.f_Cup___eq__ a.d_Cup___eq__ ["self", "other"] ((sp_Cup___eq__ K a)) := by
  refine T.F_Cup___eq__.ok sc_Cup___eq__ (fun vs H Q E h => (by repeat (first | (obtain ⟨rfl, _⟩ := h; rfl) | obtain ⟨_, h⟩ := h))) (fun cdv A outer s H vs Q E hr h => ?_)
  have nd := sc_Cup___eq__.nd
  have hu := hr.units
  have hu1 := hu_of hr
  obtain ⟨c, o, r, q, b, row, n, y, rfl, hC, k⟩ := h
  refine ⟨_, (pss_one (ps_ret (pe_and (pe_callB call_isi (by exact rfl) T.z_isinstance (by decide +kernel) (pa_cons (pv 1) (pa_cons (pe_glob (v := .ref a.C_Cup) (by exact rfl) T.mC_Cup rfl) pa_nil))) (pe_one (pe_cmpR (op_eqD hu) (pe_fld (pv 0) rfl) (pe_fld (pv 1) rfl) (nomark _)))))), ?_⟩
  obtain ⟨dx, fs, e1, e2, e3, e4, e5, e6, e7⟩ := id hC.at_
  rcases k with ⟨c', o', r', q', b', row', n', rfl, hC', k⟩ | ⟨t, ty, kt, k⟩
  · obtain ⟨dx', fs', e1', e2', e3', e4', e5', e6', e7'⟩ := id hC'.at_
    wtm_at "go"
    refine ⟨_, _, _, _, _, rfl, .own _, T.is_Cup.ty T.cl_Cup e1', Isi.kit _, ?_⟩
    wtm_at "go"
    refine ⟨c, _, dx, fs, _, rfl, e1, T.cl_Cup, T.n_Cup__order, e2, ?_⟩
    wtm_at "go"
    refine ⟨c', _, dx', fs', _, rfl, e1', T.cl_Cup, T.n_Cup__order, e2', ?_⟩
    refine r_eqI hC.ord hC'.ord ?_
    wtm_at "go"
    exact k
  · wtm_at "go"
    refine ⟨_, _, _, _, _, rfl, .own _, ty, kt, ?_⟩
    wtm_at "go"
    exact k
theorem sc_Cup_rounds : FnScope ["self", "stage"] ["self"] (defScope s_Cup_rounds) := ⟨rfl, rfl, rfl, by decide +kernel, rfl, by decide +kernel, by decide +kernel⟩
theorem ok_Cup_rounds (T : Txt K mg a) : FnOk P w K mg base CX0 1 a.f_Cup_rounds a.d_Cup_rounds ["self"] (sp_Cup_rounds a) := by
  refine T.F_Cup_rounds.ok sc_Cup_rounds (fun vs H Q E h => (by repeat (first | (obtain ⟨rfl, _⟩ := h; rfl) | obtain ⟨_, h⟩ := h))) (fun cdv A outer s H vs Q E hr h => ?_)
  have nd := sc_Cup_rounds.nd
  have hu := hr.units
  have hu1 := hu_of hr
  obtain ⟨c, o, r, q, b, row, n, rfl, hC, hn, k⟩ := h
  refine ⟨_, (pss_one (ps_ret (pe_lc (own := [("stage", 1)]) rfl nd (pi_list (pe_fld (pv 0) rfl)) (blkOk_by (own := [("stage", 1)]) (N := ["self", "stage"]) (sc := defScope s_Cup_rounds) (by decide +kernel)) (fun _ _ _ _ _ => (pg_name (i := 1) nd rfl (Or.inl rfl))) (fun _ _ _ _ _ => pts_nil) (fun _ _ _ _ _ => (pe_callTy (T := "list") (r := rListOf K) call_list_of (by exact rfl) T.z_list (by decide +kernel) (pa_cons (pv 1) pa_nil)))))), ?_⟩
  obtain ⟨dx, fs, e1, e2, e3, e4, e5, e6, e7⟩ := id hC.at_
  obtain ⟨rv, hrv, prv⟩ := hC.rnd
  have hrl : rv.length = n := (Paired.length prv).trans (rds_len n row)
  wtm_at "go"
  refine ⟨c, _, dx, fs, _, rfl, e1, T.cl_Cup, T.n_Cup__rounds, e3, ?_⟩
  wtm_at "go"
  refine lcL (fun i acc G => ∃ as : List Addr, acc = as.map V.ref ∧ (∀ x ∈ as, H x = none) ∧ Paired (IsL G) acc ((rds n row).take i)) (SqL.of hrv) (fun _ _ => ⟨[], rfl, (fun _ h => by cases h), .nil⟩) (fun i x G D hi hx ⟨acc, hD, ha, s, nD, as, e1, e2, e3⟩ => ?_) (fun acc G D s nD hD ha ⟨as, e1, e2, e3⟩ => ?_)
  · obtain ⟨ps, hps, y, rfl, xs, hxs, pxs⟩ := isLs_get prv hx
    have hxs2 := s _ _ hxs
    wtm_at "go"
    refine listOf hxs2 (fun G3 z s3 n3 h3 => ?_)
    have nzD : z ≠ D := Ne.symm (ne_of_none hD n3)
    exact lcT hD ha (by have := line_big; omega) s nD s3 fun H5 b5 hD5 => ⟨as ++ [z], by rw [e1, List.map_append]; rfl, fun x hx => (List.mem_append.mp hx).elim (e2 x) fun h => by rw [List.mem_singleton.mp h]; exact s.free n3, by
      rw [take_snoc hps]
      exact isLs_app (isLs_but hD5 b5 (fun _ h => h) (isLs_ext e3 s3)) (.cons ⟨z, rfl, xs, b5 _ _ nzD h3, b5.prs hD5 (Prs.ext pxs (s.trans s3))⟩ .nil)⟩
  · rw [Paired.length prv, List.take_length] at e3
    wtm_at "go"
    exact k G D s nD ⟨acc, hD, e3⟩
end
end Ct
end
section
set_option Elab.async false
set_option linter.all false
set_option maxRecDepth 100000
set_option maxHeartbeats 8000000
namespace Ct
open PySem PySem.Spec L2 StX

local macro_rules | `(tactic| wtm_at "hp") => `(tactic| first
  | assumption
  | exact (‹Same _ _›) _ _ (by wtm_at "hp")
  | exact (‹But _ _ _›) _ _ (by wtm_at "ne") (by wtm_at "hp"))
local macro_rules | `(tactic| wtm_at "hpL") => `(tactic| first | exact SqL.of (by wtm_at "hp") | assumption)
local macro_rules | `(tactic| wtm_at "hpT") => `(tactic| first | exact SqT.of (by wtm_at "hp") | assumption)
local macro_rules | `(tactic| wtm_at "ne") => `(tactic| first
  | assumption
  | exact Ne.symm (by assumption)
  | exact ne_lst_tup (by wtm_at "hp") (by wtm_at "hp")
  | exact ne_tup_lst (by wtm_at "hp") (by wtm_at "hp")
  | exact ne_of_none (by wtm_at "hp") (by assumption)
  | exact Ne.symm (ne_of_none (by wtm_at "hp") (by assumption)))
local macro_rules | `(tactic| wtm_at "c") => `(tactic| first
  | omega
  | (unfold CMul; omega)
  | (unfold CDiv; omega)
  | (unfold CPow; omega))
local macro_rules | `(tactic| wtm_at "sz") => `(tactic| first
  | exact sz64 rfl
  | exact (by decide)
  | (show _ ≤ sizeLine; rw [sizeLine_eq]; omega)
  | (show _ < sizeLine; rw [sizeLine_eq]; omega))
local macro_rules | `(tactic| wtm_at "go1") => `(tactic| first
  | with_reducible refine r_seq ?_
  | with_reducible refine r_op ?_
  | ((with_reducible refine' r_var ?rv ?_); (case rv => exact rfl))
  | with_reducible refine r_c ?_
  | with_reducible refine r_asg ?_
  | with_reducible refine r_name ?_
  | with_reducible refine r_i0 ?_
  | ((with_reducible refine' r_i ?rc ?_); (case rc => wtm_at "c"))
  | ((with_reducible refine' r_ixL ?r1 ?r2 ?_); (case r1 => wtm_at "hpL"); (case r2 => first | exact rfl | assumption))
  | ((with_reducible refine' r_ixT ?r1 ?r2 ?_); (case r1 => wtm_at "hpT"); (case r2 => first | exact rfl | assumption))
  | with_reducible refine r_consA ?_
  | with_reducible refine r_nilA ?_
  | with_reducible refine r_call ?_
  | with_reducible refine r_cb ?_
  | with_reducible refine r_test ?_
  | with_reducible refine r_exb ?_
  | ((with_reducible refine r_eq ?rq ?_); (case rq => exact rfl))
  | ((with_reducible refine r_ne ?rq ?_); (case rq => exact rfl))
  | with_reducible refine r_ret ?_
  | with_reducible refine r_if ?_
  | with_reducible refine r_next ?_
  | with_reducible refine r_drop ?_
  | with_reducible refine r_gsub ?_
  | ((with_reducible refine' r_setL ?r1 ?r2 ?_); (case r1 => wtm_at "hp"); (case r2 => exact rfl))
  | with_reducible refine r_b ?_
  | with_reducible refine r_and ?_
  | with_reducible refine r_or ?_
  | with_reducible refine r_not ?_
  | with_reducible refine r_andV ?_
  | with_reducible refine r_orV ?_
  | with_reducible refine r_notV ?_
  | with_reducible refine r_ifE ?_
  | with_reducible refine r_chain ?_
  | with_reducible refine r_u ?_
  | with_reducible refine r_un ?_
  | with_reducible refine r_fld ?_
  | with_reducible refine r_fldS ?_
  | with_reducible refine r_lst ?_
  | with_reducible refine r_tup ?_
  | with_reducible refine r_par ?_
  | with_reducible refine r_par3 ?_
  | with_reducible refine r_retN ?_
  | with_reducible refine r_gcons ?_
  | with_reducible refine r_gnil ?_
  | ((with_reducible refine' r_gtup ?r1 ?r2 ?_); (case r1 => wtm_at "hpT"); (case r2 => exact rfl))
  | with_reducible refine r_bm ?_
  | with_reducible refine r_bm0 ?_
  | with_reducible refine r_lcL ?_
  | with_reducible refine r_foL ?_
  | with_reducible refine r_foR ?_
  | with_reducible refine r_yes ?_
  | ((with_reducible refine' r_wipe ?rw ?_); (case rw => exact rfl))
  | ((with_reducible refine' r_tyL ?r1 ?_); (case r1 => wtm_at "hpL"))
  | ((with_reducible refine' r_append ?r1 ?r2 ?_); (case r1 => wtm_at "hp"); (case r2 => wtm_at "sz"))
  | with_reducible refine r_dput ?_
  | with_reducible refine r_dget ?_
  | with_reducible refine r_dget2 ?_
  | with_reducible refine r_dnew ?_
  | with_reducible refine iteT ?_
  | with_reducible refine iteF ?_
  | with_reducible refine iteNT ?_
  | with_reducible refine iteNF ?_)
local macro_rules | `(tactic| wtm_at "go") => `(tactic| repeat wtm_at "go1")


local macro_rules | `(tactic| wtm_at "go1") => `(tactic| first
  | with_reducible refine e_int1 ?_
  | with_reducible refine e_int2 ?_
  | with_reducible refine e_two ?_
  | ((with_reducible refine' e_lenL ?r1 ?_); (case r1 => wtm_at "hpL"))
  | ((with_reducible refine' e_lenT ?r1 ?_); (case r1 => wtm_at "hpT")))

theorem eraseV_perm {α : Type} : ∀ {ls : List α} {j : Nat} {p : α}, ls[j]? = some p → (p :: ls.eraseIdx j).Perm ls
  | [], _, _, h => by cases h
  | x :: ls, 0, p, h => by
    cases h
    exact .refl _
  | x :: ls, j + 1, p, h => (List.Perm.swap x p _).trans (.cons x (eraseV_perm (ls := ls) (j := j) h))
theorem shuffleV_perm {α : Type} {ls fs ps : List α} {j : Nat} {p : α} (h : ls[j]? = some p) (e : (ls ++ fs).Perm ps) : (ls.eraseIdx j ++ (fs ++ [p])).Perm ps := by
  refine List.Perm.trans ?_ e
  rw [← List.append_assoc]
  refine List.perm_append_comm.trans ?_
  show (p :: (ls.eraseIdx j ++ fs)).Perm (ls ++ fs)
  rw [← List.cons_append]
  exact (eraseV_perm h).append_right fs
def sp_law_pick : Sp := fun vs H Q _ => ∃ (f : Addr) (w : Int), vs = [.ref f, .int w] ∧ FeedAt H f ∧ 1 ≤ w ∧ w < 1000000 ∧ ∀ (H' : Hp) (d : Int), 0 ≤ d → d < w → But f H H' → FeedAt H' f → Q (.int d) H'
def sp_law_feed (K : PySem.W.Frag) : Sp := fun vs H Q _ => ∃ (l : Addr) (ns : List Int) (k : Int), vs = [.ref l, .int k] ∧ SqL K H l (ns.map V.int) ∧ 0 ≤ k ∧ k < 1000000 ∧ ns.length ≤ 63 ∧ ∀ (H' : Hp) (f : Addr), Same H H' → H f = none → FeedAt H' f → Q (.ref f) H'
def sp_law_shuffled : Sp := fun vs H Q _ => ∃ (f l : Addr) (row : List V), vs = [.ref f, .ref l] ∧ FeedAt H f ∧ H l = some (.lst row) ∧ l ≠ f ∧ row.length ≤ 10000 ∧ ∀ (H' : Hp) (r : Addr) (row' : List V), But f H H' → H r = none → FeedAt H' f → H' r = some (.lst row') → row'.Perm row → Q (.ref r) H'
def sp_law_players : Sp := fun vs H Q _ => ∃ (w : Int), vs = [.int w] ∧ 0 ≤ w ∧ w ≤ 6 ∧ ∀ (H' : Hp), Same H H' → Q (.int (2 ^ w.toNat)) H'
def sp_law_pair : Sp := fun vs H Q _ => ∃ (f : Addr) (m : Int), vs = [.ref f, .int m] ∧ FeedAt H f ∧ 2 ≤ m ∧ m ≤ 64 ∧ ∀ (H' : Hp) (t : Addr) (p : P2), But f H H' → H t = none → FeedAt H' f → IsP H' (.ref t) p → 0 ≤ p.1 → p.1 < m → 0 ≤ p.2 → p.2 < m → p.1 ≠ p.2 → Q (.ref t) H'
section
variable {P : Program} {w : World} {K : PySem.W.Frag} {mg : Str → Option Value} {base : Heap} {a : Ad}
section
local macro_rules | `(tactic| wtm_at "go1") => `(tactic| ((with_reducible refine' r_modB ?rc ?_); (case rc => omega); intro m m0 m1))
theorem sc_law_pick : FnScope ["feed", "wide", "digit", "mixed"] ["feed", "wide"] (defScope s_law_pick) := ⟨rfl, rfl, rfl, by decide +kernel, rfl, by decide +kernel, by decide +kernel⟩
theorem ok_law_pick (T : Txt K mg a) : FnOk P w K mg base CX0 1 a.f_law_pick a.d_law_pick ["feed", "wide"] (sp_law_pick) := by
  refine T.F_law_pick.ok sc_law_pick (fun vs H Q E h => (by repeat (first | (obtain ⟨rfl, _⟩ := h; rfl) | obtain ⟨_, h⟩ := h))) (fun cdv A outer s H vs Q E hr h => ?_)
  have nd := sc_law_pick.nd
  have hu := hr.units
  have hu1 := hu_of hr
  obtain ⟨f, w, rfl, ⟨x, y, z, hf⟩, hw, hw2, k⟩ := h
  refine ⟨_, (pss_cons (ps_if (pt_cmpR op_gt (pe_ix ix_list (pv 0) pe_int (fun _ _ => rfl)) pe_int (nomark _)) (pss_cons (ps_set (i := 2) nd rfl (Or.inl rfl) (pe_op op_mod (pe_ix ix_list (pv 0) pe_int (fun _ _ => rfl)) (pv 1)))
      (pss_cons (ps_asg (pe_op op_fdiv (pe_ix ix_list (pv 0) pe_int (fun _ _ => rfl)) (pv 1)) (pg_sub (pv 0) pe_int set_list))
      (pss_one (ps_ret (pv 2))))) pss_nil)
      (pss_cons (ps_asg (pe_op op_add (pe_ix ix_list (pv 0) pe_int (fun _ _ => rfl)) pe_int) (pg_sub (pv 0) pe_int set_list))
      (pss_cons (ps_set (i := 3) nd rfl (Or.inl rfl) (pe_op op_mod (pe_op op_add (pe_ix ix_list (pv 0) pe_int (fun _ _ => rfl)) (pe_op op_mul pe_int (pe_ix ix_list (pv 0) pe_int (fun _ _ => rfl)))) pe_int))
      (pss_cons (ps_set (i := 3) nd rfl (Or.inl rfl) (pe_op op_mod (pe_op op_add (pe_op op_add (pe_op op_mul (pv 3) (pv 3)) (pe_op op_mul (pe_op op_mul pe_int (pe_ix ix_list (pv 0) pe_int (fun _ _ => rfl))) (pv 3))) pe_int) pe_int))
      (pss_cons (ps_set (i := 3) nd rfl (Or.inl rfl) (pe_op op_mod (pe_op op_add (pe_op op_add (pe_op op_pow (pv 3) pe_int) (pe_ix ix_list (pv 0) pe_int (fun _ _ => rfl))) (pe_op op_mul pe_int (pe_ix ix_list (pv 0) pe_int (fun _ _ => rfl)))) pe_int))
      (pss_one (ps_ret (pe_op op_mod (pe_op op_fdiv (pv 3) pe_int) (pv 1))))))))), ?_⟩
  wtm_at "go"
  refine iteD (fun ha => ?_) (fun ha => ?_)
  · wtm_at "go"
    refine hold ?_
    generalize e_H1 : upd _ f _ = H1
    have b_H1 := but_upd e_H1
    have h_H1 := upd_at e_H1
    clear e_H1
    wtm_at "go"
    exact k H1 _ (by assumption) (by assumption) b_H1 ⟨_, _, _, h_H1⟩
  · wtm_at "go"
    refine hold ?_
    generalize e_H1 : upd _ f _ = H1
    have b_H1 := but_upd e_H1
    have h_H1 := upd_at e_H1
    clear e_H1
    wtm_at "go"
    exact k H1 _ (by assumption) (by assumption) b_H1 ⟨_, _, _, h_H1⟩
end
theorem sc_law_feed : FnScope ["script", "k", "start"] ["script", "k"] (defScope s_law_feed) := ⟨rfl, rfl, rfl, by decide +kernel, rfl, by decide +kernel, by decide +kernel⟩
theorem ok_law_feed (T : Txt K mg a) : FnOk P w K mg base CX0 1 a.f_law_feed a.d_law_feed ["script", "k"] ((sp_law_feed K)) := by
  refine T.F_law_feed.ok sc_law_feed (fun vs H Q E h => (by repeat (first | (obtain ⟨rfl, _⟩ := h; rfl) | obtain ⟨_, h⟩ := h))) (fun cdv A outer s H vs Q E hr h => ?_)
  have nd := sc_law_feed.nd
  have hu := hr.units
  have hu1 := hu_of hr
  obtain ⟨l, ns, z, rfl, hl, h0, h6, hn, k⟩ := h
  refine ⟨_, (pss_cons (ps_set (i := 2) nd rfl (Or.inl rfl) pe_int)
      (pss_cons (ps_if (pt_cmpR op_lt (pv 1) (pe_callB call_len_seq (by exact rfl) T.z_len (by decide +kernel) (pa_cons (pv 0) pa_nil)) (nomark _)) (pss_one (ps_set (i := 2) nd rfl (Or.inl rfl) (pe_ix ix_list (pv 0) (pv 1) (fun _ _ => rfl)))) pss_nil)
      (pss_one (ps_ret (pe_lst (pa_cons (pe_callB (call_max2 rfl) (by exact rfl) T.z_max (by decide +kernel) (pa_cons pe_int (pa_cons (pe_op op_sub (pe_callB call_abs (by exact rfl) T.z_abs (by decide +kernel) (pa_cons (pv 2) pa_nil)) (pe_op op_pow pe_int pe_int)) pa_nil))) (pa_cons (pe_op op_mod (pe_op op_add (pe_op op_add (pe_op op_mul (pv 2) pe_int) (pe_op op_mul pe_int (pv 1))) pe_int) pe_int) (pa_cons pe_int pa_nil)))))))), ?_⟩
  wtm_at "go"
  refine iteD (fun hz => ?_) (fun hz => ?_)
  · obtain ⟨j, rfl⟩ : ∃ j : Nat, z = (j : Int) := ⟨z.toNat, by omega⟩
    have hj : j < ns.length := by rw [List.length_map] at hz; omega
    have hv := atI_cell hj
    wtm_at "go"
    refine ⟨by wtm_at "sz", fun f n_f => ?_⟩
    generalize e_H1 : upd _ f _ = H1
    have s_H1 := same_upd n_f e_H1
    have h_f := upd_at e_H1
    clear e_H1
    wtm_at "go"
    exact k H1 f s_H1 n_f ⟨_, _, _, h_f⟩
  · wtm_at "go"
    refine ⟨by wtm_at "sz", fun f n_f => ?_⟩
    generalize e_H1 : upd _ f _ = H1
    have s_H1 := same_upd n_f e_H1
    have h_f := upd_at e_H1
    clear e_H1
    wtm_at "go"
    exact k H1 f s_H1 n_f ⟨_, _, _, h_f⟩
theorem sc_law_shuffled : FnScope ["feed", "row", "left", "found", "turn"] ["feed", "row"] (defScope s_law_shuffled) := ⟨rfl, rfl, rfl, by decide +kernel, rfl, by decide +kernel, by decide +kernel⟩
theorem ok_law_shuffled (T : Txt K mg a) : FnOk P w K mg base CX0 2 a.f_law_shuffled a.d_law_shuffled ["feed", "row"] (sp_law_shuffled) := by
  refine T.F_law_shuffled.ok sc_law_shuffled (fun vs H Q E h => (by repeat (first | (obtain ⟨rfl, _⟩ := h; rfl) | obtain ⟨_, h⟩ := h))) (fun cdv A outer s H vs Q E hr h => ?_)
  have nd := sc_law_shuffled.nd
  have hu := hr.units
  have hu1 := hu_of hr
  obtain ⟨f, l, ps, rfl, hf, hl, hlf, hn, k⟩ := h
  refine ⟨_, (pss_cons (ps_par (i := 2) (j := 3) (by exact rfl) nd rfl rfl (by decide) rfl rfl (pa_cons (pe_callTy call_list_of (by exact rfl) T.z_list (by decide +kernel) (pa_cons (pv 1) pa_nil)) (pa_cons (pe_lst pa_nil) pa_nil)) (by exact rfl))
      (pss_cons (ps_for PassesOwn.never rfl (pi_range1 (by exact rfl) T.z_range (pa_cons (pe_callB call_len_seq (by exact rfl) T.z_len (by decide +kernel) (pa_cons (pv 2) pa_nil)) pa_nil)) (pg_name (i := 4) nd rfl (Or.inl rfl))
      (pss_one (ps_expr (pe_bm PySem.F.plainAttrs_list PySem.F.slot_list_append PySem.F.type_list_append mt_append (pv 3) (pa_cons (pe_bm PySem.F.plainAttrs_list PySem.F.slot_list_pop PySem.F.type_list_pop mt_popAt (pv 2) (pa_cons (pe_call (ok_law_pick T) (hr.mono (by decide)) (by exact rfl) T.m_law_pick T.F_law_pick.kp T.b_law_pick .nil pass0 (pa_cons (pv 0) (pa_cons (pe_callB call_len_seq (by exact rfl) T.z_len (by decide +kernel) (pa_cons (pv 2) pa_nil)) pa_nil))) pa_nil)) pa_nil)))))
      (pss_one (ps_ret (pv 3))))), ?_⟩
  have hfx := hf
  obtain ⟨_, _, _, hf0⟩ := hfx
  wtm_at "go"
  refine fun m n_m => ?_
  generalize e_H1 : upd _ m _ = H1
  have s_H1 := same_upd n_m e_H1
  have h_m := upd_at e_H1
  clear e_H1
  wtm_at "go"
  refine ⟨by wtm_at "sz", fun r n_r => ?_⟩
  generalize e_H2 : upd _ r _ = H2
  have s_H2 := same_upd n_r e_H2
  have h_r := upd_at e_H2
  clear e_H2
  wtm_at "go"
  have s12 := s_H1.trans s_H2
  have nfm : f ≠ m := ne_of_none hf0 n_m
  have nfr : f ≠ r := ne_of_none (s_H1 _ _ hf0) n_r
  have hne : m ≠ r := ne_of_none h_m n_r
  refine foR ⟨by omega, by omega⟩ (fun i σ G => ∃ (u : Option V) (ls fs : List V), σ = [some (.ref f), some (.ref l), some (.ref m), some (.ref r), u] ∧ But f H G ∧ FeedAt G f ∧ G m = some (.lst ls) ∧ G r = some (.lst fs) ∧ ls.length + i = ps.length ∧ fs.length = i ∧ (ls ++ fs).Perm ps) ?_ (fun i σ G hi ⟨u, ls, fs, e, b, hfG, hm, hr1, e1, e2, pm⟩ => ?_) (fun σ G ⟨u, ls, fs, e, b, hfG, hm, hr1, e1, e2, pm⟩ => ?_)
  · exact ⟨_, ps, [], rfl, Same.but s12, hf.ext s12, s_H2 _ _ h_m, h_r, rfl, rfl, by rw [List.append_nil]⟩
  · subst e
    rw [Int.toNat_natCast] at hi
    wtm_at "go"
    refine ⟨f, _, rfl, hfG, by omega, by omega, fun H3 d d0 d1 b3 f3 => ?_⟩
    obtain ⟨j, rfl⟩ : ∃ j : Nat, d = (j : Int) := ⟨d.toNat, by omega⟩
    have hm3 := b3 _ _ (Ne.symm nfm) hm
    have hr3 := b3 _ _ (Ne.symm nfr) hr1
    have hj : j < ls.length := by omega
    have hx := List.getElem?_eq_getElem hj
    wtm_at "go"
    refine r_popAt hm3 ⟨by omega, by have := line_big; omega⟩ (seqIndex_of (by omega) d1) (by rw [Int.toNat_natCast]; exact hx) ?_
    rw [Int.toNat_natCast]
    refine hold ?_
    generalize e_H4 : upd _ m _ = H4
    have b_H4 := but_upd e_H4
    have h_H4 := upd_at e_H4
    clear e_H4
    have hr4 := b_H4 _ _ hne.symm hr3
    wtm_at "go"
    try refine r_append hr4 (by have := line_big; omega) ?_
    refine hold ?_
    generalize e_H5 : upd _ r _ = H5
    have b_H5 := but_upd e_H5
    have h_H5 := upd_at e_H5
    clear e_H5
    wtm_at "go"
    have fm := f3.talkless b_H4 nfm
    refine ⟨_, ls.eraseIdx j, fs ++ [ls[j]], rfl, But.ins (But.ins (But.trans b b3) n_m b_H4) (s_H1.free n_r) b_H5, fm.talkless b_H5 nfr, b_H5 _ _ hne h_H4, h_H5, ?_, by rw [List.length_append, e2]; rfl, shuffleV_perm hx pm⟩
    rw [List.length_eraseIdx_of_lt (by omega)]
    omega
  · subst e
    wtm_at "go"
    rw [Int.toNat_natCast] at e1
    have z : ls = [] := List.length_eq_zero_iff.mp (by omega)
    rw [z, List.nil_append] at pm
    exact k G r fs b (s_H1.free n_r) hfG hr1 pm
theorem sc_law_players : FnScope ["wide"] ["wide"] (defScope s_law_players) := ⟨rfl, rfl, rfl, by decide +kernel, rfl, by decide +kernel, by decide +kernel⟩
theorem ok_law_players (T : Txt K mg a) : FnOk P w K mg base CX0 1 a.f_law_players a.d_law_players ["wide"] (sp_law_players) := by
  refine T.F_law_players.ok sc_law_players (fun vs H Q E h => (by repeat (first | (obtain ⟨rfl, _⟩ := h; rfl) | obtain ⟨_, h⟩ := h))) (fun cdv A outer s H vs Q E hr h => ?_)
  have nd := sc_law_players.nd
  have hu := hr.units
  have hu1 := hu_of hr
  obtain ⟨z, rfl, h0, h6, k⟩ := h
  refine ⟨_, (pss_one (ps_ret (pe_ix ix_list (pe_lst (pa_cons pe_int (pa_cons pe_int (pa_cons pe_int (pa_cons pe_int (pa_cons pe_int (pa_cons pe_int (pa_cons pe_int pa_nil)))))))) (pv 0) (fun _ _ => rfl)))), ?_⟩
  wtm_at "go"
  refine ⟨by wtm_at "sz", fun q n_q => ?_⟩
  generalize e_H1 : upd _ q _ = H1
  have s_H1 := same_upd n_q e_H1
  have h_q := upd_at e_H1
  clear e_H1
  have hz : z = 0 ∨ z = 1 ∨ z = 2 ∨ z = 3 ∨ z = 4 ∨ z = 5 ∨ z = 6 := by omega
  rcases hz with rfl | rfl | rfl | rfl | rfl | rfl | rfl <;> (wtm_at "go"; exact k H1 s_H1)
end
end Ct
end
section
set_option Elab.async false
set_option linter.all false
set_option maxRecDepth 100000
set_option maxHeartbeats 8000000
namespace Ct
open PySem PySem.Spec L2 StX

local macro_rules | `(tactic| wtm_at "hp") => `(tactic| first
  | assumption
  | exact (‹Same _ _›) _ _ (by wtm_at "hp")
  | exact (‹But _ _ _›) _ _ (by wtm_at "ne") (by wtm_at "hp"))
local macro_rules | `(tactic| wtm_at "hpL") => `(tactic| first | exact SqL.of (by wtm_at "hp") | assumption)
local macro_rules | `(tactic| wtm_at "hpT") => `(tactic| first | exact SqT.of (by wtm_at "hp") | assumption)
local macro_rules | `(tactic| wtm_at "ne") => `(tactic| first
  | assumption
  | exact Ne.symm (by assumption)
  | exact ne_lst_tup (by wtm_at "hp") (by wtm_at "hp")
  | exact ne_tup_lst (by wtm_at "hp") (by wtm_at "hp")
  | exact ne_of_none (by wtm_at "hp") (by assumption)
  | exact Ne.symm (ne_of_none (by wtm_at "hp") (by assumption)))
local macro_rules | `(tactic| wtm_at "c") => `(tactic| first
  | omega
  | (unfold CMul; omega)
  | (unfold CDiv; omega)
  | (unfold CPow; omega))
local macro_rules | `(tactic| wtm_at "sz") => `(tactic| first
  | exact sz64 rfl
  | exact (by decide)
  | (show _ ≤ sizeLine; rw [sizeLine_eq]; omega)
  | (show _ < sizeLine; rw [sizeLine_eq]; omega))
local macro_rules | `(tactic| wtm_at "go1") => `(tactic| first
  | with_reducible refine r_seq ?_
  | with_reducible refine r_op ?_
  | ((with_reducible refine' r_var ?rv ?_); (case rv => exact rfl))
  | with_reducible refine r_c ?_
  | with_reducible refine r_asg ?_
  | with_reducible refine r_name ?_
  | with_reducible refine r_i0 ?_
  | ((with_reducible refine' r_i ?rc ?_); (case rc => wtm_at "c"))
  | ((with_reducible refine' r_ixL ?r1 ?r2 ?_); (case r1 => wtm_at "hpL"); (case r2 => first | exact rfl | assumption))
  | ((with_reducible refine' r_ixT ?r1 ?r2 ?_); (case r1 => wtm_at "hpT"); (case r2 => first | exact rfl | assumption))
  | with_reducible refine r_consA ?_
  | with_reducible refine r_nilA ?_
  | with_reducible refine r_call ?_
  | with_reducible refine r_cb ?_
  | with_reducible refine r_test ?_
  | with_reducible refine r_exb ?_
  | ((with_reducible refine r_eq ?rq ?_); (case rq => exact rfl))
  | ((with_reducible refine r_ne ?rq ?_); (case rq => exact rfl))
  | with_reducible refine r_ret ?_
  | with_reducible refine r_if ?_
  | with_reducible refine r_next ?_
  | with_reducible refine r_drop ?_
  | with_reducible refine r_gsub ?_
  | ((with_reducible refine' r_setL ?r1 ?r2 ?_); (case r1 => wtm_at "hp"); (case r2 => exact rfl))
  | with_reducible refine r_b ?_
  | with_reducible refine r_and ?_
  | with_reducible refine r_or ?_
  | with_reducible refine r_not ?_
  | with_reducible refine r_andV ?_
  | with_reducible refine r_orV ?_
  | with_reducible refine r_notV ?_
  | with_reducible refine r_ifE ?_
  | with_reducible refine r_chain ?_
  | with_reducible refine r_u ?_
  | with_reducible refine r_un ?_
  | with_reducible refine r_fld ?_
  | with_reducible refine r_fldS ?_
  | with_reducible refine r_lst ?_
  | with_reducible refine r_tup ?_
  | with_reducible refine r_par ?_
  | with_reducible refine r_par3 ?_
  | with_reducible refine r_retN ?_
  | with_reducible refine r_gcons ?_
  | with_reducible refine r_gnil ?_
  | ((with_reducible refine' r_gtup ?r1 ?r2 ?_); (case r1 => wtm_at "hpT"); (case r2 => exact rfl))
  | with_reducible refine r_bm ?_
  | with_reducible refine r_bm0 ?_
  | with_reducible refine r_lcL ?_
  | with_reducible refine r_foL ?_
  | with_reducible refine r_foR ?_
  | with_reducible refine r_yes ?_
  | ((with_reducible refine' r_wipe ?rw ?_); (case rw => exact rfl))
  | ((with_reducible refine' r_tyL ?r1 ?_); (case r1 => wtm_at "hpL"))
  | ((with_reducible refine' r_append ?r1 ?r2 ?_); (case r1 => wtm_at "hp"); (case r2 => wtm_at "sz"))
  | with_reducible refine r_dput ?_
  | with_reducible refine r_dget ?_
  | with_reducible refine r_dget2 ?_
  | with_reducible refine r_dnew ?_
  | with_reducible refine iteT ?_
  | with_reducible refine iteF ?_
  | with_reducible refine iteNT ?_
  | with_reducible refine iteNF ?_)
local macro_rules | `(tactic| wtm_at "go") => `(tactic| repeat wtm_at "go1")


local macro_rules | `(tactic| wtm_at "go1") => `(tactic| first
  | with_reducible refine e_int1 ?_
  | with_reducible refine e_int2 ?_
  | with_reducible refine e_two ?_
  | ((with_reducible refine' e_lenL ?r1 ?_); (case r1 => wtm_at "hpL"))
  | ((with_reducible refine' e_lenT ?r1 ?_); (case r1 => wtm_at "hpT")))

local macro_rules | `(tactic| wtm_at "go1") => `(tactic| first
  | with_reducible refine r_listRg ?_
  | with_reducible refine r_rg1 ?_
  | with_reducible refine r_exi ?_
  | with_reducible refine r_lcC ?_
  | with_reducible refine r_ev2 ?_
  | with_reducible refine r_revL ?_)
def sp_law_order : Sp := fun vs H Q _ => ∃ (f : Addr) (n : Nat), vs = [.ref f, .int n] ∧ FeedAt H f ∧ n ≤ 6 ∧ ∀ (H' : Hp) (r : Addr) (row : List Int), But f H H' → H r = none → FeedAt H' f → H' r = some (.lst (row.map V.int)) → row.Perm (rowOf n) → Q (.ref r) H'
section
variable {P : Program} {w : World} {K : PySem.W.Frag} {mg : Str → Option Value} {base : Heap} {a : Ad}
theorem sc_law_order : FnScope ["feed", "wide", "row"] ["feed", "wide"] (defScope s_law_order) := ⟨rfl, rfl, rfl, by decide +kernel, rfl, by decide +kernel, by decide +kernel⟩
theorem ok_law_order (T : Txt K mg a) : FnOk P w K mg base CX0 3 a.f_law_order a.d_law_order ["feed", "wide"] (sp_law_order) := by
  refine T.F_law_order.ok sc_law_order (fun vs H Q E h => (by repeat (first | (obtain ⟨rfl, _⟩ := h; rfl) | obtain ⟨_, h⟩ := h))) (fun cdv A outer s H vs Q E hr h => ?_)
  have nd := sc_law_order.nd
  have hu := hr.units
  have hu1 := hu_of hr
  obtain ⟨f, n, rfl, hf, hn, k⟩ := h
  refine ⟨_, (pss_cons (ps_set (i := 2) nd rfl (Or.inl rfl) (L2.pe_listRg rfl (by exact rfl) T.z_list (L2.prg_1 (by exact rfl) T.z_range (pe_call (ok_law_players T) (hr.mono (by decide)) (by exact rfl) T.m_law_players T.F_law_players.kp T.b_law_players .nil pass0 (pa_cons (pv 1) pa_nil)))))
      (pss_one (ps_ret (pe_ix ix_list (pe_lst (pa_cons (pe_call (ok_law_shuffled T) (hr.mono (by decide)) (by exact rfl) T.m_law_shuffled T.F_law_shuffled.kp T.b_law_shuffled .nil pass0 (pa_cons (pv 0) (pa_cons (pv 2) pa_nil))) (pa_cons (pe_call (ok_law_shuffled T) (hr.mono (by decide)) (by exact rfl) T.m_law_shuffled T.F_law_shuffled.kp T.b_law_shuffled .nil pass0 (pa_cons (pv 0) (pa_cons (pv 2) pa_nil))) (pa_cons (pv 2) (pa_cons (pe_revL (pv 2)) pa_nil))))) (pe_call (ok_law_pick T) (hr.mono (by decide)) (by exact rfl) T.m_law_pick T.F_law_pick.kp T.b_law_pick .nil pass0 (pa_cons (pv 0) (pa_cons pe_int pa_nil))) (fun _ _ => rfl))))), ?_⟩
  have hfx := hf
  obtain ⟨_, _, _, hf0⟩ := hfx
  have h64 : (2 : Nat) ^ n ≤ 64 := Nat.pow_le_pow_right (n := 2) (by decide) hn
  wtm_at "go"
  refine ⟨n, rfl, by omega, by omega, fun H1 s1 => ?_⟩
  rw [two_pow_toNat]
  wtm_at "go"
  refine ⟨.of_le (by decide) (Int.le_trans (Int.ofNat_le.mpr h64) (by decide)) (by decide) (Int.natCast_nonneg _), ?_⟩
  rw [rgV_row]
  refine fun o n_o => ?_
  generalize e_H2 : upd _ o _ = H2
  have s_H2 := same_upd n_o e_H2
  have h_o := upd_at e_H2
  clear e_H2
  have hrl : (rowOf n).length ≤ 64 := by unfold rowOf; rw [List.length_map, List.length_range]; exact h64
  have f2 := (hf.ext s1).ext s_H2
  have nof : o ≠ f := Ne.symm (ne_of_none (s1 _ _ hf0) n_o)
  wtm_at "go"
  refine ⟨f, o, (rowOf n).map V.int, rfl, f2, h_o, nof, by rw [List.length_map]; omega, fun H3 r1 w1 b3 nr1 f3 hr1 q1 => ?_⟩
  obtain ⟨row1, rfl, p1⟩ := perm_of_map q1 rfl
  have ho3 := b3 _ _ nof h_o
  wtm_at "go"
  refine ⟨f, o, (rowOf n).map V.int, rfl, f3, ho3, nof, by rw [List.length_map]; omega, fun H4 r2 w2 b4 nr2 f4 hr2 q2 => ?_⟩
  obtain ⟨row2, rfl, p2⟩ := perm_of_map q2 rfl
  have ho4 := b4 _ _ nof ho3
  have hr1f : r1 ≠ f := Ne.symm (ne_of_none (s_H2 _ _ (s1 _ _ hf0)) nr1)
  have hr14 := b4 _ _ hr1f hr1
  wtm_at "go"
  refine ⟨o, _, rfl, .of ho4, fun r3 nr3 => ?_⟩
  generalize e_H5 : upd _ r3 _ = H5
  have s5 := same_upd nr3 e_H5
  have h_r3 := upd_at e_H5
  rw [← List.map_reverse] at h_r3
  wtm_at "go"
  refine ⟨by wtm_at "sz", fun Z n_Z => ?_⟩
  generalize e_H6 : upd _ Z _ = H6
  have s_H6 := same_upd n_Z e_H6
  have h_Z := upd_at e_H6
  clear e_H6
  have s56 := s5.trans s_H6
  obtain ⟨_, _, _, hf4⟩ := id f4
  obtain ⟨_, _, _, hf3⟩ := id f3
  have hr2f : r2 ≠ f := Ne.symm (ne_of_none hf3 nr2)
  have hr3f : r3 ≠ f := Ne.symm (ne_of_none hf4 nr3)
  have hZf : Z ≠ f := Ne.symm (ne_of_none (s5 _ _ hf4) n_Z)
  have s12 := s1.trans s_H2
  have bH3 : But f H H3 := But.trans (Same.but s12) b3
  have bH4 := But.trans bH3 b4
  have bH6 := But.trans bH4 (Same.but s56)
  wtm_at "go"
  refine ⟨f, 4, rfl, f4.ext s56, by decide, by decide, fun H7 d d0 d1 b7 f7 => ?_⟩
  have hZ7 := b7 _ _ hZf h_Z
  have bH7 := But.trans bH6 b7
  have hd : d = 0 ∨ d = 1 ∨ d = 2 ∨ d = 3 := by omega
  rcases hd with rfl | rfl | rfl | rfl
  · wtm_at "go"
    exact k H7 r1 row1 bH7 (s12.free nr1) f7 (b7 _ _ hr1f (s56 _ _ hr14)) p1
  · wtm_at "go"
    exact k H7 r2 row2 bH7 (f3.free bH3 nr2) f7 (b7 _ _ hr2f (s56 _ _ hr2)) p2
  · wtm_at "go"
    exact k H7 o (rowOf n) bH7 (s1.free n_o) f7 (b7 _ _ nof (s56 _ _ ho4)) (.refl _)
  · wtm_at "go"
    exact k H7 r3 (rowOf n).reverse bH7 (f4.free bH4 nr3) f7 (b7 _ _ hr3f (s_H6 _ _ h_r3)) (List.reverse_perm _)
end
end Ct
end
section
set_option Elab.async false
set_option linter.all false
set_option maxRecDepth 100000
set_option maxHeartbeats 8000000
namespace Ct
open PySem PySem.Spec L2 StX

local macro_rules | `(tactic| wtm_at "hp") => `(tactic| first
  | assumption
  | exact (‹Same _ _›) _ _ (by wtm_at "hp")
  | exact (‹But _ _ _›) _ _ (by wtm_at "ne") (by wtm_at "hp"))
local macro_rules | `(tactic| wtm_at "hpL") => `(tactic| first | exact SqL.of (by wtm_at "hp") | assumption)
local macro_rules | `(tactic| wtm_at "hpT") => `(tactic| first | exact SqT.of (by wtm_at "hp") | assumption)
local macro_rules | `(tactic| wtm_at "ne") => `(tactic| first
  | assumption
  | exact Ne.symm (by assumption)
  | exact ne_lst_tup (by wtm_at "hp") (by wtm_at "hp")
  | exact ne_tup_lst (by wtm_at "hp") (by wtm_at "hp")
  | exact ne_of_none (by wtm_at "hp") (by assumption)
  | exact Ne.symm (ne_of_none (by wtm_at "hp") (by assumption)))
local macro_rules | `(tactic| wtm_at "c") => `(tactic| first
  | omega
  | (unfold CMul; omega)
  | (unfold CDiv; omega)
  | (unfold CPow; omega))
local macro_rules | `(tactic| wtm_at "sz") => `(tactic| first
  | exact sz64 rfl
  | exact (by decide)
  | (show _ ≤ sizeLine; rw [sizeLine_eq]; omega)
  | (show _ < sizeLine; rw [sizeLine_eq]; omega))
local macro_rules | `(tactic| wtm_at "go1") => `(tactic| first
  | with_reducible refine r_seq ?_
  | with_reducible refine r_op ?_
  | ((with_reducible refine' r_var ?rv ?_); (case rv => exact rfl))
  | with_reducible refine r_c ?_
  | with_reducible refine r_asg ?_
  | with_reducible refine r_name ?_
  | with_reducible refine r_i0 ?_
  | ((with_reducible refine' r_i ?rc ?_); (case rc => wtm_at "c"))
  | ((with_reducible refine' r_ixL ?r1 ?r2 ?_); (case r1 => wtm_at "hpL"); (case r2 => first | exact rfl | assumption))
  | ((with_reducible refine' r_ixT ?r1 ?r2 ?_); (case r1 => wtm_at "hpT"); (case r2 => first | exact rfl | assumption))
  | with_reducible refine r_consA ?_
  | with_reducible refine r_nilA ?_
  | with_reducible refine r_call ?_
  | with_reducible refine r_cb ?_
  | with_reducible refine r_test ?_
  | with_reducible refine r_exb ?_
  | ((with_reducible refine r_eq ?rq ?_); (case rq => exact rfl))
  | ((with_reducible refine r_ne ?rq ?_); (case rq => exact rfl))
  | with_reducible refine r_ret ?_
  | with_reducible refine r_if ?_
  | with_reducible refine r_next ?_
  | with_reducible refine r_drop ?_
  | with_reducible refine r_gsub ?_
  | ((with_reducible refine' r_setL ?r1 ?r2 ?_); (case r1 => wtm_at "hp"); (case r2 => exact rfl))
  | with_reducible refine r_b ?_
  | with_reducible refine r_and ?_
  | with_reducible refine r_or ?_
  | with_reducible refine r_not ?_
  | with_reducible refine r_andV ?_
  | with_reducible refine r_orV ?_
  | with_reducible refine r_notV ?_
  | with_reducible refine r_ifE ?_
  | with_reducible refine r_chain ?_
  | with_reducible refine r_u ?_
  | with_reducible refine r_un ?_
  | with_reducible refine r_fld ?_
  | with_reducible refine r_fldS ?_
  | with_reducible refine r_lst ?_
  | with_reducible refine r_tup ?_
  | with_reducible refine r_par ?_
  | with_reducible refine r_par3 ?_
  | with_reducible refine r_retN ?_
  | with_reducible refine r_gcons ?_
  | with_reducible refine r_gnil ?_
  | ((with_reducible refine' r_gtup ?r1 ?r2 ?_); (case r1 => wtm_at "hpT"); (case r2 => exact rfl))
  | with_reducible refine r_bm ?_
  | with_reducible refine r_bm0 ?_
  | with_reducible refine r_lcL ?_
  | with_reducible refine r_foL ?_
  | with_reducible refine r_foR ?_
  | with_reducible refine r_yes ?_
  | ((with_reducible refine' r_wipe ?rw ?_); (case rw => exact rfl))
  | ((with_reducible refine' r_tyL ?r1 ?_); (case r1 => wtm_at "hpL"))
  | ((with_reducible refine' r_append ?r1 ?r2 ?_); (case r1 => wtm_at "hp"); (case r2 => wtm_at "sz"))
  | with_reducible refine r_dput ?_
  | with_reducible refine r_dget ?_
  | with_reducible refine r_dget2 ?_
  | with_reducible refine r_dnew ?_
  | with_reducible refine iteT ?_
  | with_reducible refine iteF ?_
  | with_reducible refine iteNT ?_
  | with_reducible refine iteNF ?_)
local macro_rules | `(tactic| wtm_at "go") => `(tactic| repeat wtm_at "go1")


local macro_rules | `(tactic| wtm_at "go1") => `(tactic| first
  | with_reducible refine e_int1 ?_
  | with_reducible refine e_int2 ?_
  | with_reducible refine e_two ?_
  | ((with_reducible refine' e_lenL ?r1 ?_); (case r1 => wtm_at "hpL"))
  | ((with_reducible refine' e_lenT ?r1 ?_); (case r1 => wtm_at "hpT")))

local macro_rules | `(tactic| wtm_at "go1") => `(tactic| first
  | with_reducible refine r_listRg ?_
  | with_reducible refine r_rg1 ?_
  | with_reducible refine r_exi ?_
  | with_reducible refine r_lcC ?_
  | with_reducible refine r_ev2 ?_
  | with_reducible refine r_revL ?_)
def sp_law_played : Sp := fun vs H Q _ => ∃ (o : Addr) (row : List Int) (n : Nat), vs = [.ref o] ∧ H o = some (.lst (row.map V.int)) ∧ n ≤ 6 ∧ row.length = 2 ^ n ∧ row.Nodup ∧ ∀ H' r, Same H H' → H r = none → RL H' r (rdsU n row) → Q (.ref r) H'
section
variable {P : Program} {w : World} {K : PySem.W.Frag} {mg : Str → Option Value} {base : Heap} {a : Ad}
theorem sc_law_played : FnScope ["row", "found", "left", "at"] ["row"] (defScope s_law_played) := ⟨rfl, rfl, rfl, by decide +kernel, rfl, by decide +kernel, by decide +kernel⟩
theorem ok_law_played (T : Txt K mg a) : FnOk P w K mg base CX0 1 a.f_law_played a.d_law_played ["row"] (sp_law_played) := by
  refine T.F_law_played.ok sc_law_played (fun vs H Q E h => (by repeat (first | (obtain ⟨rfl, _⟩ := h; rfl) | obtain ⟨_, h⟩ := h))) (fun cdv A outer s H vs Q E hr h => ?_)
  have nd := sc_law_played.nd
  have hu := hr.units
  have hu1 := hu_of hr
  obtain ⟨o, row, n, rfl, ho, hn, hlen, hnd, k⟩ := h
  refine ⟨_, (pss_cons (ps_asg (pe_tup (pa_cons (pe_lst pa_nil) (pa_cons (pe_callTy call_list_of (by exact rfl) T.z_list (by decide +kernel) (pa_cons (pv 0) pa_nil)) pa_nil))) (pg_tup rfl (pgs_cons (pg_name (i := 1) nd rfl (Or.inl rfl)) (pgs_cons (pg_name (i := 2) nd rfl (Or.inr rfl)) pgs_nil))))
      (pss_cons (ps_while PassesOwn.never (pt_cmpR op_gt (pe_callB call_len_seq (by exact rfl) T.z_len (by decide +kernel) (pa_cons (pv 2) pa_nil)) pe_int (nomark _)) (pss_cons (ps_expr (pe_bm PySem.F.plainAttrs_list PySem.F.slot_list_append PySem.F.type_list_append mt_append (pv 1) (pa_cons (pe_lc (own := [("at", 3)]) rfl nd (L2.pi_range3 (by exact rfl) T.z_range (pa_cons pe_int (pa_cons (pe_callB call_len_seq (by exact rfl) T.z_len (by decide +kernel) (pa_cons (pv 2) pa_nil)) (pa_cons pe_int pa_nil)))) (blkOk_by (own := [("at", 3)]) (N := ["row", "found", "left", "at"]) (sc := defScope s_law_played) (by decide +kernel)) (fun _ _ _ _ _ => (pg_name (i := 3) nd rfl (Or.inl rfl))) (fun _ _ _ _ _ => pts_nil) (fun _ _ _ _ _ => (pe_tup (pa_cons (pe_ix (r := rIxL K) ix_list (pv 2) (pv 3) (fun _ _ => rfl)) (pa_cons (pe_ix (r := rIxL K) ix_list (pv 2) (pe_op op_add (pv 3) pe_int) (fun _ _ => rfl)) pa_nil))))) pa_nil)))
      (pss_one (ps_set (i := 2) nd rfl (Or.inr rfl) (pe_ev2 (pv 2))))))
      (pss_one (ps_ret (pv 1))))), ?_⟩
  wtm_at "go"
  refine ⟨by wtm_at "sz", fun r n_r => ?_⟩
  generalize e_H1 : upd _ r _ = H1
  have s_H1 := same_upd n_r e_H1
  have h_r := upd_at e_H1
  clear e_H1
  wtm_at "go"
  refine fun m n_m => ?_
  generalize e_H2 : upd _ m _ = H2
  have s_H2 := same_upd n_m e_H2
  have h_m := upd_at e_H2
  clear e_H2
  wtm_at "go"
  refine ⟨by wtm_at "sz", fun t n_t => ?_⟩
  generalize e_H3 : upd _ t _ = H3
  have s_H3 := same_upd n_t e_H3
  have h_t := upd_at e_H3
  clear e_H3
  have nrm : r ≠ m := ne_of_none h_r n_m
  have s13 := (s_H1.trans s_H2).trans s_H3
  wtm_at "go"
  refine r_while (fun m σ G => ∃ u p l acc vs, σ = [some (.ref o), some (.ref r), some (.ref p), u] ∧ Same H G ∧ p ≠ r ∧ G p = some (.lst (l.map V.int)) ∧ l.length = 2 ^ m ∧ l.Nodup ∧ G r = some (.lst vs) ∧ Paired (IsL G) vs acc ∧ acc.length + m = n ∧ acc ++ rdsU m l = rdsU n row) n ⟨_, m, row, [], [], rfl, s13, Ne.symm nrm, s_H3 _ _ h_m, hlen, hnd, s_H3 _ _ (s_H2 _ _ h_r), .nil, Nat.zero_add _, rfl⟩ (fun m σ G ⟨u, p, l, acc, vs, e, s, npr, hp, hl, hd, hr, pr, em, er⟩ => ?_)
  subst e
  wtm_at "go"
  refine iteD (fun h1 => ?_) (fun h1 => ?_)
  · cases m with
    | zero => rw [List.length_map, hl] at h1; exact absurd h1 (by decide)
    | succ m =>
      refine ⟨fun σ G => ∃ u p l acc vs, σ = [some (.ref o), some (.ref r), some (.ref p), u] ∧ Same H G ∧ p ≠ r ∧ G p = some (.lst (l.map V.int)) ∧ l.length = 2 ^ m ∧ l.Nodup ∧ G r = some (.lst vs) ∧ Paired (IsL G) vs acc ∧ acc.length + m = n ∧ acc ++ rdsU m l = rdsU n row, fun σ' H' h => ⟨m, Nat.lt_succ_self _, h⟩, ?_⟩
      have hl2 : (pairsOf l).length = 2 ^ m := pairsOf_len (by rw [hl, Nat.pow_succ]; omega)
      have h64 : (2 : Nat) ^ m ≤ 32 := Nat.pow_le_pow_right (n := 2) (by decide) (show m ≤ 5 by omega)
      wtm_at "go"
      rw [List.length_map, hl]
      refine lcC (rg2 (by omega)) (fun i acc G => Prs G acc ((pairsOf l).take i)) (fun _ _ => .nil) (fun i G1 D hi ⟨acc1, hD, ha, s1, nD, e1⟩ => ?_) (fun acc1 G1 D s1 nD hD ha e1 => ?_)
      · have e0 : (0 + (i : Int) * 2) = ((2 * i : Nat) : Int) := by omega
        rw [e0]
        have hl' : l.length = 2 * 2 ^ m := by rw [hl, Nat.pow_succ]; omega
        have j1 : 2 * i < l.length := by omega
        have j2 : 2 * i + 1 < l.length := by omega
        have x1 : l[2 * i]? = some l[2 * i] := List.getElem?_eq_getElem j1
        have x2 : l[2 * i + 1]? = some l[2 * i + 1] := List.getElem?_eq_getElem j2
        have hv1 : atI (l.map V.int) ((2 * i : Nat) : Int) = some (V.int l[2 * i]) := atI_nat (by rw [List.getElem?_map, x1]; rfl)
        have hv2 : atI (l.map V.int) (((2 * i : Nat) : Int) + 1) = some (V.int l[2 * i + 1]) := by
          rw [show (((2 * i : Nat) : Int) + 1) = ((2 * i + 1 : Nat) : Int) by omega]
          exact atI_nat (by rw [List.getElem?_map, x2]; rfl)
        have hp1 := s1 _ _ hp
        wtm_at "go"
        refine ⟨by wtm_at "sz", fun t2 n_t2 => ?_⟩
        generalize e_G3 : upd _ t2 _ = G3
        have s_G3 := same_upd n_t2 e_G3
        have h_t2 := upd_at e_G3
        clear e_G3
        exact lcT hD ha (by have := line_big; omega) s1 nD s_G3 fun H5 b5 hD5 => by
          show Prs H5 _ ((pairsOf l).take (i + 1))
          rw [take_snoc (pairsOf_at x1 x2)]
          exact Prs.app (b5.prs hD5 (Prs.ext e1 s_G3)) (.cons ⟨_, rfl, b5 _ _ (ne_tup_lst h_t2 hD5) h_t2⟩ .nil)
      · rw [← hl2, List.take_length] at e1
        have hr2 := s1 _ _ hr
        have pr2 := isLs_ext pr s1
        have hvs := Paired.length pr
        wtm_at "go"
        try refine r_append hr2 (by have := line_big; omega) ?_
        refine hold ?_
        generalize e_G3 : upd _ r _ = G3
        have b_G3 := but_upd e_G3
        have h_G3 := upd_at e_G3
        clear e_G3
        have s03 := b_G3.same (s.trans s1) n_r
        have hp3 := b_G3 _ _ npr (s1 _ _ hp)
        have nDr : D ≠ r := Ne.symm (ne_of_none hr nD)
        wtm_at "go"
        refine ⟨p, _, rfl, .of hp3, fun p2 np2 => ?_⟩
        generalize e_G4 : upd _ p2 _ = G4
        have s4 := same_upd np2 e_G4
        have h_p2 := upd_at e_G4
        rw [evens_map] at h_p2
        wtm_at "go"
        refine ⟨_, p2, evens l, acc ++ [pairsOf l], _, rfl, s03.trans s4, Ne.symm (ne_of_none h_G3 np2), h_p2, ?_, (evens_sub l).nodup hd, s4 _ _ h_G3, isLs_app (isLs_ext (isLs_but hr2 b_G3 (fun _ h => h) pr2) s4) (.cons ⟨D, rfl, acc1, s4 _ _ (b_G3 _ _ nDr hD), Prs.ext (b_G3.prs hr2 e1) s4⟩ .nil), ?_, ?_⟩
        · rw [evens_len, hl, Nat.pow_succ]
          omega
        · rw [List.length_append]
          show acc.length + 1 + m = n
          omega
        · rw [List.append_assoc]
          exact er
  · cases m with
    | zero =>
      wtm_at "go"
      have er' : acc = rdsU n row := by rw [← er]; exact (List.append_nil acc).symm
      exact k G r s n_r ⟨vs, hr, er' ▸ pr⟩
    | succ m =>
      rw [List.length_map, hl] at h1
      have := Nat.one_le_two_pow (n := m)
      rw [Nat.pow_succ] at h1
      omega
end
end Ct
end
section
set_option Elab.async false
set_option linter.all false
set_option maxRecDepth 100000
set_option maxHeartbeats 8000000
namespace Ct
open PySem PySem.Spec L2 StX

local macro_rules | `(tactic| wtm_at "hp") => `(tactic| first
  | assumption
  | exact (‹Same _ _›) _ _ (by wtm_at "hp")
  | exact (‹But _ _ _›) _ _ (by wtm_at "ne") (by wtm_at "hp"))
local macro_rules | `(tactic| wtm_at "hpL") => `(tactic| first | exact SqL.of (by wtm_at "hp") | assumption)
local macro_rules | `(tactic| wtm_at "hpT") => `(tactic| first | exact SqT.of (by wtm_at "hp") | assumption)
local macro_rules | `(tactic| wtm_at "ne") => `(tactic| first
  | assumption
  | exact Ne.symm (by assumption)
  | exact ne_lst_tup (by wtm_at "hp") (by wtm_at "hp")
  | exact ne_tup_lst (by wtm_at "hp") (by wtm_at "hp")
  | exact ne_of_none (by wtm_at "hp") (by assumption)
  | exact Ne.symm (ne_of_none (by wtm_at "hp") (by assumption)))
local macro_rules | `(tactic| wtm_at "c") => `(tactic| first
  | omega
  | (unfold CMul; omega)
  | (unfold CDiv; omega)
  | (unfold CPow; omega))
local macro_rules | `(tactic| wtm_at "sz") => `(tactic| first
  | exact sz64 rfl
  | exact (by decide)
  | (show _ ≤ sizeLine; rw [sizeLine_eq]; omega)
  | (show _ < sizeLine; rw [sizeLine_eq]; omega))
local macro_rules | `(tactic| wtm_at "go1") => `(tactic| first
  | with_reducible refine r_seq ?_
  | with_reducible refine r_op ?_
  | ((with_reducible refine' r_var ?rv ?_); (case rv => exact rfl))
  | with_reducible refine r_c ?_
  | with_reducible refine r_asg ?_
  | with_reducible refine r_name ?_
  | with_reducible refine r_i0 ?_
  | ((with_reducible refine' r_i ?rc ?_); (case rc => wtm_at "c"))
  | ((with_reducible refine' r_ixL ?r1 ?r2 ?_); (case r1 => wtm_at "hpL"); (case r2 => first | exact rfl | assumption))
  | ((with_reducible refine' r_ixT ?r1 ?r2 ?_); (case r1 => wtm_at "hpT"); (case r2 => first | exact rfl | assumption))
  | with_reducible refine r_consA ?_
  | with_reducible refine r_nilA ?_
  | with_reducible refine r_call ?_
  | with_reducible refine r_cb ?_
  | with_reducible refine r_test ?_
  | with_reducible refine r_exb ?_
  | ((with_reducible refine r_eq ?rq ?_); (case rq => exact rfl))
  | ((with_reducible refine r_ne ?rq ?_); (case rq => exact rfl))
  | with_reducible refine r_ret ?_
  | with_reducible refine r_if ?_
  | with_reducible refine r_next ?_
  | with_reducible refine r_drop ?_
  | with_reducible refine r_gsub ?_
  | ((with_reducible refine' r_setL ?r1 ?r2 ?_); (case r1 => wtm_at "hp"); (case r2 => exact rfl))
  | with_reducible refine r_b ?_
  | with_reducible refine r_and ?_
  | with_reducible refine r_or ?_
  | with_reducible refine r_not ?_
  | with_reducible refine r_andV ?_
  | with_reducible refine r_orV ?_
  | with_reducible refine r_notV ?_
  | with_reducible refine r_ifE ?_
  | with_reducible refine r_chain ?_
  | with_reducible refine r_u ?_
  | with_reducible refine r_un ?_
  | with_reducible refine r_fld ?_
  | with_reducible refine r_fldS ?_
  | with_reducible refine r_lst ?_
  | with_reducible refine r_tup ?_
  | with_reducible refine r_par ?_
  | with_reducible refine r_par3 ?_
  | with_reducible refine r_retN ?_
  | with_reducible refine r_gcons ?_
  | with_reducible refine r_gnil ?_
  | ((with_reducible refine' r_gtup ?r1 ?r2 ?_); (case r1 => wtm_at "hpT"); (case r2 => exact rfl))
  | with_reducible refine r_bm ?_
  | with_reducible refine r_bm0 ?_
  | with_reducible refine r_lcL ?_
  | with_reducible refine r_foL ?_
  | with_reducible refine r_foR ?_
  | with_reducible refine r_yes ?_
  | ((with_reducible refine' r_wipe ?rw ?_); (case rw => exact rfl))
  | ((with_reducible refine' r_tyL ?r1 ?_); (case r1 => wtm_at "hpL"))
  | ((with_reducible refine' r_append ?r1 ?r2 ?_); (case r1 => wtm_at "hp"); (case r2 => wtm_at "sz"))
  | with_reducible refine r_dput ?_
  | with_reducible refine r_dget ?_
  | with_reducible refine r_dget2 ?_
  | with_reducible refine r_dnew ?_
  | with_reducible refine iteT ?_
  | with_reducible refine iteF ?_
  | with_reducible refine iteNT ?_
  | with_reducible refine iteNF ?_)
local macro_rules | `(tactic| wtm_at "go") => `(tactic| repeat wtm_at "go1")


local macro_rules | `(tactic| wtm_at "go1") => `(tactic| first
  | with_reducible refine e_int1 ?_
  | with_reducible refine e_int2 ?_
  | with_reducible refine e_two ?_
  | ((with_reducible refine' e_lenL ?r1 ?_); (case r1 => wtm_at "hpL"))
  | ((with_reducible refine' e_lenT ?r1 ?_); (case r1 => wtm_at "hpT")))

local macro_rules | `(tactic| wtm_at "go1") => `(tactic| first
  | with_reducible refine g_then ?_
  | with_reducible refine g_nil ?_
  | with_reducible refine g_plain ?_
  | with_reducible refine r_fgL ?_)
def sp_Cup_matches (a : Ad) : SpG := fun vs H Q _ => ∃ (c o r q b : Addr) (row : List Int) (n : Nat), vs = [.ref c] ∧ CupR a.C_Cup H c o r q b row n ∧ n ≤ 6 ∧ row.length = 2 ^ n ∧ ∀ out, Prs H out (rds n row).flatten → Q out H
section
variable {P : Program} {w : World} {K : PySem.W.Frag} {mg : Str → Option Value} {base : Heap} {a : Ad}
theorem sc_Cup_matches : GScope ["self", "stage", "pair"] ["self"] (defScope s_Cup_matches) := ⟨rfl, rfl, rfl, by decide +kernel, rfl, by decide +kernel, by decide +kernel⟩
theorem ok_Cup_matches (T : Txt K mg a) : GFn P w K mg base 1 a.f_Cup_matches a.d_Cup_matches ["self"] ((sp_Cup_matches a)) := by
  refine T.F_Cup_matches.gfn sc_Cup_matches (fun vs H Q E h => (by repeat (first | (obtain ⟨rfl, _⟩ := h; rfl) | obtain ⟨_, h⟩ := h))) (fun cdv A outer s H vs Q E pn hr h => ?_)
  have nd := sc_Cup_matches.nd
  have hu := hr.units
  have hu1 := hu_of hr
  obtain ⟨c, o, r, q, b, row, n, rfl, hC, hn, hlen, k⟩ := h
  refine ⟨_, (gss_cons (gs_for owns_gcx rfl (pi_list (pe_fld (pv 0) rfl)) (pg_name (i := 1) nd rfl (Or.inl rfl))
      (gss_cons (gs_for owns_gcx rfl (pi_list (pv 1)) (pg_name (i := 2) nd rfl (Or.inl rfl))
      (gss_cons (gs_yield (pv 2))
      gss_nil))
      gss_nil))
      gss_nil), ?_⟩
  obtain ⟨dx, fs, e1, e2, e3, e4, e5, e6, e7⟩ := id hC.at_
  obtain ⟨rv, hrv, prv⟩ := hC.rnd
  have hrl : rv.length = n := (Paired.length prv).trans (rds_len n row)
  wtm_at "go"
  refine ⟨c, _, dx, fs, _, rfl, e1, T.cl_Cup, T.n_Cup__rounds, e3, ?_⟩
  have h64 : (2 : Nat) ^ n ≤ 64 := Nat.pow_le_pow_right (n := 2) (by decide) hn
  refine fgL (xs := rv) (SqL.of hrv) (fun i ys σ G => G = H ∧ (∃ u v, σ = [some (.ref c), u, v]) ∧ Prs H ys ((rds n row).take i).flatten) ⟨rfl, ⟨_, _, rfl⟩, .nil⟩ (fun i ys σ G _ ⟨z, _⟩ => by subst z; exact SqL.of hrv) (fun i x ys σ G hi hx ⟨z, ⟨u, v, e⟩, py⟩ => ?_) (fun ys σ G ⟨z, ⟨u, v, e⟩, py⟩ => ?_)
  · subst e; subst z
    obtain ⟨ps, hps, y, rfl, xs, hxs, pxs⟩ := isLs_get prv hx
    have hxl := pxs.length
    wtm_at "go"
    refine fgL (xs := xs) (SqL.of hxs) (fun j ys σ G' => G' = G ∧ (∃ u v, σ = [some (.ref c), u, v]) ∧ Prs G ys (((rds n row).take i).flatten ++ ps.take j)) ⟨rfl, ⟨_, _, rfl⟩, by rw [List.take_zero, List.append_nil]; exact py⟩ (fun i ys σ G _ ⟨z, _⟩ => by subst z; exact SqL.of hxs) (fun j x ys σ G' hj hxj ⟨z, ⟨u, v, e⟩, py⟩ => ?_) (fun ys σ G' ⟨z, ⟨u, v, e⟩, py⟩ => ?_)
    · subst e; subst z
      obtain ⟨p, hpj, ip⟩ := pxs.get hxj
      have hyl := py.length
      have hlps := rds_le (List.mem_of_getElem? hps)
      have hfl := flat_le (L := row.length) (pss := (rds n row).take i) fun q hq => rds_le (List.mem_of_mem_take hq)
      have htk : ((rds n row).take i).length ≤ n := by rw [List.length_take, rds_len]; exact Nat.min_le_right _ _
      have hmul : ((rds n row).take i).length * row.length ≤ 6 * 64 := Nat.mul_le_mul (by omega) (by omega)
      rw [List.length_append, List.length_take] at hyl
      wtm_at "go"
      refine g_yield (by rw [sizeLine_eq]; omega) ?_
      wtm_at "go"
      refine ⟨rfl, ⟨_, _, rfl⟩, ?_⟩
      rw [take_snoc hpj, ← List.append_assoc]
      exact Prs.app py (.cons ip .nil)
    · subst z
      rw [hxl, List.take_length] at py
      wtm_at "go"
      refine ⟨rfl, ⟨_, _, e⟩, ?_⟩
      rw [take_snoc hps, List.flatten_append]
      show Prs _ ys (_ ++ (ps ++ []))
      rw [List.append_nil]
      exact py
  · subst z
    rw [Paired.length prv, List.take_length] at py
    wtm_at "go"
    exact k ys py
end
end Ct
end
section
set_option Elab.async false
set_option linter.all false
set_option maxRecDepth 100000
set_option maxHeartbeats 8000000
namespace Ct
open PySem PySem.Spec L2 StX

local macro_rules | `(tactic| wtm_at "hp") => `(tactic| first
  | assumption
  | exact (‹Same _ _›) _ _ (by wtm_at "hp")
  | exact (‹But _ _ _›) _ _ (by wtm_at "ne") (by wtm_at "hp"))
local macro_rules | `(tactic| wtm_at "hpL") => `(tactic| first | exact SqL.of (by wtm_at "hp") | assumption)
local macro_rules | `(tactic| wtm_at "hpT") => `(tactic| first | exact SqT.of (by wtm_at "hp") | assumption)
local macro_rules | `(tactic| wtm_at "ne") => `(tactic| first
  | assumption
  | exact Ne.symm (by assumption)
  | exact ne_lst_tup (by wtm_at "hp") (by wtm_at "hp")
  | exact ne_tup_lst (by wtm_at "hp") (by wtm_at "hp")
  | exact ne_of_none (by wtm_at "hp") (by assumption)
  | exact Ne.symm (ne_of_none (by wtm_at "hp") (by assumption)))
local macro_rules | `(tactic| wtm_at "c") => `(tactic| first
  | omega
  | (unfold CMul; omega)
  | (unfold CDiv; omega)
  | (unfold CPow; omega))
local macro_rules | `(tactic| wtm_at "sz") => `(tactic| first
  | exact sz64 rfl
  | exact (by decide)
  | (show _ ≤ sizeLine; rw [sizeLine_eq]; omega)
  | (show _ < sizeLine; rw [sizeLine_eq]; omega))
local macro_rules | `(tactic| wtm_at "go1") => `(tactic| first
  | with_reducible refine r_seq ?_
  | with_reducible refine r_op ?_
  | ((with_reducible refine' r_var ?rv ?_); (case rv => exact rfl))
  | with_reducible refine r_c ?_
  | with_reducible refine r_asg ?_
  | with_reducible refine r_name ?_
  | with_reducible refine r_i0 ?_
  | ((with_reducible refine' r_i ?rc ?_); (case rc => wtm_at "c"))
  | ((with_reducible refine' r_ixL ?r1 ?r2 ?_); (case r1 => wtm_at "hpL"); (case r2 => first | exact rfl | assumption))
  | ((with_reducible refine' r_ixT ?r1 ?r2 ?_); (case r1 => wtm_at "hpT"); (case r2 => first | exact rfl | assumption))
  | with_reducible refine r_consA ?_
  | with_reducible refine r_nilA ?_
  | with_reducible refine r_call ?_
  | with_reducible refine r_cb ?_
  | with_reducible refine r_test ?_
  | with_reducible refine r_exb ?_
  | ((with_reducible refine r_eq ?rq ?_); (case rq => exact rfl))
  | ((with_reducible refine r_ne ?rq ?_); (case rq => exact rfl))
  | with_reducible refine r_ret ?_
  | with_reducible refine r_if ?_
  | with_reducible refine r_next ?_
  | with_reducible refine r_drop ?_
  | with_reducible refine r_gsub ?_
  | ((with_reducible refine' r_setL ?r1 ?r2 ?_); (case r1 => wtm_at "hp"); (case r2 => exact rfl))
  | with_reducible refine r_b ?_
  | with_reducible refine r_and ?_
  | with_reducible refine r_or ?_
  | with_reducible refine r_not ?_
  | with_reducible refine r_andV ?_
  | with_reducible refine r_orV ?_
  | with_reducible refine r_notV ?_
  | with_reducible refine r_ifE ?_
  | with_reducible refine r_chain ?_
  | with_reducible refine r_u ?_
  | with_reducible refine r_un ?_
  | with_reducible refine r_fld ?_
  | with_reducible refine r_fldS ?_
  | with_reducible refine r_lst ?_
  | with_reducible refine r_tup ?_
  | with_reducible refine r_par ?_
  | with_reducible refine r_par3 ?_
  | with_reducible refine r_retN ?_
  | with_reducible refine r_gcons ?_
  | with_reducible refine r_gnil ?_
  | ((with_reducible refine' r_gtup ?r1 ?r2 ?_); (case r1 => wtm_at "hpT"); (case r2 => exact rfl))
  | with_reducible refine r_bm ?_
  | with_reducible refine r_bm0 ?_
  | with_reducible refine r_lcL ?_
  | with_reducible refine r_foL ?_
  | with_reducible refine r_foR ?_
  | with_reducible refine r_yes ?_
  | ((with_reducible refine' r_wipe ?rw ?_); (case rw => exact rfl))
  | ((with_reducible refine' r_tyL ?r1 ?_); (case r1 => wtm_at "hpL"))
  | ((with_reducible refine' r_append ?r1 ?r2 ?_); (case r1 => wtm_at "hp"); (case r2 => wtm_at "sz"))
  | with_reducible refine r_dput ?_
  | with_reducible refine r_dget ?_
  | with_reducible refine r_dget2 ?_
  | with_reducible refine r_dnew ?_
  | with_reducible refine iteT ?_
  | with_reducible refine iteF ?_
  | with_reducible refine iteNT ?_
  | with_reducible refine iteNF ?_)
local macro_rules | `(tactic| wtm_at "go") => `(tactic| repeat wtm_at "go1")


local macro_rules | `(tactic| wtm_at "go1") => `(tactic| first
  | with_reducible refine e_int1 ?_
  | with_reducible refine e_int2 ?_
  | with_reducible refine e_two ?_
  | ((with_reducible refine' e_lenL ?r1 ?_); (case r1 => wtm_at "hpL"))
  | ((with_reducible refine' e_lenT ?r1 ?_); (case r1 => wtm_at "hpT")))

theorem r_listG {tg : TGen} {σ : L2.St} {H : Hp} {Q : VK} (h : tg σ H fun out H2 => ∀ p, H2 p = none → Q (.ref p) (upd H2 p (.lst out))) : tListG tg σ H Q := h
theorem r_methG {C : Addr} {m : Str} {sp : SpG} {dvs : List V} {E : XK} {ta : TE} {σ : L2.St} {H : Hp} {Q : List V → Hp → Prop} (h : ta σ H fun x H1 => ∃ a dx fs, x = .ref a ∧ H1 a = some (.ins C dx fs) ∧ fs.lookup m = none ∧ sp (x :: ([] ++ dvs)) H1 Q E) : tMethG C m sp dvs E ta tNil σ H Q := h
local macro_rules | `(tactic| wtm_at "go1") => `(tactic| first
  | with_reducible refine r_prop ?_
  | with_reducible refine r_make ?_
  | with_reducible refine r_listG ?_
  | with_reducible refine r_methG ?_)
theorem row_len {n : Nat} {row : List Int} (hp : row.Perm (rowOf n)) : row.length = 2 ^ n := by rw [hp.length_eq]; unfold rowOf; rw [List.length_map, List.length_range]
theorem row_nd {n : Nat} {row : List Int} (hp : row.Perm (rowOf n)) : row.Nodup := hp.nodup_iff.mpr (rowOf_nodup n)
theorem flatU_len : ∀ (n : Nat) {l : List Int}, l.length = 2 ^ n → (rdsU n l).flatten.length + 1 = 2 ^ n
  | 0, _, _ => rfl
  | n + 1, l, h => by
    have e1 : (pairsOf l).length = 2 ^ n := pairsOf_len (by rw [h, Nat.pow_succ]; omega)
    have e2 : (evens l).length = 2 ^ n := by rw [evens_len, h, Nat.pow_succ]; omega
    have := flatU_len n e2
    show (pairsOf l ++ (rdsU n (evens l)).flatten).length + 1 = 2 ^ (n + 1)
    rw [List.length_append, e1, Nat.pow_succ]
    omega
theorem ms_ne {n : Nat} {row : List Int} (d : row.Nodup) (e : row.length = 2 ^ n) {p : P2} (h : p ∈ (rds n row).flatten) : p.1 ≠ p.2 := fun z => by
  obtain ⟨i, ps, h1, h2⟩ := (ms_mem d p).mp h
  have := ms_beat d e h1 h2
  rw [z] at this
  omega
theorem ms_res {n : Nat} {row : List Int} (hp : row.Perm (rowOf n)) : ∀ p ∈ (rds n row).flatten, isRes (n : Nat) p = true := fun p h => by
  have h' := h
  obtain ⟨ps, h1, h2⟩ := List.mem_flatten.mp h
  obtain ⟨m1, m2⟩ := rds_mem h1 p h2
  have k1 := rowOf_mem.mp (hp.mem_iff.mp m1)
  have k2 := rowOf_mem.mp (hp.mem_iff.mp m2)
  exact isRes_of (two_pow_toNat n) k1.1 k1.2 k2.1 k2.2 (ms_ne (row_nd hp) (row_len hp) h')
theorem ms_nd {n : Nat} {row : List Int} (d : row.Nodup) : (rds n row).flatten.Nodup := List.Pairwise.of_map (·.2) (fun a b h z => h (congrArg _ z)) (ms_losers d)
theorem ms_len {n : Nat} {row : List Int} (hp : row.Perm (rowOf n)) : (rds n row).flatten.length + 1 = 2 ^ n := by
  rw [(ms_perm (row_nd hp)).length_eq]
  exact flatU_len n (row_len hp)
theorem gcl_nil : gcl [] = [] := rfl
def sp_Cup_talk (a : Ad) : Sp := fun vs H Q _ => ∃ (c o r q b : Addr) (row : List Int) (n : Nat), vs = [.ref c] ∧ CupR a.C_Cup H c o r q b row n ∧ n ≤ 6 ∧ row.Perm (rowOf n) ∧ ∀ H' t r1 c1, Same H H' → H t = none → H r1 = none → H c1 = none → TalkR a.C_Talk H' t r1 c1 (n : Nat) (pset (rds n row).flatten) [] → Q (.ref t) H'
section
variable {P : Program} {w : World} {K : PySem.W.Frag} {mg : Str → Option Value} {base : Heap} {a : Ad}
theorem sc_Cup_talk : FnScope ["self"] ["self"] (defScope s_Cup_talk) := ⟨rfl, rfl, rfl, by decide +kernel, rfl, by decide +kernel, by decide +kernel⟩
theorem ok_Cup_talk (T : Txt K mg a) : FnOk P w K mg base CX0 7 a.f_Cup_talk a.d_Cup_talk ["self"] ((sp_Cup_talk a)) := by
  refine T.F_Cup_talk.ok sc_Cup_talk (fun vs H Q E h => (by repeat (first | (obtain ⟨rfl, _⟩ := h; rfl) | obtain ⟨_, h⟩ := h))) (fun cdv A outer s H vs Q E hr h => ?_)
  have nd := sc_Cup_talk.nd
  have hu := hr.units
  have hu1 := hu_of hr
  obtain ⟨c, o, r, q, b, row, n, rfl, hC, hn, hp, k⟩ := h
  refine ⟨_, (pss_one (ps_ret (pe_make T.M_Talk (ok_Talk___init__ T) (hr.mono (by decide)) (by exact rfl) T.mC_Talk T.b_Talk___init__ .nil pass0 (pa_cons (pe_prop (pv 0) T.cl_Cup T.pr_Cup_size (ok_Cup_size T) (hr.mono (by decide)) T.b_Cup_size .nil pass0 rfl) (pa_cons (pe_listG (pgen_meth0 (pv 0) T.cl_Cup T.me_Cup_matches (ok_Cup_matches T) (hr.mono (by decide)) T.b_Cup_matches .nil) passG noStop0 (hr.mono (by decide)) (by exact rfl) T.z_list (by decide +kernel)) (pa_cons (pe_lst pa_nil) pa_nil)))))), ?_⟩
  obtain ⟨dx, fs, e1, e2, e3, e4, e5, e6, e7⟩ := id hC.at_
  have h64 : (2 : Nat) ^ n ≤ 64 := Nat.pow_le_pow_right (n := 2) (by decide) hn
  have hml := ms_len hp
  wtm_at "go"
  refine ⟨c, dx, fs, rfl, e1, c, o, r, q, b, row, n, rfl, hC, ?_⟩
  wtm_at "go"
  refine ⟨c, dx, fs, rfl, e1, e7 _ (by decide) (by decide) (by decide) (by decide), ?_⟩
  refine ⟨c, o, r, q, b, row, n, rfl, hC, hn, row_len hp, fun out ho => ?_⟩
  intro l nl
  generalize e_H1 : upd _ l _ = H1
  have s1 := same_upd nl e_H1
  have h_l := upd_at e_H1
  clear e_H1
  wtm_at "go"
  refine ⟨by wtm_at "sz", fun m n_m => ?_⟩
  generalize e_H2 : upd _ m _ = H2
  have s_H2 := same_upd n_m e_H2
  have h_m := upd_at e_H2
  clear e_H2
  wtm_at "go"
  refine fun t dt nt nd' ndt => ?_
  have s12 := s1.trans s_H2
  have up := made_up (o := .own t) (o' := .ins a.C_Talk dt []) nt nd'
  refine ⟨t, dt, l, m, (n : Nat), (rds n row).flatten, [], rfl, upd_same, ⟨out, up _ _ (s_H2 _ _ h_l), ho.ext (s12.trans up)⟩, ⟨[], up _ _ h_m, .nil⟩, by omega, by decide, Int.natCast_nonneg _, by omega, ms_res hp, (fun p h => by cases h), fun H' r1 c1 b1 n1 n2 R => ⟨rfl, ?_⟩⟩
  wtm_at "go"
  exact k H' t r1 c1 (s12.trans (made_same nt nd' b1)) (s12.free nt) (s12.free (made_free nt nd' n1)) (s12.free (made_free nt nd' n2)) R
end
end Ct
end
section
set_option Elab.async false
set_option linter.all false
set_option maxRecDepth 100000
set_option maxHeartbeats 8000000
namespace Ct
open PySem PySem.Spec L2 StX
theorem pml_of : ∀ {as bs : List (List P2)}, as.length = bs.length → (∀ (i : Nat) (x y : List P2), as[i]? = some x → bs[i]? = some y → x.Perm y) → PmL as bs
  | [], [], _, _ => .nil
  | [], _ :: _, h, _ => by cases h
  | _ :: _, [], h, _ => by cases h
  | x :: as, y :: bs, h, k => .cons (k 0 x y rfl rfl) (pml_of (Nat.succ.inj h) fun i u v e1 e2 => k (i + 1) u v e1 e2)
/-- two cups with the same matches have one order -/
theorem det {n : Nat} {row row' : List Int} (hp : row.Perm (rowOf n)) (hp' : row'.Perm (rowOf n)) (h : ∀ p : P2, p ∈ (rds n row).flatten ↔ p ∈ (rds n row').flatten) : row = row' := by
  have d := row_nd hp
  have d' := row_nd hp'
  have e := row_len hp
  have e' := row_len hp'
  have fp : (rds n row).flatten.Perm (rds n row').flatten := (List.perm_ext_iff_of_nodup (ms_nd d) (ms_nd d')).mpr h
  have pm : PmL (rdsU n row') (rdsU n row) := by
    refine pml_of (by rw [rdsU_len, rdsU_len]) fun i x y e1 e2 => ?_
    refine (List.perm_ext_iff_of_nodup (rdsU_nodup d' (List.mem_of_getElem? e1)) (rdsU_nodup d (List.mem_of_getElem? e2))).mpr fun p => ⟨fun hx => ?_, fun hy => ?_⟩
    · have m := (h p).mpr ((ms_mem d' p).mpr ⟨i, x, e1, hx⟩)
      obtain ⟨j, ps, e3, m3⟩ := (ms_mem d p).mp m
      have b1 := (ms_beat d' e' e1 hx).1
      have b2 := (ms_beat d e e3 m3).1
      rw [beat_perm fp p.2, b1] at b2
      subst b2
      rw [e2] at e3
      cases e3
      exact m3
    · have m := (h p).mp ((ms_mem d p).mpr ⟨i, y, e2, hy⟩)
      obtain ⟨j, ps, e3, m3⟩ := (ms_mem d' p).mp m
      have b1 := (ms_beat d e e2 hy).1
      have b2 := (ms_beat d' e' e3 m3).1
      rw [← beat_perm fp p.2, b1] at b2
      subst b2
      rw [e1] at e3
      cases e3
      exact m3
  have pm' : PmL (rdsU n row') (rdsU n row') := pml_of rfl fun i x y e1 e2 => by rw [e1] at e2; cases e2; exact .refl _
  have h1n := Nat.one_le_two_pow (n := n)
  obtain ⟨c, hc⟩ : ∃ c, row[0]? = some c := ⟨_, List.getElem?_eq_getElem (by omega)⟩
  obtain ⟨c', hc'⟩ : ∃ c, row'[0]? = some c := ⟨_, List.getElem?_eq_getElem (by omega)⟩
  obtain ⟨r1, r2⟩ := rnd_order pm d e hc
  obtain ⟨r1', r2'⟩ := rnd_order pm' d' e' hc'
  by_cases z : c' = c
  · subst z
    exact r1.symm.trans r1'
  · have mc : c' ∈ row := hp.mem_iff.mpr (hp'.mem_iff.mp (List.mem_of_getElem? hc'))
    have := r2 c' mc z
    rw [r1'] at this
    omega
theorem pset_len_nd {l : List P2} (d : l.Nodup) : (pset l).length = l.length := by
  rw [← psort_nodup d]
  exact (psort_perm l).length_eq
theorem det_iff {n : Nat} {row row' : List Int} (hp : row.Perm (rowOf n)) (hp' : row'.Perm (rowOf n)) : (pset (rds n row).flatten = pset (rds n row').flatten) ↔ row = row' :=
  ⟨fun h => det hp hp' fun p => by rw [← mem_pset, h, mem_pset], fun h => by rw [h]⟩
theorem ms_sm {n : Nat} {row : List Int} (hn : n ≤ 6) (hp : row.Perm (rowOf n)) : ∀ p ∈ (rds n row).flatten, Sm p := fun p h => sm_of_isRes (Int.natCast_nonneg _) (by omega) (ms_res hp p h)
theorem pset_flat {n : Nat} {row : List Int} (d : row.Nodup) : pset (rdsU n row).flatten = pset (rds n row).flatten := pset_congr fun p => ((ms_perm d).mem_iff (a := p)).symm
theorem psort_flat {n : Nat} {row : List Int} (d : row.Nodup) : psort (rdsU n row).flatten = pset (rds n row).flatten := by
  rw [psort_nodup ((ms_perm d).nodup_iff.mp (ms_nd d)), pset_flat d]
theorem three_shows {ps : List P2} {m : Int} (hp : ∀ p ∈ ps, Sm p) (h1 : ps.length ≤ 1000) (m0 : 0 ≤ m) (m1 : m < 64) : ShowsD (.list [dL ps, dL [], .int m]) := by
  refine ⟨?_, ?_, ?_, PyData.shown_fits (B := 8) (by decide) (by decide) ?_ ?_⟩
  · show ((dL ps).showable && (true && (decide (m.natAbs.log2 < 1920) && true))) = true
    have := small_log m0 m1
    rw [dL_showable hp, decide_eq_true (by omega)]
    rfl
  · show ((dL ps).hasDict || false) = false
    rw [dL_noDict]
    rfl
  · show max (dL ps).depth (max 1 (max 1 0)) + 1 ≤ 60
    have e1 := dL_depth ps
    omega
  · show (PyData.leavesShort 8 (dL ps) && (true && (decide ((PyData.shown (.int m)).length ≤ 8) && true))) = true
    rw [dL_short hp, decide_eq_true (small_show m0 m1)]
    rfl
  · show (dL ps).weight + 1 + ((dL []).weight + 1 + ((PyData.int m).weight + 1 + 0)) ≤ 2 ^ 20
    have e1 := dL_weight hp
    have e2 : (dL []).weight ≤ 0 := dL_weight (ps := []) (fun p h => by cases h)
    have e3 := small_weight m0 m1
    omega
/-- a cup that was made behind H0 -/
structure CB (C : Addr) (H0 G : Hp) (c o r q b : Addr) (row : List Int) (n : Nat) : Prop where
  cr : CupR C G c o r q b row n
  cf : CupF H0 G o r q b
  c0 : H0 c = none
theorem CB.same {C : Addr} {H0 G G' : Hp} {c o r q b : Addr} {row : List Int} {n : Nat} (I : CB C H0 G c o r q b row n) (s : Same G G') : CB C H0 G' c o r q b row n := ⟨I.cr.ext s, I.cf.same I.cr s, I.c0⟩
theorem CB.feed {C f : Addr} {H0 G G' : Hp} {c o r q b : Addr} {row : List Int} {n : Nat} (I : CB C H0 G c o r q b row n) (bf : But f G G') (fd : FeedAt G f) (hf : H0 f ≠ none) : CB C H0 G' c o r q b row n := by
  obtain ⟨_, _, _, hG⟩ := fd
  have nb : ∀ {x}, H0 x = none → x ≠ f := fun h z => hf (z ▸ h)
  have cr := I.cr.frame (S := fun x => x = f) I.cf (fun x u n e => bf x u n e) (nb I.c0) (fun x h => h ▸ hf) (fun x xs h z => by rw [h, hG] at z; cases z)
  obtain ⟨vs, v1, _⟩ := I.cr.rnd
  obtain ⟨as, w1, _⟩ := I.cr.bt.ex
  refine ⟨cr, ⟨I.cf.fo, I.cf.fr, I.cf.fq, I.cf.fb, fun as' e => ?_, fun vs' e => ?_⟩, I.c0⟩
  · rw [bf _ _ (nb I.cf.fb) w1] at e
    exact I.cf.fas as' (w1.trans e)
  · rw [bf _ _ (nb I.cf.fr) v1] at e
    exact I.cf.frs vs' (v1.trans e)
end Ct
end
section
set_option Elab.async false
set_option linter.all false
set_option maxRecDepth 100000
set_option maxHeartbeats 16000000
namespace Ct
open PySem PySem.Spec L2 StX

local macro_rules | `(tactic| wtm_at "hp") => `(tactic| first
  | assumption
  | exact (‹Same _ _›) _ _ (by wtm_at "hp")
  | exact (‹But _ _ _›) _ _ (by wtm_at "ne") (by wtm_at "hp"))
local macro_rules | `(tactic| wtm_at "hpL") => `(tactic| first | exact SqL.of (by wtm_at "hp") | assumption)
local macro_rules | `(tactic| wtm_at "hpT") => `(tactic| first | exact SqT.of (by wtm_at "hp") | assumption)
local macro_rules | `(tactic| wtm_at "ne") => `(tactic| first
  | assumption
  | exact Ne.symm (by assumption)
  | exact ne_lst_tup (by wtm_at "hp") (by wtm_at "hp")
  | exact ne_tup_lst (by wtm_at "hp") (by wtm_at "hp")
  | exact ne_of_none (by wtm_at "hp") (by assumption)
  | exact Ne.symm (ne_of_none (by wtm_at "hp") (by assumption)))
local macro_rules | `(tactic| wtm_at "c") => `(tactic| first
  | omega
  | (unfold CMul; omega)
  | (unfold CDiv; omega)
  | (unfold CPow; omega))
local macro_rules | `(tactic| wtm_at "sz") => `(tactic| first
  | exact sz64 rfl
  | exact (by decide)
  | (show _ ≤ sizeLine; rw [sizeLine_eq]; omega)
  | (show _ < sizeLine; rw [sizeLine_eq]; omega))
local macro_rules | `(tactic| wtm_at "go1") => `(tactic| first
  | with_reducible refine r_seq ?_
  | with_reducible refine r_op ?_
  | ((with_reducible refine' r_var ?rv ?_); (case rv => exact rfl))
  | with_reducible refine r_c ?_
  | with_reducible refine r_asg ?_
  | with_reducible refine r_name ?_
  | with_reducible refine r_i0 ?_
  | ((with_reducible refine' r_i ?rc ?_); (case rc => wtm_at "c"))
  | ((with_reducible refine' r_ixL ?r1 ?r2 ?_); (case r1 => wtm_at "hpL"); (case r2 => first | exact rfl | assumption))
  | ((with_reducible refine' r_ixT ?r1 ?r2 ?_); (case r1 => wtm_at "hpT"); (case r2 => first | exact rfl | assumption))
  | with_reducible refine r_consA ?_
  | with_reducible refine r_nilA ?_
  | with_reducible refine r_call ?_
  | with_reducible refine r_cb ?_
  | with_reducible refine r_test ?_
  | with_reducible refine r_exb ?_
  | ((with_reducible refine r_eq ?rq ?_); (case rq => exact rfl))
  | ((with_reducible refine r_ne ?rq ?_); (case rq => exact rfl))
  | with_reducible refine r_ret ?_
  | with_reducible refine r_if ?_
  | with_reducible refine r_next ?_
  | with_reducible refine r_drop ?_
  | with_reducible refine r_gsub ?_
  | ((with_reducible refine' r_setL ?r1 ?r2 ?_); (case r1 => wtm_at "hp"); (case r2 => exact rfl))
  | with_reducible refine r_b ?_
  | with_reducible refine r_and ?_
  | with_reducible refine r_or ?_
  | with_reducible refine r_not ?_
  | with_reducible refine r_andV ?_
  | with_reducible refine r_orV ?_
  | with_reducible refine r_notV ?_
  | with_reducible refine r_ifE ?_
  | with_reducible refine r_chain ?_
  | with_reducible refine r_u ?_
  | with_reducible refine r_un ?_
  | with_reducible refine r_fld ?_
  | with_reducible refine r_fldS ?_
  | with_reducible refine r_lst ?_
  | with_reducible refine r_tup ?_
  | with_reducible refine r_par ?_
  | with_reducible refine r_par3 ?_
  | with_reducible refine r_retN ?_
  | with_reducible refine r_gcons ?_
  | with_reducible refine r_gnil ?_
  | ((with_reducible refine' r_gtup ?r1 ?r2 ?_); (case r1 => wtm_at "hpT"); (case r2 => exact rfl))
  | with_reducible refine r_bm ?_
  | with_reducible refine r_bm0 ?_
  | with_reducible refine r_lcL ?_
  | with_reducible refine r_foL ?_
  | with_reducible refine r_foR ?_
  | with_reducible refine r_yes ?_
  | ((with_reducible refine' r_wipe ?rw ?_); (case rw => exact rfl))
  | ((with_reducible refine' r_tyL ?r1 ?_); (case r1 => wtm_at "hpL"))
  | ((with_reducible refine' r_append ?r1 ?r2 ?_); (case r1 => wtm_at "hp"); (case r2 => wtm_at "sz"))
  | with_reducible refine r_dput ?_
  | with_reducible refine r_dget ?_
  | with_reducible refine r_dget2 ?_
  | with_reducible refine r_dnew ?_
  | with_reducible refine iteT ?_
  | with_reducible refine iteF ?_
  | with_reducible refine iteNT ?_
  | with_reducible refine iteNF ?_)
local macro_rules | `(tactic| wtm_at "go") => `(tactic| repeat wtm_at "go1")


local macro_rules | `(tactic| wtm_at "go1") => `(tactic| first
  | with_reducible refine e_int1 ?_
  | with_reducible refine e_int2 ?_
  | with_reducible refine e_two ?_
  | ((with_reducible refine' e_lenL ?r1 ?_); (case r1 => wtm_at "hpL"))
  | ((with_reducible refine' e_lenT ?r1 ?_); (case r1 => wtm_at "hpT")))


local macro_rules | `(tactic| wtm_at "go1") => `(tactic| first
  | with_reducible refine r_make ?_
  | with_reducible refine r_makeK ?_
  | with_reducible refine r_prop ?_
  | with_reducible refine r_revL ?_
  | with_reducible refine r_star ?_
  | with_reducible refine r_meth ?_
  | with_reducible refine r_methK ?_
  | ((with_reducible refine' r_clear ?r1 ?_); (case r1 => wtm_at "hp")))

local macro_rules | `(tactic| wtm_at "go1") => `(tactic| first
  | with_reducible refine r_prop ?_
  | with_reducible refine r_make ?_
  | with_reducible refine r_exi ?_
  | with_reducible refine r_revL ?_
  | with_reducible refine r_cmeth ?_)
theorem e_eqO {a : Ad} {H : Hp} {t r c u r1 c1 : Addr} {w : Int} {rs cs ls ms : List P2} {Q : VK} (ht : TalkR a.C_Talk H t r c w rs cs) (hu : TalkR a.C_Talk H u r1 c1 w ls ms) (n1 : rs.length ≤ 10000) (n2 : cs.length ≤ 10000) (n3 : ls.length ≤ 10000) (n4 : ms.length ≤ 10000)
    (k : Q (.bl (decide (rs = ls) && decide (cs = ms))) H) : rEqO a.C_Talk (sp_Talk___eq__ a) (.ref t) (.ref u) H Q := by
  obtain ⟨dx, fs, e1, _⟩ := id ht.at_
  obtain ⟨dy, gs, e2, _⟩ := id hu.at_
  exact ⟨t, u, dx, dy, fs, gs, rfl, rfl, e1, e2, t, r, c, w, rs, cs, u, r1, c1, w, ls, ms, rfl, ht, hu, n1, n2, n3, n4, ⟨_, rfl, by rw [decide_eq_true rfl, Bool.true_and]; exact k⟩⟩
theorem e_eqT {a : Ad} {H : Hp} {t r c u r1 c1 : Addr} {w : Int} {rs cs ls ms : List P2} {Q : VK} (ht : TalkR a.C_Talk H t r c w rs cs) (hu : TalkR a.C_Talk H u r1 c1 w ls ms) (er : rs = ls) (ec : cs = ms) (n1 : rs.length ≤ 10000) (n2 : cs.length ≤ 10000)
    (k : Q (.bl true) H) : rEqO a.C_Talk (sp_Talk___eq__ a) (.ref t) (.ref u) H Q := by
  subst er
  subst ec
  exact e_eqO ht hu n1 n2 n1 n2 (by rw [decide_eq_true rfl, decide_eq_true rfl]; exact k)
theorem r_disp1 {tk tv : TE} {σ : L2.St} {H : Hp} {Q : List (V × V) → Hp → Prop} (h : tk σ H fun x H1 => tv σ H1 fun y H2 => Q [(x, y)] H2) : tPairs [(tk, tv)] σ H Q := h
theorem nf_self {K : PySem.W.Frag} {C : Addr} : PySem.W.notFirst K C (.ref C) = true := by
  unfold PySem.W.notFirst
  rw [beq_self_eq_true]
  rfl
theorem e_eqA {K : PySem.W.Frag} {a : Ad} {H : Hp} {c o r q b c' o' r' q' b' : Addr} {row row' : List Int} {n n' : Nat} {neg : Bool} {Q : VK} (is : Isi K a.C_Cup) (cl : Cls K a.C_Cup) (h : CupR a.C_Cup H c o r q b row n) (h' : CupR a.C_Cup H c' o' r' q' b' row' n') (k : Q (.bl (decide (row = row') != neg)) H) : rEqA K a.C_Cup (sp_Cup___eq__ K a) neg (.ref c) (.ref c') H Q := by
  obtain ⟨dx, fs, e1, _⟩ := id h.at_
  obtain ⟨dy, gs, e2, _⟩ := id h'.at_
  exact ⟨c, dx, fs, _, rfl, e1, is.ty cl e2, nf_self, c, o, r, q, b, row, n, .ref c', rfl, h, .inl ⟨c', o', r', q', b', row', n', rfl, h', ⟨_, rfl, k⟩⟩⟩
theorem e_eqOdd {K : PySem.W.Frag} {a : Ad} {H : Hp} {c o r q b : Addr} {row : List Int} {n : Nat} {neg : Bool} {y : V} {t : Value} {Q : VK} (ot : OT K a.C_Cup t) (h : CupR a.C_Cup H c o r q b row n) (ty : TyX K H y t) (k : Q (.bl (false != neg)) H) : rEqA K a.C_Cup (sp_Cup___eq__ K a) neg (.ref c) y H Q := by
  obtain ⟨dx, fs, e1, _⟩ := id h.at_
  exact ⟨c, dx, fs, t, rfl, e1, ty, ot.nf, c, o, r, q, b, row, n, y, rfl, h, .inr ⟨t, ty, ot.kit, ⟨_, rfl, k⟩⟩⟩
def sp_law_right : Sp := fun vs H Q _ => ∃ (f o : Addr) (row : List Int) (n : Nat), vs = [.ref f, .ref o] ∧ FeedAt H f ∧ H o = some (.lst (row.map V.int)) ∧ o ≠ f ∧ n ≤ 6 ∧ row.Perm (rowOf n) ∧ ∀ (H' : Hp), But f H H' → FeedAt H' f → Q (.bl true) H'
section
variable {P : Program} {w : World} {K : PySem.W.Frag} {mg : Str → Option Value} {base : Heap} {a : Ad}
theorem sc_law_right : FnScope ["feed", "row", "cup_here", "flat", "matches_here", "talk_here", "told", "at", "to", "swapped", "others", "cup_there", "due", "odd", "thing_here"] ["feed", "row"] (defScope s_law_right) := ⟨rfl, rfl, rfl, by decide +kernel, rfl, by decide +kernel, by decide +kernel⟩
theorem ok_law_right (T : Txt K mg a) : FnG P w K mg base 8 a.f_law_right a.d_law_right ["feed", "row"] (sp_law_right) := by
  refine okG T.F_law_right sc_law_right (fun vs H Q E h => (by repeat (first | (obtain ⟨rfl, _⟩ := h; rfl) | obtain ⟨_, h⟩ := h))) (fun cdv A outer s H vs Q E hgd hr h => ?_)
  have nd := sc_law_right.nd
  have hu := hr.units
  have hu1 := hu_of hr
  obtain ⟨f, o, row, n, rfl, hf, ho, nof, hn, hp, k⟩ := h
  refine ⟨_, (pss_cons (ps_asg (pe_tup (pa_cons (pe_make T.M_Cup (ok_Cup___init__ T) (hr.mono (by decide)) (by exact rfl) T.mC_Cup T.b_Cup___init__ .nil pass0 (pa_cons (pv 1) pa_nil)) (pa_cons (pe_lst pa_nil) pa_nil))) (pg_tup rfl (pgs_cons (pg_name (i := 2) nd rfl (Or.inr rfl)) (pgs_cons (pg_name (i := 3) nd rfl (Or.inl rfl)) pgs_nil))))
      (pss_cons (ps_for PassesOwn.never rfl (pi_list (pe_call (ok_law_played T) (hr.mono (by decide)) (by exact rfl) T.m_law_played T.F_law_played.kp T.b_law_played .nil pass0 (pa_cons (pv 1) pa_nil))) (pg_name (i := 4) nd rfl (Or.inl rfl))
      (pss_one (ps_set (i := 3) nd rfl (Or.inl rfl) (pe_op op_cat (pv 3) (pv 4)))))
      (pss_cons (ps_set (i := 5) nd rfl (Or.inl rfl) (pe_meth0 (pv 2) T.cl_Cup T.me_Cup_talk (ok_Cup_talk T) (hr.mono (by decide)) T.b_Cup_talk .nil pass0))
      (pss_cons (ps_if (pt_cmpR op_ne (pe_callB (cr_repr hgd hu) (by exact rfl) T.z_repr (by decide +kernel) (pa_cons (pe_lst (pa_cons (pe_prop (pv 5) T.cl_Talk T.pr_Talk_results (ok_Talk_results T) (hr.mono (by decide)) T.b_Talk_results .nil pass0 rfl) (pa_cons (pe_prop (pv 5) T.cl_Talk T.pr_Talk_claims (ok_Talk_claims T) (hr.mono (by decide)) T.b_Talk_claims .nil pass0 rfl) (pa_cons (pe_callB (call_lenO (ok_Talk___len__ T) T.me_Talk___len__ T.b_Talk___len__ (hr.mono (by decide))) (by exact rfl) T.z_len (by decide +kernel) (pa_cons (pv 5) pa_nil)) pa_nil)))) pa_nil)) (pe_callB (cr_repr hgd hu) (by exact rfl) T.z_repr (by decide +kernel) (pa_cons (pe_lst (pa_cons (pe_callB (cr_sortP hu) (by exact rfl) T.z_sorted (by decide +kernel) (pa_cons (pv 3) pa_nil)) (pa_cons (pe_lst pa_nil) (pa_cons (pe_op op_sub (pe_callB call_len_seq (by exact rfl) T.z_len (by decide +kernel) (pa_cons (pv 1) pa_nil)) pe_int) pa_nil)))) pa_nil)) (nomark _)) (pss_one (ps_ret pe_bl)) pss_nil)
      (pss_cons (ps_if (PW.pt (pw_or (pt_cmpR op_ne (pe_prop (pv 5) T.cl_Talk T.pr_Talk_size (ok_Talk_size T) (hr.mono (by decide)) T.b_Talk_size .nil pass0 rfl) (pe_prop (pv 2) T.cl_Cup T.pr_Cup_size (ok_Cup_size T) (hr.mono (by decide)) T.b_Cup_size .nil pass0 rfl) (nomark _)) (pw_or1 (pt_not (pt_cmpR (op_eqO (ok_Talk___eq__ T) T.me_Talk___eq__ T.b_Talk___eq__ (hr.mono (by decide))) (pv 5) (pe_make T.M_Talk (ok_Talk___init__ T) (hr.mono (by decide)) (by exact rfl) T.mC_Talk T.b_Talk___init__ .nil pass0 (pa_cons (pe_prop (pv 2) T.cl_Cup T.pr_Cup_size (ok_Cup_size T) (hr.mono (by decide)) T.b_Cup_size .nil pass0 rfl) (pa_cons (pv 3) (pa_cons (pe_lst pa_nil) pa_nil)))) (nomark _)))))) (pss_one (ps_ret pe_bl)) pss_nil)
      (pss_cons (ps_set (i := 6) nd rfl (Or.inl rfl) (pe_prop (pe_meth0 (pv 2) T.cl_Cup T.me_Cup_talk (ok_Cup_talk T) (hr.mono (by decide)) T.b_Cup_talk .nil pass0) T.cl_Talk T.pr_Talk_results (ok_Talk_results T) (hr.mono (by decide)) T.b_Talk_results .nil pass0 rfl))
      (pss_cons (ps_expr (pe_bm PySem.F.plainAttrs_list PySem.F.slot_list_append PySem.F.type_list_append mt_append (pv 6) (pa_cons (pe_tup (pa_cons pe_int (pa_cons pe_int pa_nil))) pa_nil)))
      (pss_cons (ps_if (PW.pt (pw_or (pt_cmpR (op_neD hu) (pe_prop (pe_meth0 (pv 2) T.cl_Cup T.me_Cup_talk (ok_Cup_talk T) (hr.mono (by decide)) T.b_Cup_talk .nil pass0) T.cl_Talk T.pr_Talk_results (ok_Talk_results T) (hr.mono (by decide)) T.b_Talk_results .nil pass0 rfl) (pe_callB (cr_sortP hu) (by exact rfl) T.z_sorted (by decide +kernel) (pa_cons (pv 3) pa_nil)) (nomark _)) (pw_or1 (pt_not (pt_cmpR (op_eqA (ok_Cup___eq__ T) T.me_Cup___eq__ T.b_Cup___eq__ (hr.mono (by decide))) (pv 2) (ClX.pe_cmeth (pe_glob (v := .ref a.C_Cup) (by exact rfl) T.mC_Cup rfl) T.cr_Cup T.cm_Cup_of ((ok_Cup_of T).raw T.b_Cup_of .nil) (hr.mono (by decide)) pass0 (pa_cons (pe_meth0 (pv 2) T.cl_Cup T.me_Cup_rounds (ok_Cup_rounds T) (hr.mono (by decide)) T.b_Cup_rounds .nil pass0) pa_nil)) (nomark _)))))) (pss_one (ps_ret pe_bl)) pss_nil)
      (pss_cons (ps_par (i := 7) (j := 8) (by exact rfl) nd rfl rfl (by decide) rfl rfl (pa_cons (pe_call (ok_law_pick T) (hr.mono (by decide)) (by exact rfl) T.m_law_pick T.F_law_pick.kp T.b_law_pick .nil pass0 (pa_cons (pv 0) (pa_cons (pe_callB call_len_seq (by exact rfl) T.z_len (by decide +kernel) (pa_cons (pv 1) pa_nil)) pa_nil))) (pa_cons (pe_call (ok_law_pick T) (hr.mono (by decide)) (by exact rfl) T.m_law_pick T.F_law_pick.kp T.b_law_pick .nil pass0 (pa_cons (pv 0) (pa_cons (pe_callB call_len_seq (by exact rfl) T.z_len (by decide +kernel) (pa_cons (pv 1) pa_nil)) pa_nil))) pa_nil)) (by exact rfl))
      (pss_cons (ps_set (i := 9) nd rfl (Or.inl rfl) (pe_callTy call_list_of (by exact rfl) T.z_list (by decide +kernel) (pa_cons (pv 1) pa_nil)))
      (pss_cons (ps_asg (pe_tup (pa_cons (pe_ix ix_list (pv 1) (pv 8) (fun _ _ => rfl)) (pa_cons (pe_ix ix_list (pv 1) (pv 7) (fun _ _ => rfl)) pa_nil))) (pg_tup rfl (pgs_cons (pg_sub (pv 9) (pv 7) set_list) (pgs_cons (pg_sub (pv 9) (pv 8) set_list) pgs_nil))))
      (pss_cons (ps_for PassesOwn.never rfl (pi_list (pe_lst (pa_cons (pv 9) (pa_cons (pe_call (ok_law_shuffled T) (hr.mono (by decide)) (by exact rfl) T.m_law_shuffled T.F_law_shuffled.kp T.b_law_shuffled .nil pass0 (pa_cons (pv 0) (pa_cons (pv 1) pa_nil))) (pa_cons (pe_revL (pv 1)) (pa_cons (pe_callTy call_list_of (by exact rfl) T.z_list (by decide +kernel) (pa_cons (pv 1) pa_nil)) pa_nil)))))) (pg_name (i := 10) nd rfl (Or.inl rfl))
      (pss_cons (ps_par (i := 11) (j := 12) (by exact rfl) nd rfl rfl (by decide) rfl rfl (pa_cons (pe_make T.M_Cup (ok_Cup___init__ T) (hr.mono (by decide)) (by exact rfl) T.mC_Cup T.b_Cup___init__ .nil pass0 (pa_cons (pv 10) pa_nil)) (pa_cons (pe_cmpR (op_eqD hu) (pv 10) (pv 1) (nomark _)) pa_nil)) (by exact rfl))
      (pss_cons (ps_if (PW.pt (pw_or (pt_cmpR op_ne (pe_cmpR (op_eqA (ok_Cup___eq__ T) T.me_Cup___eq__ T.b_Cup___eq__ (hr.mono (by decide))) (pv 2) (pv 11) (nomark _)) (pv 12) (nomark _)) (pw_or (pt_cmpR op_ne (pe_cmpR (op_eqA (ok_Cup___eq__ T) T.me_Cup___eq__ T.b_Cup___eq__ (hr.mono (by decide))) (pv 11) (pv 2) (nomark _)) (pv 12) (nomark _)) (pw_or1 (pt_cmpR op_eq (pe_cmpR (op_neA (ok_Cup___eq__ T) T.me_Cup___eq__ T.mo_Cup T.ne_Cup T.b_Cup___eq__ (hr.mono (by decide)) hu) (pv 2) (pv 11) (nomark _)) (pv 12) (nomark _)))))) (pss_one (ps_ret pe_bl)) pss_nil)
      (pss_one (ps_if (pt_cmpR op_ne (pe_cmpR (op_eqO (ok_Talk___eq__ T) T.me_Talk___eq__ T.b_Talk___eq__ (hr.mono (by decide))) (pe_meth0 (pv 2) T.cl_Cup T.me_Cup_talk (ok_Cup_talk T) (hr.mono (by decide)) T.b_Cup_talk .nil pass0) (pe_meth0 (pv 11) T.cl_Cup T.me_Cup_talk (ok_Cup_talk T) (hr.mono (by decide)) T.b_Cup_talk .nil pass0) (nomark _)) (pv 12) (nomark _)) (pss_one (ps_ret pe_bl)) pss_nil)))))
      (pss_cons (ps_set (i := 13) nd rfl (Or.inl rfl) (pe_lst (pa_cons pe_non (pa_cons pe_int (pa_cons pe_bl (pa_cons pe_str (pa_cons (pv 1) (pa_cons (pe_callTy call_tuple_of (by exact rfl) T.z_tuple (by decide +kernel) (pa_cons (pv 1) pa_nil)) (pa_cons (pv 5) (pa_cons (pe_meth0 (pv 2) T.cl_Cup T.me_Cup_rounds (ok_Cup_rounds T) (hr.mono (by decide)) T.b_Cup_rounds .nil pass0) (pa_cons (pe_lst (pa_cons (pv 2) pa_nil)) (pa_cons (pe_disp (pps_cons pe_str (pv 2) pps_nil) (by rfl) rfl (by simp) (by decide)) (pa_cons (pe_op op_pow pe_int pe_int) (pa_cons (pe_tup pa_nil) pa_nil))))))))))))))
      (pss_one (ps_ret (pe_cmpR (op_eqD hu) (pe_lc (own := [("thing_here", 14)]) rfl nd (pi_list (pv 13)) (blkOk_by (own := [("thing_here", 14)]) (N := ["feed", "row", "cup_here", "flat", "matches_here", "talk_here", "told", "at", "to", "swapped", "others", "cup_there", "due", "odd", "thing_here"]) (sc := defScope s_law_right) (by decide +kernel)) (fun _ _ _ _ _ => (pg_name (i := 14) nd rfl (Or.inl rfl))) (fun _ _ _ _ _ => (pts_one (PW.pt (pw_or (pt_cmpR (op_eqAK (K := K) rfl (ok_Cup___eq__ T) T.me_Cup___eq__ T.b_Cup___eq__ (hr.mono (by decide))) (pv 2) (pv 14) (nomark _)) (pw_or1 (pt_not (pt_cmpR (op_neAK (K := K) rfl (ok_Cup___eq__ T) T.me_Cup___eq__ T.mo_Cup T.ne_Cup T.b_Cup___eq__ (hr.mono (by decide)) hu) (pv 2) (pv 14) (nomark _)))))))) (fun _ _ _ _ _ => (pv 14))) (pe_lst pa_nil) (nomark _))))))))))))))))), ?_⟩
  have hlen := row_len hp
  have hnd := row_nd hp
  have h64 : (2 : Nat) ^ n ≤ 64 := Nat.pow_le_pow_right (n := 2) (by decide) hn
  have h1n := Nat.one_le_two_pow (n := n)
  obtain ⟨_, _, _, hf0⟩ := id hf
  wtm_at "go"
  refine fun c dx nc nd' _ => ?_
  have up := made_up (o := .own c) (o' := .ins a.C_Cup dx []) nc nd'
  refine ⟨c, dx, o, row, n, rfl, upd_same, up _ _ ho, hn, hlen, hp, fun H1 o1 r1 q1 b1 bb F1 C1 => ⟨rfl, ?_⟩⟩
  have s1 := made_same nc nd' bb
  wtm_at "go"
  refine ⟨by wtm_at "sz", fun m n_m => ?_⟩
  generalize e_H2 : upd _ m _ = H2
  have s_H2 := same_upd n_m e_H2
  have h_m := upd_at e_H2
  clear e_H2
  wtm_at "go"
  refine ⟨by wtm_at "sz", fun t n_t => ?_⟩
  generalize e_H3 : upd _ t _ = H3
  have s_H3 := same_upd n_t e_H3
  have h_t := upd_at e_H3
  clear e_H3
  have s23 := s_H2.trans s_H3
  have s13 := s1.trans s23
  have C3 := C1.ext s23
  have m3 := s_H3 _ _ h_m
  wtm_at "go"
  refine ⟨o, row, n, rfl, s13 _ _ ho, hn, hlen, hnd, fun H4 L s4 nL hL => ?_⟩
  obtain ⟨Lv, hLv, pLv⟩ := id hL
  have hLl : Lv.length = n := (Paired.length pLv).trans (rdsU_len n row)
  have hfl := flatU_len n hlen
  refine foL (xs := Lv) (SqL.of hLv) (fun i σ G => ∃ x u4 u5 u6 u7 u8 u9 u10 u11 u12 u13 u14, σ = [some (.ref f), some (.ref o), some (.ref c), some (.ref x), u4, u5, u6, u7, u8, u9, u10, u11, u12, u13, u14] ∧ Same H4 G ∧ PL G x ((rdsU n row).take i).flatten) ⟨_, _, _, _, _, _, _, _, _, _, _, _, rfl, Same.refl _, [], s4 _ _ m3, .nil⟩ (fun i σ G _ ⟨_, _, _, _, _, _, _, _, _, _, _, _, _, z, _⟩ => SqL.of (z _ _ hLv)) (fun i v σ G hi hv ⟨x, u4, u5, u6, u7, u8, u9, u10, u11, u12, u13, u14, e, s5, px⟩ => ?_) (fun σ G ⟨x, u4, u5, u6, u7, u8, u9, u10, u11, u12, u13, u14, e, s5, px⟩ => ?_)
  · subst e
    obtain ⟨ps, hps, y, rfl, ys, hy, py⟩ := isLs_get pLv hv
    have hlps := rdsU_le (List.mem_of_getElem? hps)
    have hf6 := flat_le (L := row.length) (pss := (rdsU n row).take i) fun q hq => rdsU_le (List.mem_of_mem_take hq)
    have htk : ((rdsU n row).take i).length ≤ n := by rw [List.length_take, rdsU_len]; exact Nat.min_le_right _ _
    have hmul : ((rdsU n row).take i).length * row.length ≤ 6 * 64 := Nat.mul_le_mul (by omega) (by omega)
    wtm_at "go"
    refine e_cat px ⟨ys, s5 _ _ hy, py.ext s5⟩ (by omega) fun G2 x2 s6 nx2 px2 => ?_
    wtm_at "go"
    refine ⟨_, _, _, _, _, _, _, _, _, _, _, _, rfl, s5.trans s6, ?_⟩
    rw [take_snoc hps, List.flatten_append]
    show PL G2 x2 (_ ++ (ps ++ []))
    rw [List.append_nil]
    exact px2
  subst e
  rw [hLl, show (rdsU n row).take n = rdsU n row from List.take_of_length_le (by rw [rdsU_len]; omega)] at px
  have s3G := s4.trans s5
  have CG := C3.ext s3G
  have sG := s13.trans s3G
  have hoG := sG _ _ ho
  obtain ⟨dx1, fs1, a1, _, _, _, _, _, a7⟩ := id CG.at_
  wtm_at "go"
  have hF := pset_len_nd (ms_nd (n := n) hnd)
  have hml := ms_len hp
  refine ⟨c, dx1, fs1, rfl, a1, a7 _ (by decide) (by decide) (by decide) (by decide), ?_⟩
  refine ⟨c, o1, r1, q1, b1, row, n, rfl, CG, hn, hp, fun H5 t5 rr cc s6 nt5 _ _ T5 => ?_⟩
  obtain ⟨⟨dxT, fsT, tA, _⟩, _, _⟩ := id T5
  wtm_at "go"
  refine ⟨t5, dxT, fsT, rfl, tA, t5, rr, cc, (n : Nat), _, _, rfl, T5, fun H6 xr s7 nxr pxr => ?_⟩
  wtm_at "go"
  refine ⟨t5, dxT, fsT, rfl, s7 _ _ tA, t5, rr, cc, (n : Nat), _, _, rfl, T5.ext s7, fun H7 xc s8 nxc pxc => ?_⟩
  wtm_at "go"
  have s68 := s7.trans s8
  refine ⟨t5, dxT, fsT, rfl, s68 _ _ tA, t5, rr, cc, (n : Nat), _, _, rfl, T5.ext s68, by rw [hF]; simp only [List.length_nil]; omega, fun H8 s9 => ⟨_, rfl, by omega, ?_, ?_⟩⟩
  · rw [hF]
    simp only [List.length_nil]
    omega
  have e15 : (((pset (rds n row).flatten).length + ([] : List P2).length : Nat) : Int) = (2 ^ n : Nat) - 1 := by
    rw [hF]
    simp only [List.length_nil]
    omega
  rw [e15]
  wtm_at "go"
  refine ⟨by wtm_at "sz", fun z1 n_z1 => ?_⟩
  generalize e_H9 : upd _ z1 _ = H9
  have s_H9 := same_upd n_z1 e_H9
  have h_z1 := upd_at e_H9
  clear e_H9
  obtain ⟨d1, d2, d3, d4⟩ := three_shows (ps := pset (rds n row).flatten) (m := (2 ^ n : Nat) - 1) (sm_pset (ms_sm hn hp)) (by rw [hF]; omega) (by omega) (by omega)
  wtm_at "go"
  refine ⟨_, _, rfl, .lst (SqL.of h_z1) (.cons ((pxr.ext (s8.trans (s9.trans s_H9))).dp) (.cons ((pxc.ext (s9.trans s_H9)).dp) (.cons (.int _) .nil))), d1, d2, d3, d4, ?_⟩
  wtm_at "go"
  obtain ⟨xs, hxs, pxx⟩ := id px
  have hxl := pxx.length
  have s59 := ((s7.trans s8).trans s9).trans s_H9
  have sG9 := s6.trans s59
  refine ⟨x, xs, _, rfl, SqL.of (sG9 _ _ hxs), pxx.ext sG9, fun z zs nz pz => ?_⟩
  rw [psort_flat hnd] at pz
  generalize e_I1 : upd _ z _ = I1
  have s_I1 := same_upd nz e_I1
  have h_z := upd_at e_I1
  clear e_I1
  wtm_at "go"
  refine ⟨by wtm_at "sz", fun z2 n_z2 => ?_⟩
  generalize e_I2 : upd _ z2 _ = I2
  have s_I2 := same_upd n_z2 e_I2
  have h_z2 := upd_at e_I2
  clear e_I2
  have ho2 := s_I2 _ _ (s_I1 _ _ (sG9 _ _ hoG))
  wtm_at "go"
  rw [show ((row.map V.int).length : Int) = ((2 ^ n : Nat) : Int) by rw [List.length_map, hlen]]
  wtm_at "go"
  refine ⟨by wtm_at "sz", fun z3 n_z3 => ?_⟩
  generalize e_I3 : upd _ z3 _ = I3
  have s_I3 := same_upd n_z3 e_I3
  have h_z3 := upd_at e_I3
  clear e_I3
  have h_zz3 := (s_I2.trans s_I3) _ _ h_z
  have h_zz2 := s_I3 _ _ h_z2
  wtm_at "go"
  refine ⟨_, _, rfl, .lst (SqL.of h_z3) (.cons (.lst (SqL.of h_zz3) ((pz.ext (s_I1.trans (s_I2.trans s_I3))).dp)) (.cons (.lst (SqL.of h_zz2) .nil) (.cons (.int _) .nil))), d1, d2, d3, d4, ?_⟩
  wtm_at "go"
  refine iteND (fun h => absurd rfl h) (fun _ => ?_)
  have sG3 := sG9.trans (s_I1.trans (s_I2.trans s_I3))
  have s53 := s59.trans (s_I1.trans (s_I2.trans s_I3))
  have CI := CG.ext sG3
  have TI := T5.ext s53
  have pxI : PL I3 x (rdsU n row).flatten := ⟨xs, sG3 _ _ hxs, pxx.ext sG3⟩
  wtm_at "go"
  refine ⟨t5, dxT, fsT, rfl, s53 _ _ tA, t5, rr, cc, (n : Nat), _, _, rfl, TI, ?_⟩
  wtm_at "go"
  refine ⟨c, dx1, fs1, rfl, sG3 _ _ a1, c, o1, r1, q1, b1, row, n, rfl, CI, ?_⟩
  wtm_at "go"
  refine iteND (fun h => absurd rfl h) (fun _ => ?_)
  wtm_at "go"
  refine ⟨c, dx1, fs1, rfl, sG3 _ _ a1, c, o1, r1, q1, b1, row, n, rfl, CI, ?_⟩
  wtm_at "go"
  refine ⟨by wtm_at "sz", fun z4 n_z4 => ?_⟩
  generalize e_I4 : upd _ z4 _ = I4
  have s_I4 := same_upd n_z4 e_I4
  have h_z4 := upd_at e_I4
  clear e_I4
  wtm_at "go"
  refine fun t6 dy ny ny' _ => ?_
  have upy := made_up (o := .own t6) (o' := .ins a.C_Talk dy []) ny ny'
  refine ⟨t6, dy, x, z4, (n : Nat), _, [], rfl, upd_same, (pxI.ext s_I4).ext upy, ⟨[], upy _ _ h_z4, .nil⟩, by omega, by decide, Int.natCast_nonneg _, by omega, (fun p h => ms_res hp p ((ms_perm hnd).mem_iff.mpr h)), (fun p h => by cases h), fun I5 r6 c6 bb6 _ _ T6 => ⟨rfl, ?_⟩⟩
  have s_I5 := made_same ny ny' bb6
  rw [pset_flat hnd, gcl_nil] at T6
  have s35 := s_I4.trans s_I5
  wtm_at "go"
  refine e_eqT (TI.ext s35) T6 rfl rfl (by rw [hF]; omega) (by decide) ?_
  wtm_at "go"
  have sG5 := sG3.trans s35
  have C5 := CG.ext sG5
  have a75 := a7 _ (show ("talk" : Str) ≠ "_order" by decide) (by decide) (by decide) (by decide)
  have a7r := a7 _ (show ("rounds" : Str) ≠ "_order" by decide) (by decide) (by decide) (by decide)
  clear a7
  refine ⟨c, dx1, fs1, rfl, sG5 _ _ a1, a75, ?_⟩
  refine ⟨c, o1, r1, q1, b1, row, n, rfl, C5, hn, hp, fun I6 t7 r7 c7 s_I6 _ _ _ T7 => ?_⟩
  obtain ⟨⟨dx7, fs7, tA7, _⟩, _, _⟩ := id T7
  refine ⟨t7, dx7, fs7, rfl, tA7, t7, r7, c7, (n : Nat), _, _, rfl, T7, fun I7 tl s_I7 ntl ptl => ?_⟩
  obtain ⟨tls, htl, ptl'⟩ := id ptl
  have hll := ptl'.length
  wtm_at "go"
  refine ⟨by wtm_at "sz", fun tt n_tt => ?_⟩
  generalize e_I8 : upd _ tt _ = I8
  have s_I8 := same_upd n_tt e_I8
  have h_tt := upd_at e_I8
  clear e_I8
  have htl8 := s_I8 _ _ htl
  wtm_at "go"
  try refine r_append htl8 (by rw [hll, hF]; have := line_big; omega) ?_
  refine hold ?_
  generalize e_I9 : upd _ tl _ = I9
  have b_I9 := but_upd e_I9
  have h_I9 := upd_at e_I9
  clear e_I9
  have s59' := b_I9.same (s_I7.trans s_I8) ntl
  have sG9' := sG5.trans (s_I6.trans s59')
  have C9 := CG.ext sG9'
  wtm_at "go"
  refine ⟨c, dx1, fs1, rfl, sG9' _ _ a1, a75, ?_⟩
  refine ⟨c, o1, r1, q1, b1, row, n, rfl, C9, hn, hp, fun J1 t8 r8 c8 s_J1 _ _ _ T8 => ?_⟩
  obtain ⟨⟨dx8, fs8, tA8, _⟩, _, _⟩ := id T8
  refine ⟨t8, dx8, fs8, rfl, tA8, t8, r8, c8, (n : Nat), _, _, rfl, T8, fun J2 x8 s_J2 nx8 px8 => ?_⟩
  wtm_at "go"
  have sGJ2 := sG9'.trans (s_J1.trans s_J2)
  refine ⟨x, xs, _, rfl, SqL.of (sGJ2 _ _ hxs), pxx.ext sGJ2, fun z9 zs9 nz9 pz9 => ?_⟩
  rw [psort_flat hnd] at pz9
  generalize e_J3 : upd _ z9 _ = J3
  have s_J3 := same_upd nz9 e_J3
  have h_z9 := upd_at e_J3
  clear e_J3
  refine ⟨_, _, (px8.ext s_J3).dp, .lst (SqL.of h_z9) (pz9.ext s_J3).dp, dL_shaped _, dL_shaped _, ?_⟩
  rw [show PyData.list (List.map dP (pset (rds n row).flatten)) = dL (pset (rds n row).flatten) from rfl, dL_eqv, decide_eq_true rfl]
  have sGJ3 := sGJ2.trans s_J3
  have CJ3 := CG.ext sGJ3
  wtm_at "go"
  refine ⟨rfl, ?_⟩
  wtm_at "go"
  refine ⟨c, dx1, fs1, rfl, sGJ3 _ _ a1, a7r, ?_⟩
  refine ⟨c, o1, r1, q1, b1, row, n, rfl, CJ3, hn, fun J4 R s_J4 nR hR => ?_⟩
  wtm_at "go"
  refine ⟨R, rds n row, row, n, rfl, hR, pml_rds n hnd, hn, hp, fun J5 c9 o9 r9 q9 b9 s_J5 nc9 F9 C9' => ?_⟩
  have sGJ5 := sGJ3.trans (s_J4.trans s_J5)
  have CJ5 := CG.ext sGJ5
  refine e_eqA T.is_Cup T.cl_Cup CJ5 C9' ?_
  rw [decide_eq_true rfl]
  wtm_at "go"
  refine Eq.mpr (if_neg (show ¬ (((!true) != false) = true) by decide)) ?_
  have F1' := F1.free (fun x h => made_free nc nd' h)
  have sHJ := sG.trans sGJ5
  have B5 : CB a.C_Cup H J5 c o1 r1 q1 b1 row n := ⟨CJ5, F1'.same C1 ((s23.trans s3G).trans sGJ5), nc⟩
  have hfn : H f ≠ none := by rw [hf0]; exact fun z => nomatch z
  have fJ5 := hf.ext sHJ
  have hoJ5 := sHJ _ _ ho
  have hlz : ((row.map V.int).length : Int) = ((2 ^ n : Nat) : Int) := by rw [List.length_map, hlen]
  clear CI TI T5 T6 T7 T8 CJ3 C9 C5 CG C3 pxI ptl ptl' px px8 pz pz9 pxr pxc
  wtm_at "go"
  rw [hlz]
  refine ⟨f, _, rfl, fJ5, by omega, by omega, fun K1 at0 d0 d1 bK1 fK1 => ?_⟩
  have B1 := B5.feed bK1 fJ5 hfn
  have hoK1 := bK1 _ _ nof hoJ5
  wtm_at "go"
  rw [hlz]
  refine ⟨f, _, rfl, fK1, by omega, by omega, fun K2 to0 e0 e1 bK2 fK2 => ?_⟩
  have B2 := B1.feed bK2 fK1 hfn
  have hoK2 := bK2 _ _ nof hoK1
  obtain ⟨i, rfl⟩ : ∃ i : Nat, at0 = (i : Int) := ⟨at0.toNat, by omega⟩
  obtain ⟨j, rfl⟩ : ∃ j : Nat, to0 = (j : Int) := ⟨to0.toNat, by omega⟩
  have hi : i < row.length := by omega
  have hj : j < row.length := by omega
  wtm_at "go"
  refine fun sw n_sw => ?_
  generalize e_K3 : upd _ sw _ = K3
  have s_K3 := same_upd n_sw e_K3
  have h_sw := upd_at e_K3
  clear e_K3
  have hv1 : atI (row.map V.int) ((i : Nat) : Int) = some (V.int row[i]) := atI_nat (by rw [List.getElem?_map, List.getElem?_eq_getElem hi]; rfl)
  have hv2 : atI (row.map V.int) ((j : Nat) : Int) = some (V.int row[j]) := atI_nat (by rw [List.getElem?_map, List.getElem?_eq_getElem hj]; rfl)
  have hoK3 := s_K3 _ _ hoK2
  wtm_at "go"
  refine ⟨by wtm_at "sz", fun tp n_tp => ?_⟩
  generalize e_K4 : upd _ tp _ = K4
  have s_K4 := same_upd n_tp e_K4
  have h_tp := upd_at e_K4
  clear e_K4
  have hsw4 := s_K4 _ _ h_sw
  wtm_at "go"
  refine r_setL hsw4 (ixN_nat' (j := i) rfl (by rw [List.length_map]; exact hi)) ?_
  refine hold ?_
  generalize e_K5 : upd _ sw _ = K5
  have b_K5 := but_upd e_K5
  have h_K5 := upd_at e_K5
  clear e_K5
  wtm_at "go"
  refine r_setL h_K5 (ixN_nat' (j := j) rfl (by rw [List.length_set, List.length_map]; exact hj)) ?_
  refine hold ?_
  generalize e_K6 : upd _ sw _ = K6
  have b_K6 := but_upd e_K6
  have h_K6 := upd_at e_K6
  clear e_K6
  have hsw6 : K6 sw = some (.lst (((row.set i row[j]).set j row[i]).map V.int)) := by rw [h_K6, List.map_set, List.map_set]
  have psw : ((row.set i row[j]).set j row[i]).Perm row := List.set_set_perm hi hj
  generalize e_row1 : (row.set i row[j]).set j row[i] = row1 at hsw6 psw
  have s26 : Same K2 K6 := b_K6.same (b_K5.same (s_K3.trans s_K4) n_sw) n_sw
  have B6 := B2.same s26
  obtain ⟨_, _, _, hfK1⟩ := id fK1
  have hfK2 := fK2
  obtain ⟨_, _, _, hfK2⟩ := hfK2
  have f6 := fK2.ext s26
  have ho6 := s26 _ _ hoK2
  have nswf : sw ≠ f := Ne.symm (ne_of_none hfK2 n_sw)
  clear h_K5 h_K6 hsw4 h_sw e_row1 hv1 hv2
  wtm_at "go"
  refine ⟨f, o, row.map V.int, rfl, f6, ho6, nof, by rw [List.length_map]; omega, fun K7 r2 w2 b7 nr2 f7 hr2 q2 => ?_⟩
  obtain ⟨row2, rfl, p2⟩ := perm_of_map q2 rfl
  have B7 := B6.feed b7 f6 hfn
  have ho7 := b7 _ _ nof ho6
  have hsw7 := b7 _ _ nswf hsw6
  wtm_at "go"
  refine ⟨o, _, rfl, .of ho7, fun r3 nr3 => ?_⟩
  generalize e_K8 : upd _ r3 _ = K8
  have s8 := same_upd nr3 e_K8
  have h_r3 := upd_at e_K8
  clear e_K8
  rw [← List.map_reverse] at h_r3
  have ho8 := s8 _ _ ho7
  wtm_at "go"
  refine fun r4 n_r4 => ?_
  generalize e_K9 : upd _ r4 _ = K9
  have s_K9 := same_upd n_r4 e_K9
  have h_r4 := upd_at e_K9
  clear e_K9
  wtm_at "go"
  refine ⟨by wtm_at "sz", fun Z n_Z => ?_⟩
  generalize e_M0 : upd _ Z _ = M0
  have s_M0 := same_upd n_Z e_M0
  have h_Z := upd_at e_M0
  clear e_M0
  have s7M : Same K7 M0 := s8.trans (s_K9.trans s_M0)
  have BM := B7.same s7M
  have g1 := s7M _ _ hsw7
  have g2 := s7M _ _ hr2
  have g3 := (s_K9.trans s_M0) _ _ h_r3
  have g4 := s_M0 _ _ h_r4
  have hoM := s7M _ _ ho7
  have bHM : But f H M0 := But.trans (But.trans (But.trans (But.trans (But.trans (Same.but sHJ) bK1) bK2) (Same.but s26)) b7) (Same.but s7M)
  have fM := f7.ext s7M
  wtm_at "go"
  have po1 := psw.trans hp
  have po2 := p2.trans hp
  have po3 := (List.reverse_perm row).trans hp
  have oths : ∀ {G : Hp} {k : Nat} {v : V}, Same M0 G → [V.ref sw, .ref r2, .ref r3, .ref r4][k]? = some v → ∃ (ro : Addr) (rowo : List Int), v = .ref ro ∧ G ro = some (.lst (rowo.map V.int)) ∧ rowo.Perm (rowOf n) := fun {G k v} s e => by
    rcases List.mem_of_getElem? e with _ | ⟨_, h⟩
    · exact ⟨_, _, rfl, s _ _ g1, po1⟩
    rcases h with _ | ⟨_, h⟩
    · exact ⟨_, _, rfl, s _ _ g2, po2⟩
    rcases h with _ | ⟨_, h⟩
    · exact ⟨_, _, rfl, s _ _ g3, po3⟩
    rcases h with _ | ⟨_, h⟩
    · exact ⟨_, _, rfl, s _ _ g4, hp⟩
    · cases h
  refine foL (xs := [.ref sw, .ref r2, .ref r3, .ref r4]) (SqL.of h_Z) (fun k σ G => ∃ u10 u11 u12 u13 u14, σ = [some (.ref f), some (.ref o), some (.ref c), some (.ref x), u4, some (.ref t5), some (.ref tl), some (.int i), some (.int j), some (.ref sw), u10, u11, u12, u13, u14] ∧ Same M0 G) ⟨_, _, _, _, _, rfl, Same.refl _⟩ (fun k σ G _ ⟨_, _, _, _, _, _, z⟩ => SqL.of (z _ _ h_Z)) (fun k v σ G hk hv ⟨u10, u11, u12, u13, u14, e, sM⟩ => ?_) (fun σ G ⟨u10, u11, u12, u13, u14, e, sM⟩ => ?_)
  · subst e
    obtain ⟨ro, rowo, rfl, hro, pro⟩ := oths sM hv
    have BG := BM.same sM
    have hoG' := sM _ _ hoM
    wtm_at "go"
    refine fun c2 dx2 nc2 nd2 _ => ?_
    have up2 := made_up (o := .own c2) (o' := .ins a.C_Cup dx2 []) nc2 nd2
    refine ⟨c2, dx2, ro, rowo, n, rfl, upd_same, up2 _ _ hro, hn, row_len pro, pro, fun G1 o2 r02 q02 b2 bb2 F2 C2 => ⟨rfl, ?_⟩⟩
    have sG1 := made_same nc2 nd2 bb2
    have hro1 := sG1 _ _ hro
    have hoG1 := sG1 _ _ hoG'
    have BG1 := BG.same sG1
    wtm_at "go"
    refine r_eqI hro1 hoG1 ?_
    rw [show decide (rowo = row) = decide (row = rowo) from decide_eq_decide.mpr eq_comm]
    obtain ⟨D, hD⟩ : ∃ D, decide (row = rowo) = D := ⟨_, rfl⟩
    rw [hD]
    wtm_at "go"
    have vD1 : V.bl (D != false) = V.bl D := by cases D <;> rfl
    have vD2 : ¬ V.bl (D != true) = V.bl D := fun h => by
      have := V.bl.inj h
      cases D <;> exact absurd this (by decide)
    refine e_eqA T.is_Cup T.cl_Cup BG1.cr C2 ?_
    rw [hD]
    wtm_at "go"
    refine iteND (fun h => absurd vD1 h) (fun _ => ?_)
    wtm_at "go"
    refine e_eqA T.is_Cup T.cl_Cup C2 BG1.cr ?_
    rw [show decide (rowo = row) = D from (decide_eq_decide.mpr eq_comm).trans hD]
    wtm_at "go"
    refine iteND (fun h => absurd vD1 h) (fun _ => ?_)
    wtm_at "go"
    refine e_eqA T.is_Cup T.cl_Cup BG1.cr C2 ?_
    rw [hD]
    wtm_at "go"
    refine iteNo vD2 ?_
    obtain ⟨dy1, fy1, y1, _, _, _, _, _, y7⟩ := id BG1.cr.at_
    obtain ⟨dy2, fy2, y2, _, _, _, _, _, y8⟩ := id C2.at_
    wtm_at "go"
    refine ⟨c, dy1, fy1, rfl, y1, y7 _ (by decide) (by decide) (by decide) (by decide), ?_⟩
    refine ⟨c, o1, r1, q1, b1, row, n, rfl, BG1.cr, hn, hp, fun G2 ta ra ca sG2 _ _ _ TA => ?_⟩
    wtm_at "go"
    refine ⟨c2, dy2, fy2, rfl, sG2 _ _ y2, y8 _ (by decide) (by decide) (by decide) (by decide), ?_⟩
    refine ⟨c2, o2, r02, q02, b2, rowo, n, rfl, C2.ext sG2, hn, pro, fun G3 tb rb cb sG3' _ _ _ TB => ?_⟩
    have hFo := pset_len_nd (ms_nd (n := n) (row_nd pro))
    have hmo := ms_len pro
    wtm_at "go"
    refine e_eqO (TA.ext sG3') TB (by rw [hF]; omega) (by decide) (by rw [hFo]; omega) (by decide) ?_
    rw [decide_eq_decide.mpr (det_iff hp pro), hD, decide_eq_true rfl, Bool.and_true]
    wtm_at "go"
    refine iteND (fun h => absurd rfl h) (fun _ => ?_)
    wtm_at "go"
    exact ⟨_, _, _, _, _, rfl, sM.trans (sG1.trans (sG2.trans sG3'))⟩
  subst e
  wtm_at "go"
  have BG := BM.same sM
  have hoG' := sM _ _ hoM
  refine ⟨o, _, rfl, .inl ⟨SqL.of hoG', fun tu ntu => ?_⟩⟩
  generalize e_N1 : upd _ tu _ = N1
  have s_N1 := same_upd ntu e_N1
  have h_tu := upd_at e_N1
  clear e_N1
  obtain ⟨dy1, fy1, y1, _, _, _, _, _, y7⟩ := id BG.cr.at_
  wtm_at "go"
  refine ⟨c, dy1, fy1, rfl, s_N1 _ _ y1, y7 _ (by decide) (by decide) (by decide) (by decide), ?_⟩
  refine ⟨c, o1, r1, q1, b1, row, n, rfl, BG.cr.ext s_N1, hn, fun N2 R2 s_N2 nR2 hR2 => ?_⟩
  wtm_at "go"
  refine ⟨by wtm_at "sz", fun lc n_lc => ?_⟩
  generalize e_N3 : upd _ lc _ = N3
  have s_N3 := same_upd n_lc e_N3
  have h_lc := upd_at e_N3
  clear e_N3
  refine fun dd ndd => ?_
  wtm_at "go"
  refine r_disp1 ?_
  wtm_at "go"
  refine ⟨upd_same, [(.inr "_", .ref c)], rfl, Nat.le_of_ble_eq_true rfl, ?_⟩
  have s_N4 : Same N3 _ := (but_upd (p := dd) (o := .dK (L2.mergeK [] [(.inr ("_" : Str), V.ref c)])) rfl).same (same_upd (o := .dK []) ndd rfl) ndd
  have h_dd := upd_at (p := dd) (o := .dK (L2.mergeK [] [(.inr ("_" : Str), V.ref c)])) (H := upd N3 dd (.dK [])) rfl
  generalize e_N4 : upd (upd N3 dd (.dK [])) dd _ = N4 at s_N4 h_dd ⊢
  clear e_N4
  wtm_at "go"
  refine ⟨by wtm_at "sz", fun te n_te => ?_⟩
  generalize e_N5 : upd _ te _ = N5
  have s_N5 := same_upd n_te e_N5
  have h_te := upd_at e_N5
  clear e_N5
  wtm_at "go"
  refine ⟨by wtm_at "sz", fun od n_od => ?_⟩
  generalize e_N6 : upd _ od _ = N6
  have s_N6 := same_upd n_od e_N6
  have h_od := upd_at e_N6
  clear e_N6
  have nt5f : t5 ≠ f := Ne.symm (ne_of_none (sG _ _ hf0) nt5)
  have sHJ5 := s53.trans (s35.trans (s_I6.trans (s59'.trans (s_J1.trans (s_J2.trans (s_J3.trans (s_J4.trans s_J5)))))))
  have bJM := But.trans (But.trans (But.trans (But.trans bK1 bK2) (Same.but s26)) b7) (Same.but s7M)
  have tAG := sM _ _ (bJM _ _ nt5f (sHJ5 _ _ tA))
  have s36 := s_N4.trans (s_N5.trans s_N6)
  have s26' := s_N3.trans s36
  have s16 := s_N2.trans s26'
  have s06 := s_N1.trans s16
  have C6 := BG.cr.ext s06
  obtain ⟨Rv, hRv, _⟩ := id hR2
  have oddF : ∀ {G' : Hp} {k : Nat} {v : V}, Same N6 G' → [V.non, .int 0, .bl true, .str "", .ref o, .ref tu, .ref t5, .ref R2, .ref lc, .ref dd, .int (10 ^ 59), .ref te][k]? = some v → ∃ t : Value, TyX K G' v t ∧ OT K a.C_Cup t := fun {G' k v} s e => by
    have e := List.mem_of_getElem? e
    simp only [List.mem_cons, List.not_mem_nil, or_false] at e
    rcases e with rfl | rfl | rfl | rfl | rfl | rfl | rfl | rfl | rfl | rfl | rfl | rfl
    · exact ⟨_, .base .non, T.ot_Cup_NoneType⟩
    · exact ⟨_, .base (.int _), T.ot_Cup_int⟩
    · exact ⟨_, .base (.bl _), T.ot_Cup_bool⟩
    · exact ⟨_, .base (.str _), T.ot_Cup_str⟩
    · exact ⟨_, .base (.lst (s _ _ (s06 _ _ hoG'))), T.ot_Cup_list⟩
    · exact ⟨_, .base (.tup (s _ _ (s16 _ _ h_tu))), T.ot_Cup_tuple⟩
    · exact ⟨_, T.is_Talk.ty T.cl_Talk (s _ _ (s06 _ _ tAG)), T.ot_Cup_Talk⟩
    · exact ⟨_, .base (.lst (s _ _ (s26' _ _ hRv))), T.ot_Cup_list⟩
    · exact ⟨_, .base (.lst (s _ _ (s36 _ _ h_lc))), T.ot_Cup_list⟩
    · exact ⟨_, .base (.dK (s _ _ ((s_N5.trans s_N6) _ _ h_dd))), T.ot_Cup_dict⟩
    · exact ⟨_, .base (.int _), T.ot_Cup_int⟩
    · exact ⟨_, .base (.tup (s _ _ (s_N6 _ _ h_te))), T.ot_Cup_tuple⟩
  wtm_at "go"
  refine lcL (fun i acc G => acc = []) (SqL.of h_od) (fun _ _ => rfl) (fun i v G' D hi hv ⟨acc, hD, ha, s, nD, e⟩ => ?_) (fun acc G' D s nD hD ha e => ?_)
  · obtain ⟨t, ty, ot⟩ := oddF s hv
    have C7 := C6.ext s
    wtm_at "go"
    refine e_eqOdd ot C7 ty ?_
    wtm_at "go"
    refine Eq.mpr (if_neg (show ¬ ((false != false) = true) by decide)) ?_
    wtm_at "go"
    refine e_eqOdd ot C7 ty ?_
    wtm_at "go"
    exact lcN (I := fun i acc G => acc = []) hD ha s nD (Same.refl _) e
  have e0 : acc = [] := e
  rw [e0] at hD
  wtm_at "go"
  refine ⟨by wtm_at "sz", fun z5 n_z5 => ?_⟩
  generalize e_N8 : upd _ z5 _ = N8
  have s_N8 := same_upd n_z5 e_N8
  have h_z5 := upd_at e_N8
  clear e_N8
  refine r_eqI (xs := []) (ys := []) (s_N8 _ _ hD) h_z5 ?_
  rw [decide_eq_true rfl]
  have sF := sM.trans (s06.trans (s.trans s_N8))
  exact k N8 (But.trans bHM (Same.but sF)) (fM.ext sF)
end
end Ct
end
section
set_option Elab.async false
set_option linter.all false
set_option maxRecDepth 100000
set_option maxHeartbeats 16000000
namespace Ct
open PySem PySem.Spec L2 StX

local macro_rules | `(tactic| wtm_at "hp") => `(tactic| first
  | assumption
  | exact (‹Same _ _›) _ _ (by wtm_at "hp")
  | exact (‹But _ _ _›) _ _ (by wtm_at "ne") (by wtm_at "hp"))
local macro_rules | `(tactic| wtm_at "hpL") => `(tactic| first | exact SqL.of (by wtm_at "hp") | assumption)
local macro_rules | `(tactic| wtm_at "hpT") => `(tactic| first | exact SqT.of (by wtm_at "hp") | assumption)
local macro_rules | `(tactic| wtm_at "ne") => `(tactic| first
  | assumption
  | exact Ne.symm (by assumption)
  | exact ne_lst_tup (by wtm_at "hp") (by wtm_at "hp")
  | exact ne_tup_lst (by wtm_at "hp") (by wtm_at "hp")
  | exact ne_of_none (by wtm_at "hp") (by assumption)
  | exact Ne.symm (ne_of_none (by wtm_at "hp") (by assumption)))
local macro_rules | `(tactic| wtm_at "c") => `(tactic| first
  | omega
  | (unfold CMul; omega)
  | (unfold CDiv; omega)
  | (unfold CPow; omega))
local macro_rules | `(tactic| wtm_at "sz") => `(tactic| first
  | exact sz64 rfl
  | exact (by decide)
  | (show _ ≤ sizeLine; rw [sizeLine_eq]; omega)
  | (show _ < sizeLine; rw [sizeLine_eq]; omega))
local macro_rules | `(tactic| wtm_at "go1") => `(tactic| first
  | with_reducible refine r_seq ?_
  | with_reducible refine r_op ?_
  | ((with_reducible refine' r_var ?rv ?_); (case rv => exact rfl))
  | with_reducible refine r_c ?_
  | with_reducible refine r_asg ?_
  | with_reducible refine r_name ?_
  | with_reducible refine r_i0 ?_
  | ((with_reducible refine' r_i ?rc ?_); (case rc => wtm_at "c"))
  | ((with_reducible refine' r_ixL ?r1 ?r2 ?_); (case r1 => wtm_at "hpL"); (case r2 => first | exact rfl | assumption))
  | ((with_reducible refine' r_ixT ?r1 ?r2 ?_); (case r1 => wtm_at "hpT"); (case r2 => first | exact rfl | assumption))
  | with_reducible refine r_consA ?_
  | with_reducible refine r_nilA ?_
  | with_reducible refine r_call ?_
  | with_reducible refine r_cb ?_
  | with_reducible refine r_test ?_
  | with_reducible refine r_exb ?_
  | ((with_reducible refine r_eq ?rq ?_); (case rq => exact rfl))
  | ((with_reducible refine r_ne ?rq ?_); (case rq => exact rfl))
  | with_reducible refine r_ret ?_
  | with_reducible refine r_if ?_
  | with_reducible refine r_next ?_
  | with_reducible refine r_drop ?_
  | with_reducible refine r_gsub ?_
  | ((with_reducible refine' r_setL ?r1 ?r2 ?_); (case r1 => wtm_at "hp"); (case r2 => exact rfl))
  | with_reducible refine r_b ?_
  | with_reducible refine r_and ?_
  | with_reducible refine r_or ?_
  | with_reducible refine r_not ?_
  | with_reducible refine r_andV ?_
  | with_reducible refine r_orV ?_
  | with_reducible refine r_notV ?_
  | with_reducible refine r_ifE ?_
  | with_reducible refine r_chain ?_
  | with_reducible refine r_u ?_
  | with_reducible refine r_un ?_
  | with_reducible refine r_fld ?_
  | with_reducible refine r_fldS ?_
  | with_reducible refine r_lst ?_
  | with_reducible refine r_tup ?_
  | with_reducible refine r_par ?_
  | with_reducible refine r_par3 ?_
  | with_reducible refine r_retN ?_
  | with_reducible refine r_gcons ?_
  | with_reducible refine r_gnil ?_
  | ((with_reducible refine' r_gtup ?r1 ?r2 ?_); (case r1 => wtm_at "hpT"); (case r2 => exact rfl))
  | with_reducible refine r_bm ?_
  | with_reducible refine r_bm0 ?_
  | with_reducible refine r_lcL ?_
  | with_reducible refine r_foL ?_
  | with_reducible refine r_foR ?_
  | with_reducible refine r_yes ?_
  | ((with_reducible refine' r_wipe ?rw ?_); (case rw => exact rfl))
  | ((with_reducible refine' r_tyL ?r1 ?_); (case r1 => wtm_at "hpL"))
  | ((with_reducible refine' r_append ?r1 ?r2 ?_); (case r1 => wtm_at "hp"); (case r2 => wtm_at "sz"))
  | with_reducible refine r_dput ?_
  | with_reducible refine r_dget ?_
  | with_reducible refine r_dget2 ?_
  | with_reducible refine r_dnew ?_
  | with_reducible refine iteT ?_
  | with_reducible refine iteF ?_
  | with_reducible refine iteNT ?_
  | with_reducible refine iteNF ?_)
local macro_rules | `(tactic| wtm_at "go") => `(tactic| repeat wtm_at "go1")


local macro_rules | `(tactic| wtm_at "go1") => `(tactic| first
  | with_reducible refine e_int1 ?_
  | with_reducible refine e_int2 ?_
  | with_reducible refine e_two ?_
  | ((with_reducible refine' e_lenL ?r1 ?_); (case r1 => wtm_at "hpL"))
  | ((with_reducible refine' e_lenT ?r1 ?_); (case r1 => wtm_at "hpT")))


local macro_rules | `(tactic| wtm_at "go1") => `(tactic| first
  | with_reducible refine r_make ?_
  | with_reducible refine r_makeK ?_
  | with_reducible refine r_prop ?_
  | with_reducible refine r_revL ?_
  | with_reducible refine r_star ?_
  | with_reducible refine r_meth ?_
  | with_reducible refine r_methK ?_
  | ((with_reducible refine' r_clear ?r1 ?_); (case r1 => wtm_at "hp")))

local macro_rules | `(tactic| wtm_at "go1") => `(tactic| first
  | with_reducible refine r_prop ?_
  | with_reducible refine r_make ?_
  | with_reducible refine r_exi ?_
  | with_reducible refine r_cmeth ?_)
def spLaw (K : PySem.W.Frag) : Sp := fun vs H Q _ => ∃ (l : Addr) (ns : List Int), vs = [.ref l] ∧ SqL K H l (ns.map V.int) ∧ ns.length ≤ 63 ∧ ∀ H', Q (.bl true) H'
section
variable {P : Program} {w : World} {K : PySem.W.Frag} {mg : Str → Option Value} {base : Heap} {a : Ad}
theorem sc_law : FnScope ["script", "k", "feed", "wide"] ["script"] (defScope s_law) := ⟨rfl, rfl, rfl, by decide +kernel, rfl, by decide +kernel, by decide +kernel⟩
theorem ok_law (T : Txt K mg a) : FnG P w K mg base 9 a.f_law a.d_law ["script"] ((spLaw K)) := by
  refine okG T.F_law sc_law (fun vs H Q E h => (by repeat (first | (obtain ⟨rfl, _⟩ := h; rfl) | obtain ⟨_, h⟩ := h))) (fun cdv A outer s H vs Q E hgd hr h => ?_)
  have nd := sc_law.nd
  have hu := hr.units
  have hu1 := hu_of hr
  obtain ⟨l, ns, rfl, hl, hn, k⟩ := h
  refine ⟨_, (pss_cons (ps_for PassesOwn.never rfl (pi_range1 (by exact rfl) T.z_range (pa_cons (pe_callB (call_max2 rfl) (by exact rfl) T.z_max (by decide +kernel) (pa_cons pe_int (pa_cons (pe_callB (call_min2 rfl) (by exact rfl) T.z_min (by decide +kernel) (pa_cons pe_int (pa_cons (pe_callB call_len_seq (by exact rfl) T.z_len (by decide +kernel) (pa_cons (pv 0) pa_nil)) pa_nil))) pa_nil))) pa_nil)) (pg_name (i := 1) nd rfl (Or.inl rfl))
      (pss_cons (ps_set (i := 2) nd rfl (Or.inl rfl) (pe_call (ok_law_feed T) (hr.mono (by decide)) (by exact rfl) T.m_law_feed T.F_law_feed.kp T.b_law_feed .nil pass0 (pa_cons (pv 0) (pa_cons (pv 1) pa_nil))))
      (pss_one (ps_for PassesOwn.never rfl (pi_list (pe_lst (pa_cons (pe_call (ok_law_pick T) (hr.mono (by decide)) (by exact rfl) T.m_law_pick T.F_law_pick.kp T.b_law_pick .nil pass0 (pa_cons (pv 2) (pa_cons pe_int pa_nil))) (pa_cons (pe_ix ix_list (pe_lst (pa_cons pe_int (pa_cons pe_int pa_nil))) (pe_callTy call_int1 (by exact rfl) T.z_int (by decide +kernel) (pa_cons (pe_cmpR op_gt (pv 1) pe_int (nomark _)) pa_nil)) (fun _ _ => rfl)) (pa_cons (pe_call (ok_law_pick T) (hr.mono (by decide)) (by exact rfl) T.m_law_pick T.F_law_pick.kp T.b_law_pick .nil pass0 (pa_cons (pv 2) (pa_cons pe_int pa_nil))) pa_nil))))) (pg_name (i := 3) nd rfl (Or.inl rfl))
      (pss_one (ps_if (pt_not (pt_val (pe_callG (ok_law_right T) hgd (hr.mono (by decide)) (by exact rfl) T.m_law_right T.F_law_right.kp T.b_law_right (pa_cons (pv 2) (pa_cons (pe_call (ok_law_order T) (hr.mono (by decide)) (by exact rfl) T.m_law_order T.F_law_order.kp T.b_law_order .nil pass0 (pa_cons (pv 2) (pa_cons (pv 3) pa_nil))) pa_nil))))) (pss_one (ps_ret pe_bl)) pss_nil))))))
      (pss_one (ps_ret (pe_and (pe_not (pe_cmpR (op_eqA (ok_Cup___eq__ T) T.me_Cup___eq__ T.b_Cup___eq__ (hr.mono (by decide))) (pe_make T.M_Cup (ok_Cup___init__ T) (hr.mono (by decide)) (by exact rfl) T.mC_Cup T.b_Cup___init__ .nil pass0 (pa_cons (pe_lst (pa_cons pe_int (pa_cons pe_int pa_nil))) pa_nil)) (pe_make T.M_Cup (ok_Cup___init__ T) (hr.mono (by decide)) (by exact rfl) T.mC_Cup T.b_Cup___init__ .nil pass0 (pa_cons (pe_lst (pa_cons pe_int (pa_cons pe_int pa_nil))) pa_nil)) (nomark _))) (pe_and (pe_cmpR (op_eqA (ok_Cup___eq__ T) T.me_Cup___eq__ T.b_Cup___eq__ (hr.mono (by decide))) (pe_make T.M_Cup (ok_Cup___init__ T) (hr.mono (by decide)) (by exact rfl) T.mC_Cup T.b_Cup___init__ .nil pass0 (pa_cons (pe_lst (pa_cons pe_int pa_nil)) pa_nil)) (ClX.pe_cmeth (pe_glob (v := .ref a.C_Cup) (by exact rfl) T.mC_Cup rfl) T.cr_Cup T.cm_Cup_of ((ok_Cup_of T).raw T.b_Cup_of .nil) (hr.mono (by decide)) pass0 (pa_cons (pe_lst pa_nil) pa_nil)) (nomark _)) (pe_one (pe_not (pe_cmpR (op_eqA (ok_Cup___eq__ T) T.me_Cup___eq__ T.b_Cup___eq__ (hr.mono (by decide))) (pe_make T.M_Cup (ok_Cup___init__ T) (hr.mono (by decide)) (by exact rfl) T.mC_Cup T.b_Cup___init__ .nil pass0 (pa_cons (pe_lst (pa_cons pe_int pa_nil)) pa_nil)) (pe_make T.M_Cup (ok_Cup___init__ T) (hr.mono (by decide)) (by exact rfl) T.mC_Cup T.b_Cup___init__ .nil pass0 (pa_cons (pe_lst (pa_cons pe_int (pa_cons pe_int pa_nil))) pa_nil)) (nomark _))))))))), ?_⟩
  wtm_at "go"
  have hlen : (ns.map V.int).length ≤ 63 := by rw [List.length_map]; exact hn
  have hb : 1 ≤ (if (if ((ns.map V.int).length : Int) < 4 then ((ns.map V.int).length : Int) else 4) > 1 then (if ((ns.map V.int).length : Int) < 4 then ((ns.map V.int).length : Int) else 4) else 1) ∧ (if (if ((ns.map V.int).length : Int) < 4 then ((ns.map V.int).length : Int) else 4) > 1 then (if ((ns.map V.int).length : Int) < 4 then ((ns.map V.int).length : Int) else 4) else 1) ≤ 4 := by
    repeat' split
    all_goals omega
  generalize (if (if ((ns.map V.int).length : Int) < 4 then ((ns.map V.int).length : Int) else 4) > 1 then (if ((ns.map V.int).length : Int) < 4 then ((ns.map V.int).length : Int) else 4) else 1) = N at hb ⊢
  refine foR ⟨by omega, by omega⟩ (fun i σ G => ∃ u1 u2 u3, σ = [some (.ref l), u1, u2, u3] ∧ Same H G) ⟨_, _, _, rfl, Same.refl _⟩ (fun i σ G hi ⟨u1, u2, u3, e, s⟩ => ?_) (fun σ G ⟨u1, u2, u3, e, s⟩ => ?_)
  · subst e
    wtm_at "go"
    refine ⟨l, ns, i, rfl, s.seq hl, by omega, by omega, hn, fun G1 f s1 nf f1 => ?_⟩
    have hf0 := s.free nf
    wtm_at "go"
    refine ⟨f, 7, rfl, f1, by decide, by decide, fun G2 w0 d0 d1 b2 f2 => ?_⟩
    wtm_at "go"
    refine ⟨by wtm_at "sz", fun q1 n_q1 => ?_⟩
    generalize e_G3 : upd _ q1 _ = G3
    have s_G3 := same_upd n_q1 e_G3
    have h_q1 := upd_at e_G3
    clear e_G3
    have f3 := f2.ext s_G3
    wtm_at "go"
    refine .inr ⟨_, rfl, ?_⟩
    obtain ⟨e, w1, he, hv, v0, v1⟩ : ∃ e w1 : Int, (if decide ((i : Int) > 0) = true then (1 : Int) else 0) = e ∧ atI [V.int 6, V.int 3] e = some (V.int w1) ∧ 0 ≤ w1 ∧ w1 ≤ 6 := by
      by_cases c1 : (i : Int) > 0
      · exact ⟨1, 3, by rw [decide_eq_true c1]; rfl, rfl, by decide, by decide⟩
      · exact ⟨0, 6, by rw [decide_eq_false c1]; rfl, rfl, by decide, by decide⟩
    rw [he]
    refine r_ixL (SqL.of h_q1) hv ?_
    wtm_at "go"
    refine ⟨f, 3, rfl, f3, by decide, by decide, fun G4 w2 e0 e1 b4 f4 => ?_⟩
    wtm_at "go"
    refine ⟨by wtm_at "sz", fun q n_q => ?_⟩
    generalize e_G5 : upd _ q _ = G5
    have s_G5 := same_upd n_q e_G5
    have h_q := upd_at e_G5
    clear e_G5
    have f5 := f4.ext s_G5
    have hqf : q ≠ f := by
      obtain ⟨_, _, _, z⟩ := f4
      exact Ne.symm (ne_of_none z n_q)
    have b15 : But f G1 G5 := But.trans (But.trans b2 (Same.but s_G3)) (But.trans b4 (Same.but s_G5))
    wtm_at "go"
    refine foL (xs := [.int w0, .int w1, .int w2]) (SqL.of h_q) (fun j σ G => ∃ u3, σ = [some (.ref l), some (.int i), some (.ref f), u3] ∧ Same H G ∧ FeedAt G f ∧ G q = some (.lst [.int w0, .int w1, .int w2])) ⟨_, rfl, But.same b15 (s.trans s1) hf0, f5, h_q⟩ (fun j σ G _ ⟨_, _, _, _, z⟩ => SqL.of z) (fun j x σ G hj hx ⟨u3, e, s, fd, hq⟩ => ?_) (fun σ G ⟨u3, e, s, fd, hq⟩ => ⟨_, _, _, e, s⟩)
    subst e
    have hm : ∃ n : Nat, x = V.int n ∧ n ≤ 6 := by
      have hj' : j = 0 ∨ j = 1 ∨ j = 2 := by
        have : j < 3 := hj
        omega
      rcases hj' with rfl | rfl | rfl
      · exact ⟨w0.toNat, by rw [← Option.some.inj hx, Int.toNat_of_nonneg d0], by omega⟩
      · exact ⟨w1.toNat, by rw [← Option.some.inj hx, Int.toNat_of_nonneg v0], by omega⟩
      · exact ⟨w2.toNat, by rw [← Option.some.inj hx, Int.toNat_of_nonneg e0], by omega⟩
    obtain ⟨n, rfl, hn6⟩ := hm
    wtm_at "go"
    refine ⟨f, n, rfl, fd, hn6, fun G6 o row b6 no f6 ho p6 => ?_⟩
    have nof : o ≠ f := by
      obtain ⟨_, _, _, z⟩ := fd
      exact Ne.symm (ne_of_none z no)
    wtm_at "go"
    refine ⟨f, o, row, n, rfl, f6, ho, nof, hn6, p6, fun G7 b7 f7 => ?_⟩
    wtm_at "go"
    exact ⟨_, rfl, But.same (But.trans b6 b7) s hf0, f7, b7 _ _ hqf (b6 _ _ hqf hq)⟩
  · subst e
    wtm_at "go"
    refine ⟨by wtm_at "sz", fun l0 n_l0 => ?_⟩
    generalize e_A1 : upd _ l0 _ = A1
    have s_A1 := same_upd n_l0 e_A1
    have h_l0 := upd_at e_A1
    clear e_A1
    wtm_at "go"
    refine fun c dx nc nd' _ => ?_
    have up1 := made_up (o := .own c) (o' := .ins a.C_Cup dx []) nc nd'
    refine ⟨c, dx, l0, [0, 1], 1, rfl, upd_same, up1 _ _ h_l0, by decide, by decide, by decide, fun A2 o1 r1 q1 b1 bb1 F1 C1 => ⟨rfl, ?_⟩⟩
    wtm_at "go"
    refine ⟨by wtm_at "sz", fun l1 n_l1 => ?_⟩
    generalize e_A3 : upd _ l1 _ = A3
    have s_A3 := same_upd n_l1 e_A3
    have h_l1 := upd_at e_A3
    clear e_A3
    wtm_at "go"
    refine fun c2 dx2 nc2 nd2 _ => ?_
    have up2 := made_up (o := .own c2) (o' := .ins a.C_Cup dx2 []) nc2 nd2
    refine ⟨c2, dx2, l1, [1, 0], 1, rfl, upd_same, up2 _ _ h_l1, by decide, by decide, by decide, fun A4 o2 r2 q2 b2 bb2 F2 C2 => ⟨rfl, ?_⟩⟩
    have s24 := s_A3.trans (made_same nc2 nd2 bb2)
    refine e_eqA T.is_Cup T.cl_Cup (C1.ext s24) C2 ?_
    rw [show decide (([0, 1] : List Int) = [1, 0]) = false from by decide]
    wtm_at "go"
    refine Eq.mpr (if_pos (show ((!false) != false) = true by decide)) ?_
    wtm_at "go"
    refine ⟨by wtm_at "sz", fun l3 n_l3 => ?_⟩
    generalize e_A5 : upd _ l3 _ = A5
    have s_A5 := same_upd n_l3 e_A5
    have h_l3 := upd_at e_A5
    clear e_A5
    wtm_at "go"
    refine fun c3 dx3 nc3 nd3 _ => ?_
    have up3 := made_up (o := .own c3) (o' := .ins a.C_Cup dx3 []) nc3 nd3
    refine ⟨c3, dx3, l3, [0], 0, rfl, upd_same, up3 _ _ h_l3, by decide, by decide, by decide, fun A6 o3 r3 q3 b3 bb3 F3 C3 => ⟨rfl, ?_⟩⟩
    wtm_at "go"
    refine ⟨rfl, ?_⟩
    wtm_at "go"
    refine ⟨by wtm_at "sz", fun l4 n_l4 => ?_⟩
    generalize e_A7 : upd _ l4 _ = A7
    have s_A7 := same_upd n_l4 e_A7
    have h_l4 := upd_at e_A7
    clear e_A7
    wtm_at "go"
    refine ⟨l4, [], [0], 0, rfl, ⟨[], h_l4, .nil⟩, .nil, by decide, by decide, fun A8 c4 o4 r4 q4 b4 s8 nc4 F4 C4 => ?_⟩
    refine e_eqA T.is_Cup T.cl_Cup (C3.ext (s_A7.trans s8)) C4 ?_
    rw [show decide (([0] : List Int) = [0]) = true from by decide]
    refine r_exb ?_
    refine Eq.mpr (if_pos (show ((true : Bool) != false) = true by decide)) ?_
    wtm_at "go"
    refine ⟨by wtm_at "sz", fun l5 n_l5 => ?_⟩
    generalize e_A9 : upd _ l5 _ = A9
    have s_A9 := same_upd n_l5 e_A9
    have h_l5 := upd_at e_A9
    clear e_A9
    wtm_at "go"
    refine fun c5 dx5 nc5 nd5 _ => ?_
    have up5 := made_up (o := .own c5) (o' := .ins a.C_Cup dx5 []) nc5 nd5
    refine ⟨c5, dx5, l5, [0], 0, rfl, upd_same, up5 _ _ h_l5, by decide, by decide, by decide, fun B1 o5 r5 q5 b5 bb5 F5 C5 => ⟨rfl, ?_⟩⟩
    wtm_at "go"
    refine ⟨by wtm_at "sz", fun l6 n_l6 => ?_⟩
    generalize e_B2 : upd _ l6 _ = B2
    have s_B2 := same_upd n_l6 e_B2
    have h_l6 := upd_at e_B2
    clear e_B2
    wtm_at "go"
    refine fun c6 dx6 nc6 nd6 _ => ?_
    have up6 := made_up (o := .own c6) (o' := .ins a.C_Cup dx6 []) nc6 nd6
    refine ⟨c6, dx6, l6, [0, 1], 1, rfl, upd_same, up6 _ _ h_l6, by decide, by decide, by decide, fun B3 o6 r6 q6 b6 bb6 F6 C6 => ⟨rfl, ?_⟩⟩
    have s23 := s_B2.trans (made_same nc6 nd6 bb6)
    refine e_eqA T.is_Cup T.cl_Cup (C5.ext s23) C6 ?_
    rw [show decide (([0] : List Int) = [0, 1]) = false from by decide]
    wtm_at "go"
    exact k B3
end
end Ct
end
set_option Elab.async false
set_option linter.all false
set_option maxRecDepth 100000
set_option maxHeartbeats 16000000
namespace Ct
open PySem PySem.Spec L2 StX
theorem OT.of {K : PySem.W.Frag} {C : Addr} {t : Value} (hm : PySem.W.mroIn K C (.type "object") = some true) (ht : PySem.W.typeIn K (.ref C) = some (.type "type")) (hd : PySem.W.subIn K (.ref C) (.ref C) = some true) (hs : PySem.W.subIn K t (.ref C) = some false) : OT K C t := by
  have hne : (t == Value.ref C) = false := by
    cases e : t == Value.ref C with
    | false => rfl
    | true => rw [beq_iff_eq.mp e, hd] at hs; cases hs
  have hc : (PySem.W.clsIn K C).isSome = true := by
    unfold PySem.W.mroIn at hm
    cases e : PySem.W.clsIn K C with
    | none => rw [e] at hm; cases hm
    | some _ => rfl
  refine ⟨?_, ?_⟩
  · unfold PySem.W.kitOne
    rw [hne, if_neg (by decide)]
    unfold PySem.W.kitCls
    dsimp only
    rw [hc, ht, beq_self_eq_true]
    exact (if_pos (by decide)).trans hs
  · unfold PySem.W.notFirst
    rw [hne, hs, beq_self_eq_true]
    rfl
theorem all_mk {l : PySem.W.OpenLaw} {w : World} {K : PySem.W.Frag} {h : Heap} {mg : Str → Option Value} {fa : Addr} (X : K.In h) (G : h.Ns mainGlobals mg) (hfa : mg "law" = some (.ref fa))
    {C_Cup C_Talk f_is_integer f_is_size f_is_player f_is_number f_is_pair f_is_result f_is_claim f_is_short_list f_check_size f_check_results f_check_claims f_greatest_claims f_Talk___init__ f_Talk_size p_Talk_size f_Talk_results p_Talk_results f_Talk_claims p_Talk_claims f_Talk___len__ f_Talk___eq__ f_is_order f_is_list_of_rounds f_rounds_of_order f_order_of_rounds f_Cup___init__ f_Cup_of p_Cup_of f_Cup_order p_Cup_order f_Cup_size p_Cup_size f_Cup___eq__ f_Cup_rounds f_Cup_matches f_Cup_talk f_law_feed f_law_pick f_law_shuffled f_law_players f_law_order f_law_played f_law_right f_law K_NUMBERS_OF_PLAYERS : Addr}
    {od_is_integer an_is_integer : Option Addr} {sl_is_integer : Array (Option Value)} {oc_is_integer kV_is_integer dc_is_integer pm_is_integer cd_is_integer ct_is_integer : Value}
    {od_is_size an_is_size : Option Addr} {sl_is_size : Array (Option Value)} {oc_is_size kV_is_size dc_is_size pm_is_size cd_is_size ct_is_size : Value}
    {od_is_player an_is_player : Option Addr} {sl_is_player : Array (Option Value)} {oc_is_player kV_is_player dc_is_player pm_is_player cd_is_player ct_is_player : Value}
    {od_is_number an_is_number : Option Addr} {sl_is_number : Array (Option Value)} {oc_is_number kV_is_number dc_is_number pm_is_number cd_is_number ct_is_number : Value}
    {od_is_pair an_is_pair : Option Addr} {sl_is_pair : Array (Option Value)} {oc_is_pair kV_is_pair dc_is_pair pm_is_pair cd_is_pair ct_is_pair : Value}
    {od_is_result an_is_result : Option Addr} {sl_is_result : Array (Option Value)} {oc_is_result kV_is_result dc_is_result pm_is_result cd_is_result ct_is_result : Value}
    {od_is_claim an_is_claim : Option Addr} {sl_is_claim : Array (Option Value)} {oc_is_claim kV_is_claim dc_is_claim pm_is_claim cd_is_claim ct_is_claim : Value}
    {od_is_short_list an_is_short_list : Option Addr} {sl_is_short_list : Array (Option Value)} {oc_is_short_list kV_is_short_list dc_is_short_list pm_is_short_list cd_is_short_list ct_is_short_list : Value}
    {od_check_size an_check_size : Option Addr} {sl_check_size : Array (Option Value)} {oc_check_size kV_check_size dc_check_size pm_check_size cd_check_size ct_check_size : Value}
    {od_check_results an_check_results : Option Addr} {sl_check_results : Array (Option Value)} {oc_check_results kV_check_results dc_check_results pm_check_results cd_check_results ct_check_results : Value}
    {od_check_claims an_check_claims : Option Addr} {sl_check_claims : Array (Option Value)} {oc_check_claims kV_check_claims dc_check_claims pm_check_claims cd_check_claims ct_check_claims : Value}
    {od_greatest_claims an_greatest_claims : Option Addr} {sl_greatest_claims : Array (Option Value)} {oc_greatest_claims kV_greatest_claims dc_greatest_claims pm_greatest_claims cd_greatest_claims ct_greatest_claims : Value}
    {od_Talk___init__ an_Talk___init__ : Option Addr} {sl_Talk___init__ : Array (Option Value)} {oc_Talk___init__ kV_Talk___init__ dc_Talk___init__ pm_Talk___init__ cd_Talk___init__ ct_Talk___init__ : Value}
    {rs_Talk_size : List Value}
    {od_Talk_size an_Talk_size : Option Addr} {sl_Talk_size : Array (Option Value)} {oc_Talk_size kV_Talk_size dc_Talk_size pm_Talk_size cd_Talk_size ct_Talk_size : Value}
    {rs_Talk_results : List Value}
    {od_Talk_results an_Talk_results : Option Addr} {sl_Talk_results : Array (Option Value)} {oc_Talk_results kV_Talk_results dc_Talk_results pm_Talk_results cd_Talk_results ct_Talk_results : Value}
    {rs_Talk_claims : List Value}
    {od_Talk_claims an_Talk_claims : Option Addr} {sl_Talk_claims : Array (Option Value)} {oc_Talk_claims kV_Talk_claims dc_Talk_claims pm_Talk_claims cd_Talk_claims ct_Talk_claims : Value}
    {od_Talk___len__ an_Talk___len__ : Option Addr} {sl_Talk___len__ : Array (Option Value)} {oc_Talk___len__ kV_Talk___len__ dc_Talk___len__ pm_Talk___len__ cd_Talk___len__ ct_Talk___len__ : Value}
    {od_Talk___eq__ an_Talk___eq__ : Option Addr} {sl_Talk___eq__ : Array (Option Value)} {oc_Talk___eq__ kV_Talk___eq__ dc_Talk___eq__ pm_Talk___eq__ cd_Talk___eq__ ct_Talk___eq__ : Value}
    {od_is_order an_is_order : Option Addr} {sl_is_order : Array (Option Value)} {oc_is_order kV_is_order dc_is_order pm_is_order cd_is_order ct_is_order : Value}
    {od_is_list_of_rounds an_is_list_of_rounds : Option Addr} {sl_is_list_of_rounds : Array (Option Value)} {oc_is_list_of_rounds kV_is_list_of_rounds dc_is_list_of_rounds pm_is_list_of_rounds cd_is_list_of_rounds ct_is_list_of_rounds : Value}
    {od_rounds_of_order an_rounds_of_order : Option Addr} {sl_rounds_of_order : Array (Option Value)} {oc_rounds_of_order kV_rounds_of_order dc_rounds_of_order pm_rounds_of_order cd_rounds_of_order ct_rounds_of_order : Value}
    {od_order_of_rounds an_order_of_rounds : Option Addr} {sl_order_of_rounds : Array (Option Value)} {oc_order_of_rounds kV_order_of_rounds dc_order_of_rounds pm_order_of_rounds cd_order_of_rounds ct_order_of_rounds : Value}
    {od_Cup___init__ an_Cup___init__ : Option Addr} {sl_Cup___init__ : Array (Option Value)} {oc_Cup___init__ kV_Cup___init__ dc_Cup___init__ pm_Cup___init__ cd_Cup___init__ ct_Cup___init__ : Value}
    {rs_Cup_of : List Value}
    {od_Cup_of an_Cup_of : Option Addr} {sl_Cup_of : Array (Option Value)} {oc_Cup_of kV_Cup_of dc_Cup_of pm_Cup_of cd_Cup_of ct_Cup_of : Value}
    {rs_Cup_order : List Value}
    {od_Cup_order an_Cup_order : Option Addr} {sl_Cup_order : Array (Option Value)} {oc_Cup_order kV_Cup_order dc_Cup_order pm_Cup_order cd_Cup_order ct_Cup_order : Value}
    {rs_Cup_size : List Value}
    {od_Cup_size an_Cup_size : Option Addr} {sl_Cup_size : Array (Option Value)} {oc_Cup_size kV_Cup_size dc_Cup_size pm_Cup_size cd_Cup_size ct_Cup_size : Value}
    {od_Cup___eq__ an_Cup___eq__ : Option Addr} {sl_Cup___eq__ : Array (Option Value)} {oc_Cup___eq__ kV_Cup___eq__ dc_Cup___eq__ pm_Cup___eq__ cd_Cup___eq__ ct_Cup___eq__ : Value}
    {od_Cup_rounds an_Cup_rounds : Option Addr} {sl_Cup_rounds : Array (Option Value)} {oc_Cup_rounds kV_Cup_rounds dc_Cup_rounds pm_Cup_rounds cd_Cup_rounds ct_Cup_rounds : Value}
    {od_Cup_matches an_Cup_matches : Option Addr} {sl_Cup_matches : Array (Option Value)} {oc_Cup_matches kV_Cup_matches dc_Cup_matches pm_Cup_matches cd_Cup_matches ct_Cup_matches : Value}
    {od_Cup_talk an_Cup_talk : Option Addr} {sl_Cup_talk : Array (Option Value)} {oc_Cup_talk kV_Cup_talk dc_Cup_talk pm_Cup_talk cd_Cup_talk ct_Cup_talk : Value}
    {od_law_feed an_law_feed : Option Addr} {sl_law_feed : Array (Option Value)} {oc_law_feed kV_law_feed dc_law_feed pm_law_feed cd_law_feed ct_law_feed : Value}
    {od_law_pick an_law_pick : Option Addr} {sl_law_pick : Array (Option Value)} {oc_law_pick kV_law_pick dc_law_pick pm_law_pick cd_law_pick ct_law_pick : Value}
    {od_law_shuffled an_law_shuffled : Option Addr} {sl_law_shuffled : Array (Option Value)} {oc_law_shuffled kV_law_shuffled dc_law_shuffled pm_law_shuffled cd_law_shuffled ct_law_shuffled : Value}
    {od_law_players an_law_players : Option Addr} {sl_law_players : Array (Option Value)} {oc_law_players kV_law_players dc_law_players pm_law_players cd_law_players ct_law_players : Value}
    {od_law_order an_law_order : Option Addr} {sl_law_order : Array (Option Value)} {oc_law_order kV_law_order dc_law_order pm_law_order cd_law_order ct_law_order : Value}
    {od_law_played an_law_played : Option Addr} {sl_law_played : Array (Option Value)} {oc_law_played kV_law_played dc_law_played pm_law_played cd_law_played ct_law_played : Value}
    {od_law_right an_law_right : Option Addr} {sl_law_right : Array (Option Value)} {oc_law_right kV_law_right dc_law_right pm_law_right cd_law_right ct_law_right : Value}
    {od_law an_law : Option Addr} {sl_law : Array (Option Value)} {oc_law kV_law dc_law pm_law cd_law ct_law : Value}
    {tk_LARGEST_SIZE : Tok}
    {tk_MOST_ITEMS : Tok}
    {tq0_NUMBERS_OF_PLAYERS tq1_NUMBERS_OF_PLAYERS tq2_NUMBERS_OF_PLAYERS tq3_NUMBERS_OF_PLAYERS tq4_NUMBERS_OF_PLAYERS tq5_NUMBERS_OF_PLAYERS tq6_NUMBERS_OF_PLAYERS : Tok} {odq_NUMBERS_OF_PLAYERS : Option Addr} {nq_NUMBERS_OF_PLAYERS : Nat} {sq_NUMBERS_OF_PLAYERS : Array (Option Value)}
    (aC_Cup : PySem.W.nsIn K mainGlobals "Cup" = some (some (.ref C_Cup)))
    (aC_Talk : PySem.W.nsIn K mainGlobals "Talk" = some (some (.ref C_Talk)))
    (a_is_integer : PySem.W.nsIn K mainGlobals "is_integer" = some (some (.ref f_is_integer)))
    (l_is_integer : K.lookup f_is_integer = some ⟨oc_is_integer, od_is_integer, .func (PySem.W.fnOf "is_integer" "is_integer" (defArgs s_is_integer) (defBody s_is_integer) (defScope s_is_integer) .none kV_is_integer dc_is_integer pm_is_integer an_is_integer cd_is_integer ct_is_integer), sl_is_integer⟩)
    (c_is_integer : PySem.W.codeIn K cd_is_integer "is_integer" = true)
    (k_is_integer : PySem.W.keepIn K (.ref f_is_integer) = true)
    (a_is_size : PySem.W.nsIn K mainGlobals "is_size" = some (some (.ref f_is_size)))
    (l_is_size : K.lookup f_is_size = some ⟨oc_is_size, od_is_size, .func (PySem.W.fnOf "is_size" "is_size" (defArgs s_is_size) (defBody s_is_size) (defScope s_is_size) .none kV_is_size dc_is_size pm_is_size an_is_size cd_is_size ct_is_size), sl_is_size⟩)
    (c_is_size : PySem.W.codeIn K cd_is_size "is_size" = true)
    (k_is_size : PySem.W.keepIn K (.ref f_is_size) = true)
    (a_is_player : PySem.W.nsIn K mainGlobals "is_player" = some (some (.ref f_is_player)))
    (l_is_player : K.lookup f_is_player = some ⟨oc_is_player, od_is_player, .func (PySem.W.fnOf "is_player" "is_player" (defArgs s_is_player) (defBody s_is_player) (defScope s_is_player) .none kV_is_player dc_is_player pm_is_player an_is_player cd_is_player ct_is_player), sl_is_player⟩)
    (c_is_player : PySem.W.codeIn K cd_is_player "is_player" = true)
    (k_is_player : PySem.W.keepIn K (.ref f_is_player) = true)
    (a_is_number : PySem.W.nsIn K mainGlobals "is_number" = some (some (.ref f_is_number)))
    (l_is_number : K.lookup f_is_number = some ⟨oc_is_number, od_is_number, .func (PySem.W.fnOf "is_number" "is_number" (defArgs s_is_number) (defBody s_is_number) (defScope s_is_number) .none kV_is_number dc_is_number pm_is_number an_is_number cd_is_number ct_is_number), sl_is_number⟩)
    (c_is_number : PySem.W.codeIn K cd_is_number "is_number" = true)
    (k_is_number : PySem.W.keepIn K (.ref f_is_number) = true)
    (a_is_pair : PySem.W.nsIn K mainGlobals "is_pair" = some (some (.ref f_is_pair)))
    (l_is_pair : K.lookup f_is_pair = some ⟨oc_is_pair, od_is_pair, .func (PySem.W.fnOf "is_pair" "is_pair" (defArgs s_is_pair) (defBody s_is_pair) (defScope s_is_pair) .none kV_is_pair dc_is_pair pm_is_pair an_is_pair cd_is_pair ct_is_pair), sl_is_pair⟩)
    (c_is_pair : PySem.W.codeIn K cd_is_pair "is_pair" = true)
    (k_is_pair : PySem.W.keepIn K (.ref f_is_pair) = true)
    (a_is_result : PySem.W.nsIn K mainGlobals "is_result" = some (some (.ref f_is_result)))
    (l_is_result : K.lookup f_is_result = some ⟨oc_is_result, od_is_result, .func (PySem.W.fnOf "is_result" "is_result" (defArgs s_is_result) (defBody s_is_result) (defScope s_is_result) .none kV_is_result dc_is_result pm_is_result an_is_result cd_is_result ct_is_result), sl_is_result⟩)
    (c_is_result : PySem.W.codeIn K cd_is_result "is_result" = true)
    (k_is_result : PySem.W.keepIn K (.ref f_is_result) = true)
    (a_is_claim : PySem.W.nsIn K mainGlobals "is_claim" = some (some (.ref f_is_claim)))
    (l_is_claim : K.lookup f_is_claim = some ⟨oc_is_claim, od_is_claim, .func (PySem.W.fnOf "is_claim" "is_claim" (defArgs s_is_claim) (defBody s_is_claim) (defScope s_is_claim) .none kV_is_claim dc_is_claim pm_is_claim an_is_claim cd_is_claim ct_is_claim), sl_is_claim⟩)
    (c_is_claim : PySem.W.codeIn K cd_is_claim "is_claim" = true)
    (k_is_claim : PySem.W.keepIn K (.ref f_is_claim) = true)
    (a_is_short_list : PySem.W.nsIn K mainGlobals "is_short_list" = some (some (.ref f_is_short_list)))
    (l_is_short_list : K.lookup f_is_short_list = some ⟨oc_is_short_list, od_is_short_list, .func (PySem.W.fnOf "is_short_list" "is_short_list" (defArgs s_is_short_list) (defBody s_is_short_list) (defScope s_is_short_list) .none kV_is_short_list dc_is_short_list pm_is_short_list an_is_short_list cd_is_short_list ct_is_short_list), sl_is_short_list⟩)
    (c_is_short_list : PySem.W.codeIn K cd_is_short_list "is_short_list" = true)
    (k_is_short_list : PySem.W.keepIn K (.ref f_is_short_list) = true)
    (a_check_size : PySem.W.nsIn K mainGlobals "check_size" = some (some (.ref f_check_size)))
    (l_check_size : K.lookup f_check_size = some ⟨oc_check_size, od_check_size, .func (PySem.W.fnOf "check_size" "check_size" (defArgs s_check_size) (defBody s_check_size) (defScope s_check_size) .none kV_check_size dc_check_size pm_check_size an_check_size cd_check_size ct_check_size), sl_check_size⟩)
    (c_check_size : PySem.W.codeIn K cd_check_size "check_size" = true)
    (k_check_size : PySem.W.keepIn K (.ref f_check_size) = true)
    (a_check_results : PySem.W.nsIn K mainGlobals "check_results" = some (some (.ref f_check_results)))
    (l_check_results : K.lookup f_check_results = some ⟨oc_check_results, od_check_results, .func (PySem.W.fnOf "check_results" "check_results" (defArgs s_check_results) (defBody s_check_results) (defScope s_check_results) .none kV_check_results dc_check_results pm_check_results an_check_results cd_check_results ct_check_results), sl_check_results⟩)
    (c_check_results : PySem.W.codeIn K cd_check_results "check_results" = true)
    (k_check_results : PySem.W.keepIn K (.ref f_check_results) = true)
    (a_check_claims : PySem.W.nsIn K mainGlobals "check_claims" = some (some (.ref f_check_claims)))
    (l_check_claims : K.lookup f_check_claims = some ⟨oc_check_claims, od_check_claims, .func (PySem.W.fnOf "check_claims" "check_claims" (defArgs s_check_claims) (defBody s_check_claims) (defScope s_check_claims) .none kV_check_claims dc_check_claims pm_check_claims an_check_claims cd_check_claims ct_check_claims), sl_check_claims⟩)
    (c_check_claims : PySem.W.codeIn K cd_check_claims "check_claims" = true)
    (k_check_claims : PySem.W.keepIn K (.ref f_check_claims) = true)
    (a_greatest_claims : PySem.W.nsIn K mainGlobals "greatest_claims" = some (some (.ref f_greatest_claims)))
    (l_greatest_claims : K.lookup f_greatest_claims = some ⟨oc_greatest_claims, od_greatest_claims, .func (PySem.W.fnOf "greatest_claims" "greatest_claims" (defArgs s_greatest_claims) (defBody s_greatest_claims) (defScope s_greatest_claims) .none kV_greatest_claims dc_greatest_claims pm_greatest_claims an_greatest_claims cd_greatest_claims ct_greatest_claims), sl_greatest_claims⟩)
    (c_greatest_claims : PySem.W.codeIn K cd_greatest_claims "greatest_claims" = true)
    (k_greatest_claims : PySem.W.keepIn K (.ref f_greatest_claims) = true)
    (a_Talk___init__ : PySem.W.findIn K (.ref C_Talk) "__init__" = some (some (.ref f_Talk___init__)))
    (i_Talk___init__ : PySem.W.isFn K (.ref f_Talk___init__) = true)
    (l_Talk___init__ : K.lookup f_Talk___init__ = some ⟨oc_Talk___init__, od_Talk___init__, .func (PySem.W.fnOf "__init__" "Talk.__init__" (defArgs s_Talk___init__) (defBody s_Talk___init__) (defScope s_Talk___init__) .none kV_Talk___init__ dc_Talk___init__ pm_Talk___init__ an_Talk___init__ cd_Talk___init__ ct_Talk___init__), sl_Talk___init__⟩)
    (c_Talk___init__ : PySem.W.codeIn K cd_Talk___init__ "Talk.__init__" = true)
    (k_Talk___init__ : PySem.W.keepIn K (.ref f_Talk___init__) = true)
    (a_Talk_size : PySem.W.findIn K (.ref C_Talk) "size" = some (some (.ref p_Talk_size)))
    (g_Talk_size : PySem.W.specialIn K (.ref p_Talk_size) "__get__" = some (some (.builtin "property.__get__")))
    (t_Talk_size : PySem.W.takesIn K (.ref p_Talk_size) = some true)
    (r_Talk_size : PySem.W.recIn K p_Talk_size "property" = some (.ref f_Talk_size :: rs_Talk_size))
    (l_Talk_size : K.lookup f_Talk_size = some ⟨oc_Talk_size, od_Talk_size, .func (PySem.W.fnOf "size" "Talk.size" (defArgs s_Talk_size) (defBody s_Talk_size) (defScope s_Talk_size) .none kV_Talk_size dc_Talk_size pm_Talk_size an_Talk_size cd_Talk_size ct_Talk_size), sl_Talk_size⟩)
    (c_Talk_size : PySem.W.codeIn K cd_Talk_size "Talk.size" = true)
    (k_Talk_size : PySem.W.keepIn K (.ref f_Talk_size) = true)
    (a_Talk_results : PySem.W.findIn K (.ref C_Talk) "results" = some (some (.ref p_Talk_results)))
    (g_Talk_results : PySem.W.specialIn K (.ref p_Talk_results) "__get__" = some (some (.builtin "property.__get__")))
    (t_Talk_results : PySem.W.takesIn K (.ref p_Talk_results) = some true)
    (r_Talk_results : PySem.W.recIn K p_Talk_results "property" = some (.ref f_Talk_results :: rs_Talk_results))
    (l_Talk_results : K.lookup f_Talk_results = some ⟨oc_Talk_results, od_Talk_results, .func (PySem.W.fnOf "results" "Talk.results" (defArgs s_Talk_results) (defBody s_Talk_results) (defScope s_Talk_results) .none kV_Talk_results dc_Talk_results pm_Talk_results an_Talk_results cd_Talk_results ct_Talk_results), sl_Talk_results⟩)
    (c_Talk_results : PySem.W.codeIn K cd_Talk_results "Talk.results" = true)
    (k_Talk_results : PySem.W.keepIn K (.ref f_Talk_results) = true)
    (a_Talk_claims : PySem.W.findIn K (.ref C_Talk) "claims" = some (some (.ref p_Talk_claims)))
    (g_Talk_claims : PySem.W.specialIn K (.ref p_Talk_claims) "__get__" = some (some (.builtin "property.__get__")))
    (t_Talk_claims : PySem.W.takesIn K (.ref p_Talk_claims) = some true)
    (r_Talk_claims : PySem.W.recIn K p_Talk_claims "property" = some (.ref f_Talk_claims :: rs_Talk_claims))
    (l_Talk_claims : K.lookup f_Talk_claims = some ⟨oc_Talk_claims, od_Talk_claims, .func (PySem.W.fnOf "claims" "Talk.claims" (defArgs s_Talk_claims) (defBody s_Talk_claims) (defScope s_Talk_claims) .none kV_Talk_claims dc_Talk_claims pm_Talk_claims an_Talk_claims cd_Talk_claims ct_Talk_claims), sl_Talk_claims⟩)
    (c_Talk_claims : PySem.W.codeIn K cd_Talk_claims "Talk.claims" = true)
    (k_Talk_claims : PySem.W.keepIn K (.ref f_Talk_claims) = true)
    (a_Talk___len__ : PySem.W.findIn K (.ref C_Talk) "__len__" = some (some (.ref f_Talk___len__)))
    (i_Talk___len__ : PySem.W.isFn K (.ref f_Talk___len__) = true)
    (l_Talk___len__ : K.lookup f_Talk___len__ = some ⟨oc_Talk___len__, od_Talk___len__, .func (PySem.W.fnOf "__len__" "Talk.__len__" (defArgs s_Talk___len__) (defBody s_Talk___len__) (defScope s_Talk___len__) .none kV_Talk___len__ dc_Talk___len__ pm_Talk___len__ an_Talk___len__ cd_Talk___len__ ct_Talk___len__), sl_Talk___len__⟩)
    (c_Talk___len__ : PySem.W.codeIn K cd_Talk___len__ "Talk.__len__" = true)
    (k_Talk___len__ : PySem.W.keepIn K (.ref f_Talk___len__) = true)
    (a_Talk___eq__ : PySem.W.findIn K (.ref C_Talk) "__eq__" = some (some (.ref f_Talk___eq__)))
    (i_Talk___eq__ : PySem.W.isFn K (.ref f_Talk___eq__) = true)
    (l_Talk___eq__ : K.lookup f_Talk___eq__ = some ⟨oc_Talk___eq__, od_Talk___eq__, .func (PySem.W.fnOf "__eq__" "Talk.__eq__" (defArgs s_Talk___eq__) (defBody s_Talk___eq__) (defScope s_Talk___eq__) .none kV_Talk___eq__ dc_Talk___eq__ pm_Talk___eq__ an_Talk___eq__ cd_Talk___eq__ ct_Talk___eq__), sl_Talk___eq__⟩)
    (c_Talk___eq__ : PySem.W.codeIn K cd_Talk___eq__ "Talk.__eq__" = true)
    (k_Talk___eq__ : PySem.W.keepIn K (.ref f_Talk___eq__) = true)
    (a_is_order : PySem.W.nsIn K mainGlobals "is_order" = some (some (.ref f_is_order)))
    (l_is_order : K.lookup f_is_order = some ⟨oc_is_order, od_is_order, .func (PySem.W.fnOf "is_order" "is_order" (defArgs s_is_order) (defBody s_is_order) (defScope s_is_order) .none kV_is_order dc_is_order pm_is_order an_is_order cd_is_order ct_is_order), sl_is_order⟩)
    (c_is_order : PySem.W.codeIn K cd_is_order "is_order" = true)
    (k_is_order : PySem.W.keepIn K (.ref f_is_order) = true)
    (a_is_list_of_rounds : PySem.W.nsIn K mainGlobals "is_list_of_rounds" = some (some (.ref f_is_list_of_rounds)))
    (l_is_list_of_rounds : K.lookup f_is_list_of_rounds = some ⟨oc_is_list_of_rounds, od_is_list_of_rounds, .func (PySem.W.fnOf "is_list_of_rounds" "is_list_of_rounds" (defArgs s_is_list_of_rounds) (defBody s_is_list_of_rounds) (defScope s_is_list_of_rounds) .none kV_is_list_of_rounds dc_is_list_of_rounds pm_is_list_of_rounds an_is_list_of_rounds cd_is_list_of_rounds ct_is_list_of_rounds), sl_is_list_of_rounds⟩)
    (c_is_list_of_rounds : PySem.W.codeIn K cd_is_list_of_rounds "is_list_of_rounds" = true)
    (k_is_list_of_rounds : PySem.W.keepIn K (.ref f_is_list_of_rounds) = true)
    (a_rounds_of_order : PySem.W.nsIn K mainGlobals "rounds_of_order" = some (some (.ref f_rounds_of_order)))
    (l_rounds_of_order : K.lookup f_rounds_of_order = some ⟨oc_rounds_of_order, od_rounds_of_order, .func (PySem.W.fnOf "rounds_of_order" "rounds_of_order" (defArgs s_rounds_of_order) (defBody s_rounds_of_order) (defScope s_rounds_of_order) .none kV_rounds_of_order dc_rounds_of_order pm_rounds_of_order an_rounds_of_order cd_rounds_of_order ct_rounds_of_order), sl_rounds_of_order⟩)
    (c_rounds_of_order : PySem.W.codeIn K cd_rounds_of_order "rounds_of_order" = true)
    (k_rounds_of_order : PySem.W.keepIn K (.ref f_rounds_of_order) = true)
    (a_order_of_rounds : PySem.W.nsIn K mainGlobals "order_of_rounds" = some (some (.ref f_order_of_rounds)))
    (l_order_of_rounds : K.lookup f_order_of_rounds = some ⟨oc_order_of_rounds, od_order_of_rounds, .func (PySem.W.fnOf "order_of_rounds" "order_of_rounds" (defArgs s_order_of_rounds) (defBody s_order_of_rounds) (defScope s_order_of_rounds) .none kV_order_of_rounds dc_order_of_rounds pm_order_of_rounds an_order_of_rounds cd_order_of_rounds ct_order_of_rounds), sl_order_of_rounds⟩)
    (c_order_of_rounds : PySem.W.codeIn K cd_order_of_rounds "order_of_rounds" = true)
    (k_order_of_rounds : PySem.W.keepIn K (.ref f_order_of_rounds) = true)
    (a_Cup___init__ : PySem.W.findIn K (.ref C_Cup) "__init__" = some (some (.ref f_Cup___init__)))
    (i_Cup___init__ : PySem.W.isFn K (.ref f_Cup___init__) = true)
    (l_Cup___init__ : K.lookup f_Cup___init__ = some ⟨oc_Cup___init__, od_Cup___init__, .func (PySem.W.fnOf "__init__" "Cup.__init__" (defArgs s_Cup___init__) (defBody s_Cup___init__) (defScope s_Cup___init__) .none kV_Cup___init__ dc_Cup___init__ pm_Cup___init__ an_Cup___init__ cd_Cup___init__ ct_Cup___init__), sl_Cup___init__⟩)
    (c_Cup___init__ : PySem.W.codeIn K cd_Cup___init__ "Cup.__init__" = true)
    (k_Cup___init__ : PySem.W.keepIn K (.ref f_Cup___init__) = true)
    (a_Cup_of : PySem.W.findCls K (.ref C_Cup) (.type "type") "of" = some (.get (.builtin "classmethod.__get__") (.ref p_Cup_of) .none (.ref C_Cup)))
    (r_Cup_of : PySem.W.recIn K p_Cup_of "classmethod" = some (.ref f_Cup_of :: rs_Cup_of))
    (fi_Cup_of : PySem.W.fnIn K f_Cup_of = true)
    (l_Cup_of : K.lookup f_Cup_of = some ⟨oc_Cup_of, od_Cup_of, .func (PySem.W.fnOf "of" "Cup.of" (defArgs s_Cup_of) (defBody s_Cup_of) (defScope s_Cup_of) .none kV_Cup_of dc_Cup_of pm_Cup_of an_Cup_of cd_Cup_of ct_Cup_of), sl_Cup_of⟩)
    (c_Cup_of : PySem.W.codeIn K cd_Cup_of "Cup.of" = true)
    (k_Cup_of : PySem.W.keepIn K (.ref f_Cup_of) = true)
    (a_Cup_order : PySem.W.findIn K (.ref C_Cup) "order" = some (some (.ref p_Cup_order)))
    (g_Cup_order : PySem.W.specialIn K (.ref p_Cup_order) "__get__" = some (some (.builtin "property.__get__")))
    (t_Cup_order : PySem.W.takesIn K (.ref p_Cup_order) = some true)
    (r_Cup_order : PySem.W.recIn K p_Cup_order "property" = some (.ref f_Cup_order :: rs_Cup_order))
    (l_Cup_order : K.lookup f_Cup_order = some ⟨oc_Cup_order, od_Cup_order, .func (PySem.W.fnOf "order" "Cup.order" (defArgs s_Cup_order) (defBody s_Cup_order) (defScope s_Cup_order) .none kV_Cup_order dc_Cup_order pm_Cup_order an_Cup_order cd_Cup_order ct_Cup_order), sl_Cup_order⟩)
    (c_Cup_order : PySem.W.codeIn K cd_Cup_order "Cup.order" = true)
    (k_Cup_order : PySem.W.keepIn K (.ref f_Cup_order) = true)
    (a_Cup_size : PySem.W.findIn K (.ref C_Cup) "size" = some (some (.ref p_Cup_size)))
    (g_Cup_size : PySem.W.specialIn K (.ref p_Cup_size) "__get__" = some (some (.builtin "property.__get__")))
    (t_Cup_size : PySem.W.takesIn K (.ref p_Cup_size) = some true)
    (r_Cup_size : PySem.W.recIn K p_Cup_size "property" = some (.ref f_Cup_size :: rs_Cup_size))
    (l_Cup_size : K.lookup f_Cup_size = some ⟨oc_Cup_size, od_Cup_size, .func (PySem.W.fnOf "size" "Cup.size" (defArgs s_Cup_size) (defBody s_Cup_size) (defScope s_Cup_size) .none kV_Cup_size dc_Cup_size pm_Cup_size an_Cup_size cd_Cup_size ct_Cup_size), sl_Cup_size⟩)
    (c_Cup_size : PySem.W.codeIn K cd_Cup_size "Cup.size" = true)
    (k_Cup_size : PySem.W.keepIn K (.ref f_Cup_size) = true)
    (a_Cup___eq__ : PySem.W.findIn K (.ref C_Cup) "__eq__" = some (some (.ref f_Cup___eq__)))
    (i_Cup___eq__ : PySem.W.isFn K (.ref f_Cup___eq__) = true)
    (l_Cup___eq__ : K.lookup f_Cup___eq__ = some ⟨oc_Cup___eq__, od_Cup___eq__, .func (PySem.W.fnOf "__eq__" "Cup.__eq__" (defArgs s_Cup___eq__) (defBody s_Cup___eq__) (defScope s_Cup___eq__) .none kV_Cup___eq__ dc_Cup___eq__ pm_Cup___eq__ an_Cup___eq__ cd_Cup___eq__ ct_Cup___eq__), sl_Cup___eq__⟩)
    (c_Cup___eq__ : PySem.W.codeIn K cd_Cup___eq__ "Cup.__eq__" = true)
    (k_Cup___eq__ : PySem.W.keepIn K (.ref f_Cup___eq__) = true)
    (a_Cup_rounds : PySem.W.findIn K (.ref C_Cup) "rounds" = some (some (.ref f_Cup_rounds)))
    (i_Cup_rounds : PySem.W.isFn K (.ref f_Cup_rounds) = true)
    (l_Cup_rounds : K.lookup f_Cup_rounds = some ⟨oc_Cup_rounds, od_Cup_rounds, .func (PySem.W.fnOf "rounds" "Cup.rounds" (defArgs s_Cup_rounds) (defBody s_Cup_rounds) (defScope s_Cup_rounds) .none kV_Cup_rounds dc_Cup_rounds pm_Cup_rounds an_Cup_rounds cd_Cup_rounds ct_Cup_rounds), sl_Cup_rounds⟩)
    (c_Cup_rounds : PySem.W.codeIn K cd_Cup_rounds "Cup.rounds" = true)
    (k_Cup_rounds : PySem.W.keepIn K (.ref f_Cup_rounds) = true)
    (a_Cup_matches : PySem.W.findIn K (.ref C_Cup) "matches" = some (some (.ref f_Cup_matches)))
    (i_Cup_matches : PySem.W.isFn K (.ref f_Cup_matches) = true)
    (l_Cup_matches : K.lookup f_Cup_matches = some ⟨oc_Cup_matches, od_Cup_matches, .func (PySem.W.fnOf "matches" "Cup.matches" (defArgs s_Cup_matches) (defBody s_Cup_matches) (defScope s_Cup_matches) .none kV_Cup_matches dc_Cup_matches pm_Cup_matches an_Cup_matches cd_Cup_matches ct_Cup_matches), sl_Cup_matches⟩)
    (c_Cup_matches : PySem.W.codeIn K cd_Cup_matches "Cup.matches" = true)
    (k_Cup_matches : PySem.W.keepIn K (.ref f_Cup_matches) = true)
    (a_Cup_talk : PySem.W.findIn K (.ref C_Cup) "talk" = some (some (.ref f_Cup_talk)))
    (i_Cup_talk : PySem.W.isFn K (.ref f_Cup_talk) = true)
    (l_Cup_talk : K.lookup f_Cup_talk = some ⟨oc_Cup_talk, od_Cup_talk, .func (PySem.W.fnOf "talk" "Cup.talk" (defArgs s_Cup_talk) (defBody s_Cup_talk) (defScope s_Cup_talk) .none kV_Cup_talk dc_Cup_talk pm_Cup_talk an_Cup_talk cd_Cup_talk ct_Cup_talk), sl_Cup_talk⟩)
    (c_Cup_talk : PySem.W.codeIn K cd_Cup_talk "Cup.talk" = true)
    (k_Cup_talk : PySem.W.keepIn K (.ref f_Cup_talk) = true)
    (a_law_feed : PySem.W.nsIn K mainGlobals "_law_feed" = some (some (.ref f_law_feed)))
    (l_law_feed : K.lookup f_law_feed = some ⟨oc_law_feed, od_law_feed, .func (PySem.W.fnOf "_law_feed" "_law_feed" (defArgs s_law_feed) (defBody s_law_feed) (defScope s_law_feed) .none kV_law_feed dc_law_feed pm_law_feed an_law_feed cd_law_feed ct_law_feed), sl_law_feed⟩)
    (c_law_feed : PySem.W.codeIn K cd_law_feed "_law_feed" = true)
    (k_law_feed : PySem.W.keepIn K (.ref f_law_feed) = true)
    (a_law_pick : PySem.W.nsIn K mainGlobals "_law_pick" = some (some (.ref f_law_pick)))
    (l_law_pick : K.lookup f_law_pick = some ⟨oc_law_pick, od_law_pick, .func (PySem.W.fnOf "_law_pick" "_law_pick" (defArgs s_law_pick) (defBody s_law_pick) (defScope s_law_pick) .none kV_law_pick dc_law_pick pm_law_pick an_law_pick cd_law_pick ct_law_pick), sl_law_pick⟩)
    (c_law_pick : PySem.W.codeIn K cd_law_pick "_law_pick" = true)
    (k_law_pick : PySem.W.keepIn K (.ref f_law_pick) = true)
    (a_law_shuffled : PySem.W.nsIn K mainGlobals "_law_shuffled" = some (some (.ref f_law_shuffled)))
    (l_law_shuffled : K.lookup f_law_shuffled = some ⟨oc_law_shuffled, od_law_shuffled, .func (PySem.W.fnOf "_law_shuffled" "_law_shuffled" (defArgs s_law_shuffled) (defBody s_law_shuffled) (defScope s_law_shuffled) .none kV_law_shuffled dc_law_shuffled pm_law_shuffled an_law_shuffled cd_law_shuffled ct_law_shuffled), sl_law_shuffled⟩)
    (c_law_shuffled : PySem.W.codeIn K cd_law_shuffled "_law_shuffled" = true)
    (k_law_shuffled : PySem.W.keepIn K (.ref f_law_shuffled) = true)
    (a_law_players : PySem.W.nsIn K mainGlobals "_law_players" = some (some (.ref f_law_players)))
    (l_law_players : K.lookup f_law_players = some ⟨oc_law_players, od_law_players, .func (PySem.W.fnOf "_law_players" "_law_players" (defArgs s_law_players) (defBody s_law_players) (defScope s_law_players) .none kV_law_players dc_law_players pm_law_players an_law_players cd_law_players ct_law_players), sl_law_players⟩)
    (c_law_players : PySem.W.codeIn K cd_law_players "_law_players" = true)
    (k_law_players : PySem.W.keepIn K (.ref f_law_players) = true)
    (a_law_order : PySem.W.nsIn K mainGlobals "_law_order" = some (some (.ref f_law_order)))
    (l_law_order : K.lookup f_law_order = some ⟨oc_law_order, od_law_order, .func (PySem.W.fnOf "_law_order" "_law_order" (defArgs s_law_order) (defBody s_law_order) (defScope s_law_order) .none kV_law_order dc_law_order pm_law_order an_law_order cd_law_order ct_law_order), sl_law_order⟩)
    (c_law_order : PySem.W.codeIn K cd_law_order "_law_order" = true)
    (k_law_order : PySem.W.keepIn K (.ref f_law_order) = true)
    (a_law_played : PySem.W.nsIn K mainGlobals "_law_played" = some (some (.ref f_law_played)))
    (l_law_played : K.lookup f_law_played = some ⟨oc_law_played, od_law_played, .func (PySem.W.fnOf "_law_played" "_law_played" (defArgs s_law_played) (defBody s_law_played) (defScope s_law_played) .none kV_law_played dc_law_played pm_law_played an_law_played cd_law_played ct_law_played), sl_law_played⟩)
    (c_law_played : PySem.W.codeIn K cd_law_played "_law_played" = true)
    (k_law_played : PySem.W.keepIn K (.ref f_law_played) = true)
    (a_law_right : PySem.W.nsIn K mainGlobals "_law_right" = some (some (.ref f_law_right)))
    (l_law_right : K.lookup f_law_right = some ⟨oc_law_right, od_law_right, .func (PySem.W.fnOf "_law_right" "_law_right" (defArgs s_law_right) (defBody s_law_right) (defScope s_law_right) .none kV_law_right dc_law_right pm_law_right an_law_right cd_law_right ct_law_right), sl_law_right⟩)
    (c_law_right : PySem.W.codeIn K cd_law_right "_law_right" = true)
    (k_law_right : PySem.W.keepIn K (.ref f_law_right) = true)
    (a_law : PySem.W.nsIn K mainGlobals "law" = some (some (.ref f_law)))
    (l_law : K.lookup f_law = some ⟨oc_law, od_law, .func (PySem.W.fnOf "law" "law" (defArgs s_law) (defBody s_law) (defScope s_law) .none kV_law dc_law pm_law an_law cd_law ct_law), sl_law⟩)
    (c_law : PySem.W.codeIn K cd_law "law" = true)
    (k_law : PySem.W.keepIn K (.ref f_law) = true)
    (pg_Cup : PySem.W.plainGet K C_Cup Str.empty = true)
    (hd_Cup : PySem.W.hasDictIn K C_Cup = true)
    (po_Cup : PySem.W.plainOver K C_Cup = true)
    (sa_Cup : PySem.W.findIn K (.ref C_Cup) "__setattr__" = some (some (.builtin "object.__setattr__")))
    (mk_Cup : PySem.W.makesIn K C_Cup = true)
    (kc_Cup : PySem.W.keepIn K (.ref C_Cup) = true)
    (pg_Talk : PySem.W.plainGet K C_Talk Str.empty = true)
    (hd_Talk : PySem.W.hasDictIn K C_Talk = true)
    (po_Talk : PySem.W.plainOver K C_Talk = true)
    (sa_Talk : PySem.W.findIn K (.ref C_Talk) "__setattr__" = some (some (.builtin "object.__setattr__")))
    (mk_Talk : PySem.W.makesIn K C_Talk = true)
    (kc_Talk : PySem.W.keepIn K (.ref C_Talk) = true)
    (y1_Cup : PySem.W.readsIn K C_Cup (.type "type") = true)
    (y2_Cup : PySem.W.specialIn K (.ref C_Cup) "__getattribute__" = some (some (.builtin "type.__getattribute__")))
    (mo_Cup : PySem.W.mroIn K C_Cup (.type "object") = some true)
    (ne_Cup : PySem.W.findIn K (.ref C_Cup) "__ne__" = some (some (.builtin "object.__ne__")))
    (oa_Cup : PySem.W.mroIn K C_Cup (.type "object") = some true)
    (ob_Cup : PySem.W.typeIn K (.ref C_Cup) = some (.type "type"))
    (od_Cup : PySem.W.subIn K (.ref C_Cup) (.ref C_Cup) = some true)
    (o2_Cup_NoneType : PySem.W.subIn K (.type "NoneType") (.ref C_Cup) = some false)
    (o2_Cup_int : PySem.W.subIn K (.type "int") (.ref C_Cup) = some false)
    (o2_Cup_bool : PySem.W.subIn K (.type "bool") (.ref C_Cup) = some false)
    (o2_Cup_str : PySem.W.subIn K (.type "str") (.ref C_Cup) = some false)
    (o2_Cup_list : PySem.W.subIn K (.type "list") (.ref C_Cup) = some false)
    (o2_Cup_tuple : PySem.W.subIn K (.type "tuple") (.ref C_Cup) = some false)
    (o2_Cup_dict : PySem.W.subIn K (.type "dict") (.ref C_Cup) = some false)
    (o2_Cup_Talk : PySem.W.subIn K (.ref C_Talk) (.ref C_Cup) = some false)
    (x1_Cup : PySem.W.findIn K (.ref C_Cup) "__class__" = some (some (.builtin "object.__class__")))
    (x2_Cup : PySem.W.specialIn K (.builtin "object.__class__") "__get__" = some (some (.builtin "getset_descriptor.__get__")))
    (x3_Cup : PySem.W.takesIn K (.builtin "object.__class__") = some true)
    (x4_Cup : PySem.W.mroIn K C_Cup (.type "object") = some true)
    (x1_Talk : PySem.W.findIn K (.ref C_Talk) "__class__" = some (some (.builtin "object.__class__")))
    (x2_Talk : PySem.W.specialIn K (.builtin "object.__class__") "__get__" = some (some (.builtin "getset_descriptor.__get__")))
    (x3_Talk : PySem.W.takesIn K (.builtin "object.__class__") = some true)
    (x4_Talk : PySem.W.mroIn K C_Talk (.type "object") = some true)
    (c_LARGEST_SIZE : PySem.W.nsIn K mainGlobals "LARGEST_SIZE" = some (some (.int 6 tk_LARGEST_SIZE)))
    (c_MOST_ITEMS : PySem.W.nsIn K mainGlobals "MOST_ITEMS" = some (some (.int 200 tk_MOST_ITEMS)))
    (n_Cup__beaten : PySem.W.findIn K (.ref C_Cup) "_beaten" = some none)
    (n_Cup__conquerors : PySem.W.findIn K (.ref C_Cup) "_conquerors" = some none)
    (n_Cup__order : PySem.W.findIn K (.ref C_Cup) "_order" = some none)
    (n_Cup__rounds : PySem.W.findIn K (.ref C_Cup) "_rounds" = some none)
    (n_Talk__claims : PySem.W.findIn K (.ref C_Talk) "_claims" = some none)
    (n_Talk__results : PySem.W.findIn K (.ref C_Talk) "_results" = some none)
    (n_Talk__size : PySem.W.findIn K (.ref C_Talk) "_size" = some none)
    (t_NUMBERS_OF_PLAYERS : PySem.W.nsIn K mainGlobals "NUMBERS_OF_PLAYERS" = some (some (.ref K_NUMBERS_OF_PLAYERS)))
    (lq_NUMBERS_OF_PLAYERS : K.lookup K_NUMBERS_OF_PLAYERS = some ⟨.type "tuple", odq_NUMBERS_OF_PLAYERS, .seq #[.int 1 tq0_NUMBERS_OF_PLAYERS, .int 2 tq1_NUMBERS_OF_PLAYERS, .int 4 tq2_NUMBERS_OF_PLAYERS, .int 8 tq3_NUMBERS_OF_PLAYERS, .int 16 tq4_NUMBERS_OF_PLAYERS, .int 32 tq5_NUMBERS_OF_PLAYERS, .int 64 tq6_NUMBERS_OF_PLAYERS] nq_NUMBERS_OF_PLAYERS, sq_NUMBERS_OF_PLAYERS⟩)
    (z_abs : PySem.W.nsIn K mainGlobals "abs" = some none)
    (z_all : PySem.W.nsIn K mainGlobals "all" = some none)
    (z_bool : PySem.W.nsIn K mainGlobals "bool" = some none)
    (z_int : PySem.W.nsIn K mainGlobals "int" = some none)
    (z_isinstance : PySem.W.nsIn K mainGlobals "isinstance" = some none)
    (z_len : PySem.W.nsIn K mainGlobals "len" = some none)
    (z_list : PySem.W.nsIn K mainGlobals "list" = some none)
    (z_max : PySem.W.nsIn K mainGlobals "max" = some none)
    (z_min : PySem.W.nsIn K mainGlobals "min" = some none)
    (z_range : PySem.W.nsIn K mainGlobals "range" = some none)
    (z_repr : PySem.W.nsIn K mainGlobals "repr" = some none)
    (z_set : PySem.W.nsIn K mainGlobals "set" = some none)
    (z_sorted : PySem.W.nsIn K mainGlobals "sorted" = some none)
    (z_tuple : PySem.W.nsIn K mainGlobals "tuple" = some none) :
    ∃ fd : FuncData, (∀ (s : Shared) (v : Value), BindsTo s fd ⟨[v], []⟩ [("script", v)]) ∧ ∀ base : Heap, K.In base → base.Ns mainGlobals mg → FnG l.prog w K mg base 9 fa fd ["script"] (spLaw K) := by
  have e := hfa.symm.trans (PySem.W.mg_of X G a_law)
  cases e
  have T : Txt K mg { f_is_integer := f_is_integer, d_is_integer := PySem.W.fnOf "is_integer" "is_integer" (defArgs s_is_integer) (defBody s_is_integer) (defScope s_is_integer) .none kV_is_integer dc_is_integer pm_is_integer an_is_integer cd_is_integer ct_is_integer, f_is_size := f_is_size, d_is_size := PySem.W.fnOf "is_size" "is_size" (defArgs s_is_size) (defBody s_is_size) (defScope s_is_size) .none kV_is_size dc_is_size pm_is_size an_is_size cd_is_size ct_is_size, f_is_player := f_is_player, d_is_player := PySem.W.fnOf "is_player" "is_player" (defArgs s_is_player) (defBody s_is_player) (defScope s_is_player) .none kV_is_player dc_is_player pm_is_player an_is_player cd_is_player ct_is_player, f_is_number := f_is_number, d_is_number := PySem.W.fnOf "is_number" "is_number" (defArgs s_is_number) (defBody s_is_number) (defScope s_is_number) .none kV_is_number dc_is_number pm_is_number an_is_number cd_is_number ct_is_number, f_is_pair := f_is_pair, d_is_pair := PySem.W.fnOf "is_pair" "is_pair" (defArgs s_is_pair) (defBody s_is_pair) (defScope s_is_pair) .none kV_is_pair dc_is_pair pm_is_pair an_is_pair cd_is_pair ct_is_pair, f_is_result := f_is_result, d_is_result := PySem.W.fnOf "is_result" "is_result" (defArgs s_is_result) (defBody s_is_result) (defScope s_is_result) .none kV_is_result dc_is_result pm_is_result an_is_result cd_is_result ct_is_result, f_is_claim := f_is_claim, d_is_claim := PySem.W.fnOf "is_claim" "is_claim" (defArgs s_is_claim) (defBody s_is_claim) (defScope s_is_claim) .none kV_is_claim dc_is_claim pm_is_claim an_is_claim cd_is_claim ct_is_claim, f_is_short_list := f_is_short_list, d_is_short_list := PySem.W.fnOf "is_short_list" "is_short_list" (defArgs s_is_short_list) (defBody s_is_short_list) (defScope s_is_short_list) .none kV_is_short_list dc_is_short_list pm_is_short_list an_is_short_list cd_is_short_list ct_is_short_list, f_check_size := f_check_size, d_check_size := PySem.W.fnOf "check_size" "check_size" (defArgs s_check_size) (defBody s_check_size) (defScope s_check_size) .none kV_check_size dc_check_size pm_check_size an_check_size cd_check_size ct_check_size, f_check_results := f_check_results, d_check_results := PySem.W.fnOf "check_results" "check_results" (defArgs s_check_results) (defBody s_check_results) (defScope s_check_results) .none kV_check_results dc_check_results pm_check_results an_check_results cd_check_results ct_check_results, f_check_claims := f_check_claims, d_check_claims := PySem.W.fnOf "check_claims" "check_claims" (defArgs s_check_claims) (defBody s_check_claims) (defScope s_check_claims) .none kV_check_claims dc_check_claims pm_check_claims an_check_claims cd_check_claims ct_check_claims, f_greatest_claims := f_greatest_claims, d_greatest_claims := PySem.W.fnOf "greatest_claims" "greatest_claims" (defArgs s_greatest_claims) (defBody s_greatest_claims) (defScope s_greatest_claims) .none kV_greatest_claims dc_greatest_claims pm_greatest_claims an_greatest_claims cd_greatest_claims ct_greatest_claims, f_Talk___init__ := f_Talk___init__, d_Talk___init__ := PySem.W.fnOf "__init__" "Talk.__init__" (defArgs s_Talk___init__) (defBody s_Talk___init__) (defScope s_Talk___init__) .none kV_Talk___init__ dc_Talk___init__ pm_Talk___init__ an_Talk___init__ cd_Talk___init__ ct_Talk___init__, f_Talk_size := f_Talk_size, d_Talk_size := PySem.W.fnOf "size" "Talk.size" (defArgs s_Talk_size) (defBody s_Talk_size) (defScope s_Talk_size) .none kV_Talk_size dc_Talk_size pm_Talk_size an_Talk_size cd_Talk_size ct_Talk_size, f_Talk_results := f_Talk_results, d_Talk_results := PySem.W.fnOf "results" "Talk.results" (defArgs s_Talk_results) (defBody s_Talk_results) (defScope s_Talk_results) .none kV_Talk_results dc_Talk_results pm_Talk_results an_Talk_results cd_Talk_results ct_Talk_results, f_Talk_claims := f_Talk_claims, d_Talk_claims := PySem.W.fnOf "claims" "Talk.claims" (defArgs s_Talk_claims) (defBody s_Talk_claims) (defScope s_Talk_claims) .none kV_Talk_claims dc_Talk_claims pm_Talk_claims an_Talk_claims cd_Talk_claims ct_Talk_claims, f_Talk___len__ := f_Talk___len__, d_Talk___len__ := PySem.W.fnOf "__len__" "Talk.__len__" (defArgs s_Talk___len__) (defBody s_Talk___len__) (defScope s_Talk___len__) .none kV_Talk___len__ dc_Talk___len__ pm_Talk___len__ an_Talk___len__ cd_Talk___len__ ct_Talk___len__, f_Talk___eq__ := f_Talk___eq__, d_Talk___eq__ := PySem.W.fnOf "__eq__" "Talk.__eq__" (defArgs s_Talk___eq__) (defBody s_Talk___eq__) (defScope s_Talk___eq__) .none kV_Talk___eq__ dc_Talk___eq__ pm_Talk___eq__ an_Talk___eq__ cd_Talk___eq__ ct_Talk___eq__, f_is_order := f_is_order, d_is_order := PySem.W.fnOf "is_order" "is_order" (defArgs s_is_order) (defBody s_is_order) (defScope s_is_order) .none kV_is_order dc_is_order pm_is_order an_is_order cd_is_order ct_is_order, f_is_list_of_rounds := f_is_list_of_rounds, d_is_list_of_rounds := PySem.W.fnOf "is_list_of_rounds" "is_list_of_rounds" (defArgs s_is_list_of_rounds) (defBody s_is_list_of_rounds) (defScope s_is_list_of_rounds) .none kV_is_list_of_rounds dc_is_list_of_rounds pm_is_list_of_rounds an_is_list_of_rounds cd_is_list_of_rounds ct_is_list_of_rounds, f_rounds_of_order := f_rounds_of_order, d_rounds_of_order := PySem.W.fnOf "rounds_of_order" "rounds_of_order" (defArgs s_rounds_of_order) (defBody s_rounds_of_order) (defScope s_rounds_of_order) .none kV_rounds_of_order dc_rounds_of_order pm_rounds_of_order an_rounds_of_order cd_rounds_of_order ct_rounds_of_order, f_order_of_rounds := f_order_of_rounds, d_order_of_rounds := PySem.W.fnOf "order_of_rounds" "order_of_rounds" (defArgs s_order_of_rounds) (defBody s_order_of_rounds) (defScope s_order_of_rounds) .none kV_order_of_rounds dc_order_of_rounds pm_order_of_rounds an_order_of_rounds cd_order_of_rounds ct_order_of_rounds, f_Cup___init__ := f_Cup___init__, d_Cup___init__ := PySem.W.fnOf "__init__" "Cup.__init__" (defArgs s_Cup___init__) (defBody s_Cup___init__) (defScope s_Cup___init__) .none kV_Cup___init__ dc_Cup___init__ pm_Cup___init__ an_Cup___init__ cd_Cup___init__ ct_Cup___init__, f_Cup_of := f_Cup_of, d_Cup_of := PySem.W.fnOf "of" "Cup.of" (defArgs s_Cup_of) (defBody s_Cup_of) (defScope s_Cup_of) .none kV_Cup_of dc_Cup_of pm_Cup_of an_Cup_of cd_Cup_of ct_Cup_of, f_Cup_order := f_Cup_order, d_Cup_order := PySem.W.fnOf "order" "Cup.order" (defArgs s_Cup_order) (defBody s_Cup_order) (defScope s_Cup_order) .none kV_Cup_order dc_Cup_order pm_Cup_order an_Cup_order cd_Cup_order ct_Cup_order, f_Cup_size := f_Cup_size, d_Cup_size := PySem.W.fnOf "size" "Cup.size" (defArgs s_Cup_size) (defBody s_Cup_size) (defScope s_Cup_size) .none kV_Cup_size dc_Cup_size pm_Cup_size an_Cup_size cd_Cup_size ct_Cup_size, f_Cup___eq__ := f_Cup___eq__, d_Cup___eq__ := PySem.W.fnOf "__eq__" "Cup.__eq__" (defArgs s_Cup___eq__) (defBody s_Cup___eq__) (defScope s_Cup___eq__) .none kV_Cup___eq__ dc_Cup___eq__ pm_Cup___eq__ an_Cup___eq__ cd_Cup___eq__ ct_Cup___eq__, f_Cup_rounds := f_Cup_rounds, d_Cup_rounds := PySem.W.fnOf "rounds" "Cup.rounds" (defArgs s_Cup_rounds) (defBody s_Cup_rounds) (defScope s_Cup_rounds) .none kV_Cup_rounds dc_Cup_rounds pm_Cup_rounds an_Cup_rounds cd_Cup_rounds ct_Cup_rounds, f_Cup_matches := f_Cup_matches, d_Cup_matches := PySem.W.fnOf "matches" "Cup.matches" (defArgs s_Cup_matches) (defBody s_Cup_matches) (defScope s_Cup_matches) .none kV_Cup_matches dc_Cup_matches pm_Cup_matches an_Cup_matches cd_Cup_matches ct_Cup_matches, f_Cup_talk := f_Cup_talk, d_Cup_talk := PySem.W.fnOf "talk" "Cup.talk" (defArgs s_Cup_talk) (defBody s_Cup_talk) (defScope s_Cup_talk) .none kV_Cup_talk dc_Cup_talk pm_Cup_talk an_Cup_talk cd_Cup_talk ct_Cup_talk, f_law_feed := f_law_feed, d_law_feed := PySem.W.fnOf "_law_feed" "_law_feed" (defArgs s_law_feed) (defBody s_law_feed) (defScope s_law_feed) .none kV_law_feed dc_law_feed pm_law_feed an_law_feed cd_law_feed ct_law_feed, f_law_pick := f_law_pick, d_law_pick := PySem.W.fnOf "_law_pick" "_law_pick" (defArgs s_law_pick) (defBody s_law_pick) (defScope s_law_pick) .none kV_law_pick dc_law_pick pm_law_pick an_law_pick cd_law_pick ct_law_pick, f_law_shuffled := f_law_shuffled, d_law_shuffled := PySem.W.fnOf "_law_shuffled" "_law_shuffled" (defArgs s_law_shuffled) (defBody s_law_shuffled) (defScope s_law_shuffled) .none kV_law_shuffled dc_law_shuffled pm_law_shuffled an_law_shuffled cd_law_shuffled ct_law_shuffled, f_law_players := f_law_players, d_law_players := PySem.W.fnOf "_law_players" "_law_players" (defArgs s_law_players) (defBody s_law_players) (defScope s_law_players) .none kV_law_players dc_law_players pm_law_players an_law_players cd_law_players ct_law_players, f_law_order := f_law_order, d_law_order := PySem.W.fnOf "_law_order" "_law_order" (defArgs s_law_order) (defBody s_law_order) (defScope s_law_order) .none kV_law_order dc_law_order pm_law_order an_law_order cd_law_order ct_law_order, f_law_played := f_law_played, d_law_played := PySem.W.fnOf "_law_played" "_law_played" (defArgs s_law_played) (defBody s_law_played) (defScope s_law_played) .none kV_law_played dc_law_played pm_law_played an_law_played cd_law_played ct_law_played, f_law_right := f_law_right, d_law_right := PySem.W.fnOf "_law_right" "_law_right" (defArgs s_law_right) (defBody s_law_right) (defScope s_law_right) .none kV_law_right dc_law_right pm_law_right an_law_right cd_law_right ct_law_right, f_law := fa, d_law := PySem.W.fnOf "law" "law" (defArgs s_law) (defBody s_law) (defScope s_law) .none kV_law dc_law pm_law an_law cd_law ct_law, C_Cup := C_Cup, C_Talk := C_Talk, p_Talk_size := p_Talk_size, p_Talk_results := p_Talk_results, p_Talk_claims := p_Talk_claims, p_Cup_order := p_Cup_order, p_Cup_size := p_Cup_size, p_Cup_of := p_Cup_of, K_NUMBERS_OF_PLAYERS := K_NUMBERS_OF_PLAYERS } := {
    F_is_integer := fun_mk (st := s_is_integer) l_is_integer c_is_integer k_is_integer,
    b_is_integer := (fun_mk (st := s_is_integer) l_is_integer c_is_integer k_is_integer).binds (ps := ["thing"]) fun _ _ _ _ _ _ us hl => match us, hl with | [_], _ => rfl,
    m_is_integer := PySem.W.mg_of X G a_is_integer,
    F_is_size := fun_mk (st := s_is_size) l_is_size c_is_size k_is_size,
    b_is_size := (fun_mk (st := s_is_size) l_is_size c_is_size k_is_size).binds (ps := ["thing"]) fun _ _ _ _ _ _ us hl => match us, hl with | [_], _ => rfl,
    m_is_size := PySem.W.mg_of X G a_is_size,
    F_is_player := fun_mk (st := s_is_player) l_is_player c_is_player k_is_player,
    b_is_player := (fun_mk (st := s_is_player) l_is_player c_is_player k_is_player).binds (ps := ["thing", "size"]) fun _ _ _ _ _ _ us hl => match us, hl with | [_, _], _ => rfl,
    m_is_player := PySem.W.mg_of X G a_is_player,
    F_is_number := fun_mk (st := s_is_number) l_is_number c_is_number k_is_number,
    b_is_number := (fun_mk (st := s_is_number) l_is_number c_is_number k_is_number).binds (ps := ["thing", "size"]) fun _ _ _ _ _ _ us hl => match us, hl with | [_, _], _ => rfl,
    m_is_number := PySem.W.mg_of X G a_is_number,
    F_is_pair := fun_mk (st := s_is_pair) l_is_pair c_is_pair k_is_pair,
    b_is_pair := (fun_mk (st := s_is_pair) l_is_pair c_is_pair k_is_pair).binds (ps := ["thing"]) fun _ _ _ _ _ _ us hl => match us, hl with | [_], _ => rfl,
    m_is_pair := PySem.W.mg_of X G a_is_pair,
    F_is_result := fun_mk (st := s_is_result) l_is_result c_is_result k_is_result,
    b_is_result := (fun_mk (st := s_is_result) l_is_result c_is_result k_is_result).binds (ps := ["thing", "size"]) fun _ _ _ _ _ _ us hl => match us, hl with | [_, _], _ => rfl,
    m_is_result := PySem.W.mg_of X G a_is_result,
    F_is_claim := fun_mk (st := s_is_claim) l_is_claim c_is_claim k_is_claim,
    b_is_claim := (fun_mk (st := s_is_claim) l_is_claim c_is_claim k_is_claim).binds (ps := ["thing", "size"]) fun _ _ _ _ _ _ us hl => match us, hl with | [_, _], _ => rfl,
    m_is_claim := PySem.W.mg_of X G a_is_claim,
    F_is_short_list := fun_mk (st := s_is_short_list) l_is_short_list c_is_short_list k_is_short_list,
    b_is_short_list := (fun_mk (st := s_is_short_list) l_is_short_list c_is_short_list k_is_short_list).binds (ps := ["thing"]) fun _ _ _ _ _ _ us hl => match us, hl with | [_], _ => rfl,
    m_is_short_list := PySem.W.mg_of X G a_is_short_list,
    F_check_size := fun_mk (st := s_check_size) l_check_size c_check_size k_check_size,
    b_check_size := (fun_mk (st := s_check_size) l_check_size c_check_size k_check_size).binds (ps := ["size"]) fun _ _ _ _ _ _ us hl => match us, hl with | [_], _ => rfl,
    m_check_size := PySem.W.mg_of X G a_check_size,
    F_check_results := fun_mk (st := s_check_results) l_check_results c_check_results k_check_results,
    b_check_results := (fun_mk (st := s_check_results) l_check_results c_check_results k_check_results).binds (ps := ["results", "size"]) fun _ _ _ _ _ _ us hl => match us, hl with | [_, _], _ => rfl,
    m_check_results := PySem.W.mg_of X G a_check_results,
    F_check_claims := fun_mk (st := s_check_claims) l_check_claims c_check_claims k_check_claims,
    b_check_claims := (fun_mk (st := s_check_claims) l_check_claims c_check_claims k_check_claims).binds (ps := ["claims", "size"]) fun _ _ _ _ _ _ us hl => match us, hl with | [_, _], _ => rfl,
    m_check_claims := PySem.W.mg_of X G a_check_claims,
    F_greatest_claims := fun_mk (st := s_greatest_claims) l_greatest_claims c_greatest_claims k_greatest_claims,
    b_greatest_claims := (fun_mk (st := s_greatest_claims) l_greatest_claims c_greatest_claims k_greatest_claims).binds (ps := ["claims"]) fun _ _ _ _ _ _ us hl => match us, hl with | [_], _ => rfl,
    m_greatest_claims := PySem.W.mg_of X G a_greatest_claims,
    F_Talk___init__ := fun_mk (st := s_Talk___init__) l_Talk___init__ c_Talk___init__ k_Talk___init__,
    b_Talk___init__ := (fun_mk (st := s_Talk___init__) l_Talk___init__ c_Talk___init__ k_Talk___init__).binds (ps := ["self", "size", "results", "claims"]) fun _ _ _ _ _ _ us hl => match us, hl with | [_, _, _, _], _ => rfl,
    F_Talk_size := fun_mk (st := s_Talk_size) l_Talk_size c_Talk_size k_Talk_size,
    b_Talk_size := (fun_mk (st := s_Talk_size) l_Talk_size c_Talk_size k_Talk_size).binds (ps := ["self"]) fun _ _ _ _ _ _ us hl => match us, hl with | [_], _ => rfl,
    pr_Talk_size := ⟨a_Talk_size, g_Talk_size, t_Talk_size, _, r_Talk_size⟩,
    F_Talk_results := fun_mk (st := s_Talk_results) l_Talk_results c_Talk_results k_Talk_results,
    b_Talk_results := (fun_mk (st := s_Talk_results) l_Talk_results c_Talk_results k_Talk_results).binds (ps := ["self"]) fun _ _ _ _ _ _ us hl => match us, hl with | [_], _ => rfl,
    pr_Talk_results := ⟨a_Talk_results, g_Talk_results, t_Talk_results, _, r_Talk_results⟩,
    F_Talk_claims := fun_mk (st := s_Talk_claims) l_Talk_claims c_Talk_claims k_Talk_claims,
    b_Talk_claims := (fun_mk (st := s_Talk_claims) l_Talk_claims c_Talk_claims k_Talk_claims).binds (ps := ["self"]) fun _ _ _ _ _ _ us hl => match us, hl with | [_], _ => rfl,
    pr_Talk_claims := ⟨a_Talk_claims, g_Talk_claims, t_Talk_claims, _, r_Talk_claims⟩,
    F_Talk___len__ := fun_mk (st := s_Talk___len__) l_Talk___len__ c_Talk___len__ k_Talk___len__,
    b_Talk___len__ := (fun_mk (st := s_Talk___len__) l_Talk___len__ c_Talk___len__ k_Talk___len__).binds (ps := ["self"]) fun _ _ _ _ _ _ us hl => match us, hl with | [_], _ => rfl,
    me_Talk___len__ := ⟨a_Talk___len__, i_Talk___len__, k_Talk___len__⟩,
    F_Talk___eq__ := fun_mk (st := s_Talk___eq__) l_Talk___eq__ c_Talk___eq__ k_Talk___eq__,
    b_Talk___eq__ := (fun_mk (st := s_Talk___eq__) l_Talk___eq__ c_Talk___eq__ k_Talk___eq__).binds (ps := ["self", "other"]) fun _ _ _ _ _ _ us hl => match us, hl with | [_, _], _ => rfl,
    me_Talk___eq__ := ⟨a_Talk___eq__, i_Talk___eq__, k_Talk___eq__⟩,
    F_is_order := fun_mk (st := s_is_order) l_is_order c_is_order k_is_order,
    b_is_order := (fun_mk (st := s_is_order) l_is_order c_is_order k_is_order).binds (ps := ["thing"]) fun _ _ _ _ _ _ us hl => match us, hl with | [_], _ => rfl,
    m_is_order := PySem.W.mg_of X G a_is_order,
    F_is_list_of_rounds := fun_mk (st := s_is_list_of_rounds) l_is_list_of_rounds c_is_list_of_rounds k_is_list_of_rounds,
    b_is_list_of_rounds := (fun_mk (st := s_is_list_of_rounds) l_is_list_of_rounds c_is_list_of_rounds k_is_list_of_rounds).binds (ps := ["thing"]) fun _ _ _ _ _ _ us hl => match us, hl with | [_], _ => rfl,
    m_is_list_of_rounds := PySem.W.mg_of X G a_is_list_of_rounds,
    F_rounds_of_order := fun_mk (st := s_rounds_of_order) l_rounds_of_order c_rounds_of_order k_rounds_of_order,
    b_rounds_of_order := (fun_mk (st := s_rounds_of_order) l_rounds_of_order c_rounds_of_order k_rounds_of_order).binds (ps := ["order"]) fun _ _ _ _ _ _ us hl => match us, hl with | [_], _ => rfl,
    m_rounds_of_order := PySem.W.mg_of X G a_rounds_of_order,
    F_order_of_rounds := fun_mk (st := s_order_of_rounds) l_order_of_rounds c_order_of_rounds k_order_of_rounds,
    b_order_of_rounds := (fun_mk (st := s_order_of_rounds) l_order_of_rounds c_order_of_rounds k_order_of_rounds).binds (ps := ["rounds"]) fun _ _ _ _ _ _ us hl => match us, hl with | [_], _ => rfl,
    m_order_of_rounds := PySem.W.mg_of X G a_order_of_rounds,
    F_Cup___init__ := fun_mk (st := s_Cup___init__) l_Cup___init__ c_Cup___init__ k_Cup___init__,
    b_Cup___init__ := (fun_mk (st := s_Cup___init__) l_Cup___init__ c_Cup___init__ k_Cup___init__).binds (ps := ["self", "order"]) fun _ _ _ _ _ _ us hl => match us, hl with | [_, _], _ => rfl,
    F_Cup_of := fun_mk (st := s_Cup_of) l_Cup_of c_Cup_of k_Cup_of,
    b_Cup_of := (fun_mk (st := s_Cup_of) l_Cup_of c_Cup_of k_Cup_of).binds (ps := ["cls", "rounds"]) fun _ _ _ _ _ _ us hl => match us, hl with | [_, _], _ => rfl,
    cm_Cup_of := ⟨a_Cup_of, ⟨_, r_Cup_of⟩, fi_Cup_of⟩,
    F_Cup_order := fun_mk (st := s_Cup_order) l_Cup_order c_Cup_order k_Cup_order,
    b_Cup_order := (fun_mk (st := s_Cup_order) l_Cup_order c_Cup_order k_Cup_order).binds (ps := ["self"]) fun _ _ _ _ _ _ us hl => match us, hl with | [_], _ => rfl,
    pr_Cup_order := ⟨a_Cup_order, g_Cup_order, t_Cup_order, _, r_Cup_order⟩,
    F_Cup_size := fun_mk (st := s_Cup_size) l_Cup_size c_Cup_size k_Cup_size,
    b_Cup_size := (fun_mk (st := s_Cup_size) l_Cup_size c_Cup_size k_Cup_size).binds (ps := ["self"]) fun _ _ _ _ _ _ us hl => match us, hl with | [_], _ => rfl,
    pr_Cup_size := ⟨a_Cup_size, g_Cup_size, t_Cup_size, _, r_Cup_size⟩,
    F_Cup___eq__ := fun_mk (st := s_Cup___eq__) l_Cup___eq__ c_Cup___eq__ k_Cup___eq__,
    b_Cup___eq__ := (fun_mk (st := s_Cup___eq__) l_Cup___eq__ c_Cup___eq__ k_Cup___eq__).binds (ps := ["self", "other"]) fun _ _ _ _ _ _ us hl => match us, hl with | [_, _], _ => rfl,
    me_Cup___eq__ := ⟨a_Cup___eq__, i_Cup___eq__, k_Cup___eq__⟩,
    F_Cup_rounds := fun_mk (st := s_Cup_rounds) l_Cup_rounds c_Cup_rounds k_Cup_rounds,
    b_Cup_rounds := (fun_mk (st := s_Cup_rounds) l_Cup_rounds c_Cup_rounds k_Cup_rounds).binds (ps := ["self"]) fun _ _ _ _ _ _ us hl => match us, hl with | [_], _ => rfl,
    me_Cup_rounds := ⟨a_Cup_rounds, i_Cup_rounds, k_Cup_rounds⟩,
    F_Cup_matches := fun_mk (st := s_Cup_matches) l_Cup_matches c_Cup_matches k_Cup_matches,
    b_Cup_matches := (fun_mk (st := s_Cup_matches) l_Cup_matches c_Cup_matches k_Cup_matches).binds (ps := ["self"]) fun _ _ _ _ _ _ us hl => match us, hl with | [_], _ => rfl,
    me_Cup_matches := ⟨a_Cup_matches, i_Cup_matches, k_Cup_matches⟩,
    F_Cup_talk := fun_mk (st := s_Cup_talk) l_Cup_talk c_Cup_talk k_Cup_talk,
    b_Cup_talk := (fun_mk (st := s_Cup_talk) l_Cup_talk c_Cup_talk k_Cup_talk).binds (ps := ["self"]) fun _ _ _ _ _ _ us hl => match us, hl with | [_], _ => rfl,
    me_Cup_talk := ⟨a_Cup_talk, i_Cup_talk, k_Cup_talk⟩,
    F_law_feed := fun_mk (st := s_law_feed) l_law_feed c_law_feed k_law_feed,
    b_law_feed := (fun_mk (st := s_law_feed) l_law_feed c_law_feed k_law_feed).binds (ps := ["script", "k"]) fun _ _ _ _ _ _ us hl => match us, hl with | [_, _], _ => rfl,
    m_law_feed := PySem.W.mg_of X G a_law_feed,
    F_law_pick := fun_mk (st := s_law_pick) l_law_pick c_law_pick k_law_pick,
    b_law_pick := (fun_mk (st := s_law_pick) l_law_pick c_law_pick k_law_pick).binds (ps := ["feed", "wide"]) fun _ _ _ _ _ _ us hl => match us, hl with | [_, _], _ => rfl,
    m_law_pick := PySem.W.mg_of X G a_law_pick,
    F_law_shuffled := fun_mk (st := s_law_shuffled) l_law_shuffled c_law_shuffled k_law_shuffled,
    b_law_shuffled := (fun_mk (st := s_law_shuffled) l_law_shuffled c_law_shuffled k_law_shuffled).binds (ps := ["feed", "row"]) fun _ _ _ _ _ _ us hl => match us, hl with | [_, _], _ => rfl,
    m_law_shuffled := PySem.W.mg_of X G a_law_shuffled,
    F_law_players := fun_mk (st := s_law_players) l_law_players c_law_players k_law_players,
    b_law_players := (fun_mk (st := s_law_players) l_law_players c_law_players k_law_players).binds (ps := ["wide"]) fun _ _ _ _ _ _ us hl => match us, hl with | [_], _ => rfl,
    m_law_players := PySem.W.mg_of X G a_law_players,
    F_law_order := fun_mk (st := s_law_order) l_law_order c_law_order k_law_order,
    b_law_order := (fun_mk (st := s_law_order) l_law_order c_law_order k_law_order).binds (ps := ["feed", "wide"]) fun _ _ _ _ _ _ us hl => match us, hl with | [_, _], _ => rfl,
    m_law_order := PySem.W.mg_of X G a_law_order,
    F_law_played := fun_mk (st := s_law_played) l_law_played c_law_played k_law_played,
    b_law_played := (fun_mk (st := s_law_played) l_law_played c_law_played k_law_played).binds (ps := ["row"]) fun _ _ _ _ _ _ us hl => match us, hl with | [_], _ => rfl,
    m_law_played := PySem.W.mg_of X G a_law_played,
    F_law_right := fun_mk (st := s_law_right) l_law_right c_law_right k_law_right,
    b_law_right := (fun_mk (st := s_law_right) l_law_right c_law_right k_law_right).binds (ps := ["feed", "row"]) fun _ _ _ _ _ _ us hl => match us, hl with | [_, _], _ => rfl,
    m_law_right := PySem.W.mg_of X G a_law_right,
    F_law := fun_mk (st := s_law) l_law c_law k_law,
    b_law := (fun_mk (st := s_law) l_law c_law k_law).binds (ps := ["script"]) fun _ _ _ _ _ _ us hl => match us, hl with | [_], _ => rfl,
    m_law := PySem.W.mg_of X G a_law,
    cl_Cup := ⟨pg_Cup, hd_Cup, po_Cup, sa_Cup⟩,
    mC_Cup := PySem.W.mg_of X G aC_Cup,
    cr_Cup := ⟨y1_Cup, y2_Cup⟩,
    mo_Cup := mo_Cup,
    ne_Cup := ne_Cup,
    ot_Cup_NoneType := .of oa_Cup ob_Cup od_Cup o2_Cup_NoneType,
    ot_Cup_int := .of oa_Cup ob_Cup od_Cup o2_Cup_int,
    ot_Cup_bool := .of oa_Cup ob_Cup od_Cup o2_Cup_bool,
    ot_Cup_str := .of oa_Cup ob_Cup od_Cup o2_Cup_str,
    ot_Cup_list := .of oa_Cup ob_Cup od_Cup o2_Cup_list,
    ot_Cup_tuple := .of oa_Cup ob_Cup od_Cup o2_Cup_tuple,
    ot_Cup_dict := .of oa_Cup ob_Cup od_Cup o2_Cup_dict,
    ot_Cup_Talk := .of oa_Cup ob_Cup od_Cup o2_Cup_Talk,
    is_Cup := ⟨x1_Cup, x2_Cup, x3_Cup, x4_Cup⟩,
    M_Cup := ⟨mk_Cup, a_Cup___init__, i_Cup___init__, kc_Cup⟩,
    cl_Talk := ⟨pg_Talk, hd_Talk, po_Talk, sa_Talk⟩,
    mC_Talk := PySem.W.mg_of X G aC_Talk,
    is_Talk := ⟨x1_Talk, x2_Talk, x3_Talk, x4_Talk⟩,
    M_Talk := ⟨mk_Talk, a_Talk___init__, i_Talk___init__, kc_Talk⟩,
    c_LARGEST_SIZE := ⟨_, PySem.W.mg_of X G c_LARGEST_SIZE⟩,
    c_MOST_ITEMS := ⟨_, PySem.W.mg_of X G c_MOST_ITEMS⟩,
    n_Cup__beaten := n_Cup__beaten,
    n_Cup__conquerors := n_Cup__conquerors,
    n_Cup__order := n_Cup__order,
    n_Cup__rounds := n_Cup__rounds,
    n_Talk__claims := n_Talk__claims,
    n_Talk__results := n_Talk__results,
    n_Talk__size := n_Talk__size,
    t_NUMBERS_OF_PLAYERS := PySem.W.mg_of X G t_NUMBERS_OF_PLAYERS,
    q_NUMBERS_OF_PLAYERS := fun H => .inr ⟨_, _, _, lq_NUMBERS_OF_PLAYERS, rfl, rfl, by rw [sizeLine_eq]; show 7 ≤ 16777216; decide, (.cons ⟨_, rfl⟩ (.cons ⟨_, rfl⟩ (.cons ⟨_, rfl⟩ (.cons ⟨_, rfl⟩ (.cons ⟨_, rfl⟩ (.cons ⟨_, rfl⟩ (.cons ⟨_, rfl⟩ .nil)))))))⟩,
    z_abs := PySem.W.mg_none_of X G z_abs,
    z_all := PySem.W.mg_none_of X G z_all,
    z_bool := PySem.W.mg_none_of X G z_bool,
    z_int := PySem.W.mg_none_of X G z_int,
    z_isinstance := PySem.W.mg_none_of X G z_isinstance,
    z_len := PySem.W.mg_none_of X G z_len,
    z_list := PySem.W.mg_none_of X G z_list,
    z_max := PySem.W.mg_none_of X G z_max,
    z_min := PySem.W.mg_none_of X G z_min,
    z_range := PySem.W.mg_none_of X G z_range,
    z_repr := PySem.W.mg_none_of X G z_repr,
    z_set := PySem.W.mg_none_of X G z_set,
    z_sorted := PySem.W.mg_none_of X G z_sorted,
    z_tuple := PySem.W.mg_none_of X G z_tuple }
  exact ⟨_, fun s v => .of_eq rfl, fun base _ _ => ok_law T⟩
theorem walk {l : PySem.W.OpenLaw} {q : Program} {loose : List Str} {XP : (Str → Option Value) → Heap → Prop} {YP : World → Heap → Prop} {d : DefRec} {K : Params → PySem.W.Frag} (hn : l.most = some 63) (hdf : d.params.defaults = [])
    (hY : ∀ (w : World) (h : Heap), YP w h → (K w.params).In h)
    (F : ∀ (w : World) (mg : Str → Option Value) (fa : Addr) (h : Heap), (K w.params).In h → h.Ns mainGlobals mg → mg d.name = some (.ref fa) →
      ∃ fd : FuncData, (∀ (s : Shared) (u : Value), BindsTo s fd ⟨[u], []⟩ [("script", u)]) ∧ ∀ base : Heap, (K w.params).In base → base.Ns mainGlobals mg → FnG l.prog w (K w.params) mg base 9 fa fd ["script"] (spLaw (K w.params))) :
    PySem.W.WalkO q loose XP YP l.row.toRowW d [] (fun f vs => PySem.call f vs) :=
  walk_ofG (n := 63) (k := 9) (x := "script") (sp := spLaw) hn (by decide) hdf ⟨rfl, by decide, by decide⟩ hY F (fun _ _ a ns hl _ hS => ⟨a, ns, rfl, hS, hl, fun _ => rfl⟩)
end Ct
open PySem PySem.W PyProof.Rows in
set_option maxRecDepth 100000 in
set_option maxHeartbeats 0 in
theorem PySem.Challenge.cw_cuptalk_k10_cups_compared_holds : PySem.Challenge.rw_cuptalk_k10_cups_compared.Holds := by
  w_on; o_law; k_head; (case hw => w_witness2)
  k_fill
  refine Ct.walk (l := PySem.Challenge.rw_cuptalk_k10_cups_compared) rfl rfl (fun w h Y => PySem.W.kIn_of Y) ?F
  case F =>
    intro w mg fa h KX G hmg
    refine' Ct.all_mk KX G hmg ?aC_Cup ?aC_Talk ?a_is_integer ?l_is_integer ?c_is_integer ?k_is_integer ?a_is_size ?l_is_size ?c_is_size ?k_is_size ?a_is_player ?l_is_player ?c_is_player ?k_is_player ?a_is_number ?l_is_number ?c_is_number ?k_is_number ?a_is_pair ?l_is_pair ?c_is_pair ?k_is_pair ?a_is_result ?l_is_result ?c_is_result ?k_is_result ?a_is_claim ?l_is_claim ?c_is_claim ?k_is_claim ?a_is_short_list ?l_is_short_list ?c_is_short_list ?k_is_short_list ?a_check_size ?l_check_size ?c_check_size ?k_check_size ?a_check_results ?l_check_results ?c_check_results ?k_check_results ?a_check_claims ?l_check_claims ?c_check_claims ?k_check_claims ?a_greatest_claims ?l_greatest_claims ?c_greatest_claims ?k_greatest_claims ?a_Talk___init__ ?i_Talk___init__ ?l_Talk___init__ ?c_Talk___init__ ?k_Talk___init__ ?a_Talk_size ?g_Talk_size ?t_Talk_size ?r_Talk_size ?l_Talk_size ?c_Talk_size ?k_Talk_size ?a_Talk_results ?g_Talk_results ?t_Talk_results ?r_Talk_results ?l_Talk_results ?c_Talk_results ?k_Talk_results ?a_Talk_claims ?g_Talk_claims ?t_Talk_claims ?r_Talk_claims ?l_Talk_claims ?c_Talk_claims ?k_Talk_claims ?a_Talk___len__ ?i_Talk___len__ ?l_Talk___len__ ?c_Talk___len__ ?k_Talk___len__ ?a_Talk___eq__ ?i_Talk___eq__ ?l_Talk___eq__ ?c_Talk___eq__ ?k_Talk___eq__ ?a_is_order ?l_is_order ?c_is_order ?k_is_order ?a_is_list_of_rounds ?l_is_list_of_rounds ?c_is_list_of_rounds ?k_is_list_of_rounds ?a_rounds_of_order ?l_rounds_of_order ?c_rounds_of_order ?k_rounds_of_order ?a_order_of_rounds ?l_order_of_rounds ?c_order_of_rounds ?k_order_of_rounds ?a_Cup___init__ ?i_Cup___init__ ?l_Cup___init__ ?c_Cup___init__ ?k_Cup___init__ ?a_Cup_of ?r_Cup_of ?fi_Cup_of ?l_Cup_of ?c_Cup_of ?k_Cup_of ?a_Cup_order ?g_Cup_order ?t_Cup_order ?r_Cup_order ?l_Cup_order ?c_Cup_order ?k_Cup_order ?a_Cup_size ?g_Cup_size ?t_Cup_size ?r_Cup_size ?l_Cup_size ?c_Cup_size ?k_Cup_size ?a_Cup___eq__ ?i_Cup___eq__ ?l_Cup___eq__ ?c_Cup___eq__ ?k_Cup___eq__ ?a_Cup_rounds ?i_Cup_rounds ?l_Cup_rounds ?c_Cup_rounds ?k_Cup_rounds ?a_Cup_matches ?i_Cup_matches ?l_Cup_matches ?c_Cup_matches ?k_Cup_matches ?a_Cup_talk ?i_Cup_talk ?l_Cup_talk ?c_Cup_talk ?k_Cup_talk ?a_law_feed ?l_law_feed ?c_law_feed ?k_law_feed ?a_law_pick ?l_law_pick ?c_law_pick ?k_law_pick ?a_law_shuffled ?l_law_shuffled ?c_law_shuffled ?k_law_shuffled ?a_law_players ?l_law_players ?c_law_players ?k_law_players ?a_law_order ?l_law_order ?c_law_order ?k_law_order ?a_law_played ?l_law_played ?c_law_played ?k_law_played ?a_law_right ?l_law_right ?c_law_right ?k_law_right ?a_law ?l_law ?c_law ?k_law ?pg_Cup ?hd_Cup ?po_Cup ?sa_Cup ?mk_Cup ?kc_Cup ?pg_Talk ?hd_Talk ?po_Talk ?sa_Talk ?mk_Talk ?kc_Talk ?y1_Cup ?y2_Cup ?mo_Cup ?ne_Cup ?oa_Cup ?ob_Cup ?od_Cup ?o2_Cup_NoneType ?o2_Cup_int ?o2_Cup_bool ?o2_Cup_str ?o2_Cup_list ?o2_Cup_tuple ?o2_Cup_dict ?o2_Cup_Talk ?x1_Cup ?x2_Cup ?x3_Cup ?x4_Cup ?x1_Talk ?x2_Talk ?x3_Talk ?x4_Talk ?c_LARGEST_SIZE ?c_MOST_ITEMS ?n_Cup__beaten ?n_Cup__conquerors ?n_Cup__order ?n_Cup__rounds ?n_Talk__claims ?n_Talk__results ?n_Talk__size ?t_NUMBERS_OF_PLAYERS ?lq_NUMBERS_OF_PLAYERS ?z_abs ?z_all ?z_bool ?z_int ?z_isinstance ?z_len ?z_list ?z_max ?z_min ?z_range ?z_repr ?z_set ?z_sorted ?z_tuple
    (case aC_Cup => k_is)
    (case aC_Talk => k_is)
    (case a_is_integer => k_is)
    (case l_is_integer => k_is)
    (case c_is_integer => k_is)
    (case k_is_integer => k_is)
    (case a_is_size => k_is)
    (case l_is_size => k_is)
    (case c_is_size => k_is)
    (case k_is_size => k_is)
    (case a_is_player => k_is)
    (case l_is_player => k_is)
    (case c_is_player => k_is)
    (case k_is_player => k_is)
    (case a_is_number => k_is)
    (case l_is_number => k_is)
    (case c_is_number => k_is)
    (case k_is_number => k_is)
    (case a_is_pair => k_is)
    (case l_is_pair => k_is)
    (case c_is_pair => k_is)
    (case k_is_pair => k_is)
    (case a_is_result => k_is)
    (case l_is_result => k_is)
    (case c_is_result => k_is)
    (case k_is_result => k_is)
    (case a_is_claim => k_is)
    (case l_is_claim => k_is)
    (case c_is_claim => k_is)
    (case k_is_claim => k_is)
    (case a_is_short_list => k_is)
    (case l_is_short_list => k_is)
    (case c_is_short_list => k_is)
    (case k_is_short_list => k_is)
    (case a_check_size => k_is)
    (case l_check_size => k_is)
    (case c_check_size => k_is)
    (case k_check_size => k_is)
    (case a_check_results => k_is)
    (case l_check_results => k_is)
    (case c_check_results => k_is)
    (case k_check_results => k_is)
    (case a_check_claims => k_is)
    (case l_check_claims => k_is)
    (case c_check_claims => k_is)
    (case k_check_claims => k_is)
    (case a_greatest_claims => k_is)
    (case l_greatest_claims => k_is)
    (case c_greatest_claims => k_is)
    (case k_greatest_claims => k_is)
    (case a_Talk___init__ => k_is)
    (case i_Talk___init__ => k_is)
    (case l_Talk___init__ => k_is)
    (case c_Talk___init__ => k_is)
    (case k_Talk___init__ => k_is)
    (case a_Talk_size => k_is)
    (case g_Talk_size => k_is)
    (case t_Talk_size => k_is)
    (case r_Talk_size => k_is)
    (case l_Talk_size => k_is)
    (case c_Talk_size => k_is)
    (case k_Talk_size => k_is)
    (case a_Talk_results => k_is)
    (case g_Talk_results => k_is)
    (case t_Talk_results => k_is)
    (case r_Talk_results => k_is)
    (case l_Talk_results => k_is)
    (case c_Talk_results => k_is)
    (case k_Talk_results => k_is)
    (case a_Talk_claims => k_is)
    (case g_Talk_claims => k_is)
    (case t_Talk_claims => k_is)
    (case r_Talk_claims => k_is)
    (case l_Talk_claims => k_is)
    (case c_Talk_claims => k_is)
    (case k_Talk_claims => k_is)
    (case a_Talk___len__ => k_is)
    (case i_Talk___len__ => k_is)
    (case l_Talk___len__ => k_is)
    (case c_Talk___len__ => k_is)
    (case k_Talk___len__ => k_is)
    (case a_Talk___eq__ => k_is)
    (case i_Talk___eq__ => k_is)
    (case l_Talk___eq__ => k_is)
    (case c_Talk___eq__ => k_is)
    (case k_Talk___eq__ => k_is)
    (case a_is_order => k_is)
    (case l_is_order => k_is)
    (case c_is_order => k_is)
    (case k_is_order => k_is)
    (case a_is_list_of_rounds => k_is)
    (case l_is_list_of_rounds => k_is)
    (case c_is_list_of_rounds => k_is)
    (case k_is_list_of_rounds => k_is)
    (case a_rounds_of_order => k_is)
    (case l_rounds_of_order => k_is)
    (case c_rounds_of_order => k_is)
    (case k_rounds_of_order => k_is)
    (case a_order_of_rounds => k_is)
    (case l_order_of_rounds => k_is)
    (case c_order_of_rounds => k_is)
    (case k_order_of_rounds => k_is)
    (case a_Cup___init__ => k_is)
    (case i_Cup___init__ => k_is)
    (case l_Cup___init__ => k_is)
    (case c_Cup___init__ => k_is)
    (case k_Cup___init__ => k_is)
    (case a_Cup_of => k_is)
    (case r_Cup_of => k_is)
    (case fi_Cup_of => k_is)
    (case l_Cup_of => k_is)
    (case c_Cup_of => k_is)
    (case k_Cup_of => k_is)
    (case a_Cup_order => k_is)
    (case g_Cup_order => k_is)
    (case t_Cup_order => k_is)
    (case r_Cup_order => k_is)
    (case l_Cup_order => k_is)
    (case c_Cup_order => k_is)
    (case k_Cup_order => k_is)
    (case a_Cup_size => k_is)
    (case g_Cup_size => k_is)
    (case t_Cup_size => k_is)
    (case r_Cup_size => k_is)
    (case l_Cup_size => k_is)
    (case c_Cup_size => k_is)
    (case k_Cup_size => k_is)
    (case a_Cup___eq__ => k_is)
    (case i_Cup___eq__ => k_is)
    (case l_Cup___eq__ => k_is)
    (case c_Cup___eq__ => k_is)
    (case k_Cup___eq__ => k_is)
    (case a_Cup_rounds => k_is)
    (case i_Cup_rounds => k_is)
    (case l_Cup_rounds => k_is)
    (case c_Cup_rounds => k_is)
    (case k_Cup_rounds => k_is)
    (case a_Cup_matches => k_is)
    (case i_Cup_matches => k_is)
    (case l_Cup_matches => k_is)
    (case c_Cup_matches => k_is)
    (case k_Cup_matches => k_is)
    (case a_Cup_talk => k_is)
    (case i_Cup_talk => k_is)
    (case l_Cup_talk => k_is)
    (case c_Cup_talk => k_is)
    (case k_Cup_talk => k_is)
    (case a_law_feed => k_is)
    (case l_law_feed => k_is)
    (case c_law_feed => k_is)
    (case k_law_feed => k_is)
    (case a_law_pick => k_is)
    (case l_law_pick => k_is)
    (case c_law_pick => k_is)
    (case k_law_pick => k_is)
    (case a_law_shuffled => k_is)
    (case l_law_shuffled => k_is)
    (case c_law_shuffled => k_is)
    (case k_law_shuffled => k_is)
    (case a_law_players => k_is)
    (case l_law_players => k_is)
    (case c_law_players => k_is)
    (case k_law_players => k_is)
    (case a_law_order => k_is)
    (case l_law_order => k_is)
    (case c_law_order => k_is)
    (case k_law_order => k_is)
    (case a_law_played => k_is)
    (case l_law_played => k_is)
    (case c_law_played => k_is)
    (case k_law_played => k_is)
    (case a_law_right => k_is)
    (case l_law_right => k_is)
    (case c_law_right => k_is)
    (case k_law_right => k_is)
    (case a_law => k_is)
    (case l_law => k_is)
    (case c_law => k_is)
    (case k_law => k_is)
    (case pg_Cup => k_is)
    (case hd_Cup => k_is)
    (case po_Cup => k_is)
    (case sa_Cup => k_is)
    (case mk_Cup => k_is)
    (case kc_Cup => k_is)
    (case pg_Talk => k_is)
    (case hd_Talk => k_is)
    (case po_Talk => k_is)
    (case sa_Talk => k_is)
    (case mk_Talk => k_is)
    (case kc_Talk => k_is)
    (case y1_Cup => k_is)
    (case y2_Cup => k_is)
    (case mo_Cup => k_is)
    (case ne_Cup => k_is)
    (case oa_Cup => k_is)
    (case ob_Cup => k_is)
    (case od_Cup => k_is)
    (case o2_Cup_NoneType => k_is)
    (case o2_Cup_int => k_is)
    (case o2_Cup_bool => k_is)
    (case o2_Cup_str => k_is)
    (case o2_Cup_list => k_is)
    (case o2_Cup_tuple => k_is)
    (case o2_Cup_dict => k_is)
    (case o2_Cup_Talk => k_is)
    (case x1_Cup => k_is)
    (case x2_Cup => k_is)
    (case x3_Cup => k_is)
    (case x4_Cup => k_is)
    (case x1_Talk => k_is)
    (case x2_Talk => k_is)
    (case x3_Talk => k_is)
    (case x4_Talk => k_is)
    (case c_LARGEST_SIZE => k_is)
    (case c_MOST_ITEMS => k_is)
    (case n_Cup__beaten => k_is)
    (case n_Cup__conquerors => k_is)
    (case n_Cup__order => k_is)
    (case n_Cup__rounds => k_is)
    (case n_Talk__claims => k_is)
    (case n_Talk__results => k_is)
    (case n_Talk__size => k_is)
    (case t_NUMBERS_OF_PLAYERS => k_is)
    (case lq_NUMBERS_OF_PLAYERS => k_is)
    (case z_abs => k_is)
    (case z_all => k_is)
    (case z_bool => k_is)
    (case z_int => k_is)
    (case z_isinstance => k_is)
    (case z_len => k_is)
    (case z_list => k_is)
    (case z_max => k_is)
    (case z_min => k_is)
    (case z_range => k_is)
    (case z_repr => k_is)
    (case z_set => k_is)
    (case z_sorted => k_is)
    (case z_tuple => k_is)
