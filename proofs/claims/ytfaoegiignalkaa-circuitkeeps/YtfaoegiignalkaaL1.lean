/-
  Layers: what stands in which; circuits put in an order of their layers.
-/
import Derived.Test.YtfaoegiignalkaaO7
namespace Go.Proofs.Ytfaoegiignalkaa
open Go.RowKit Go.Shelf

/-- Who is bound to whom does not hang on which comes first. -/
theorem marks_symm {p o : Oq} (h : ∃ i, WRm p i ∧ RDm o i) (hp : Okay p) (ho : Okay o) : ∃ i, WRm o i ∧ RDm p i := by
  obtain ⟨i, h, g⟩ := h
  have q1 : ∀ q ∈ p.qs, 0 ≤ q ∧ q < 64 := fun q hq => by obtain ⟨j, hj, e⟩ := List.getElem_of_mem hq; rw [← e]; exact hp.q0 j hj
  have q2 : ∀ q ∈ o.qs, 0 ≤ q ∧ q < 64 := fun q hq => by obtain ⟨j, hj, e⟩ := List.getElem_of_mem hq; rw [← e]; exact ho.q0 j hj
  rcases h with ⟨q, hq, rfl⟩ | ⟨j, hj, hr, rfl⟩ | ⟨hk, rfl⟩ | ⟨hk, rfl⟩
  · have := q1 q hq
    rcases g with ⟨q', hq', e⟩ | ⟨j', hj', hr', e⟩ | ⟨hk', e | e⟩ | ⟨hk', e⟩
    · exact ⟨_, .inl ⟨q', hq', rfl⟩, .inl ⟨q, hq, e.symm⟩⟩
    all_goals omega
  · rcases g with ⟨q', hq', e⟩ | ⟨j', hj', hr', e⟩ | ⟨hk', e | e⟩ | ⟨hk', e⟩
    · have := q2 q' hq'; omega
    · omega
    · have := ho.b0 hk'; omega
    · exact ⟨64 + o.b.toNat, .inr (.inr (.inl ⟨hk', rfl⟩)), .inr (.inl ⟨j, hj, hr, by omega⟩)⟩
    · omega
  · have := hp.b0 hk
    rcases g with ⟨q', hq', e⟩ | ⟨j', hj', hr', e⟩ | ⟨hk', e | e⟩ | ⟨hk', e⟩
    · have := q2 q' hq'; omega
    · exact ⟨128 + j', .inr (.inl ⟨j', hj', hr', rfl⟩), .inr (.inr (.inl ⟨hk, .inr (by omega)⟩))⟩
    · exact ⟨64 + o.b.toNat, .inr (.inr (.inl ⟨hk', rfl⟩)), .inr (.inr (.inl ⟨hk, .inl (by omega)⟩))⟩
    · omega
    · omega
  · rcases g with ⟨q', hq', e⟩ | ⟨j', hj', hr', e⟩ | ⟨hk', e | e⟩ | ⟨hk', e⟩
    · have := q2 q' hq'; omega
    · omega
    · have := ho.b0 hk'; omega
    · have := ho.b0 hk'; omega
    · exact ⟨192, .inr (.inr (.inr ⟨hk', rfl⟩)), .inr (.inr (.inr ⟨hk, rfl⟩))⟩
theorem bd_symm {p o : Oq} (hp : Okay p) (ho : Okay o) (h : bdB p o = true) : bdB o p = true :=
  (bound_marks ho hp).1 (marks_symm ((bound_marks hp ho).2 h) hp ho)
/-- Each operation's step. -/
abbrev stt (os : List Oq) (i : Nat) : Nat := (stps os os.length).getD i 0
theorem stt_lt {os : List Oq} {i : Nat} (hi : i < os.length) (x : Nat) : x < stt os i ↔ ∃ m, m < i ∧ bdB (os.getD m noOq) (os.getD i noOq) = true ∧ x < stt os m + 1 := by
  have hgd : os.getD i noOq = os[i] := by rw [List.getD_eq_getElem?_getD, List.getElem?_eq_getElem hi]; rfl
  show x < (stps os os.length).getD i 0 ↔ ∃ m, m < i ∧ bdB (os.getD m noOq) (os.getD i noOq) = true ∧ x < (stps os os.length).getD m 0 + 1
  rw [stps_at os hi hi, stI_lt, hgd]
  constructor
  · rintro ⟨m, hm, h, g⟩
    exact ⟨m, hm, h, by rw [stps_pre os (k := i) os.length hm (by omega)]; exact g⟩
  · rintro ⟨m, hm, h, g⟩
    exact ⟨m, hm, h, by rw [stps_pre os (k := i) os.length hm (by omega)] at g; exact g⟩
theorem addL_get {ls : List (List Nat)} {s j t : Nat} (hs : s ≤ ls.length) : (addL ls s j).getD t [] = if t = s then ls.getD t [] ++ [j] else ls.getD t [] := by
  unfold addL
  by_cases e : s = ls.length
  · rw [if_pos e]
    by_cases ht : t = s
    · rw [if_pos ht, ht, e, List.getD_eq_getElem?_getD, List.getElem?_append_right (Nat.le_refl _), Nat.sub_self, List.getD_eq_getElem?_getD, List.getElem?_eq_none (Nat.le_refl _)]
      rfl
    · rw [if_neg ht, List.getD_eq_getElem?_getD, List.getD_eq_getElem?_getD]
      by_cases hl : t < ls.length
      · rw [List.getElem?_append_left hl]
      · rw [List.getElem?_append_right (by omega), List.getElem?_eq_none (by simp; omega), List.getElem?_eq_none (by omega)]
  · rw [if_neg e]
    by_cases ht : t = s
    · subst ht
      rw [if_pos rfl, List.getD_eq_getElem?_getD, List.getElem?_set_self (by omega)]
      rfl
    · rw [if_neg ht, List.getD_eq_getElem?_getD, List.getElem?_set_ne (fun h => ht h.symm), ← List.getD_eq_getElem?_getD]
/-- What stands in layer s. -/
theorem rly_get {ss : List Nat} {n : Nat} (h : ∀ k, k < n → ss.getD k 0 ≤ (rly ss k).length) (s : Nat) : ∀ k, k ≤ n → (rly ss k).getD s [] = (List.range k).filter fun i => ss.getD i 0 == s
  | 0, _ => by simp [rly]
  | k + 1, hk => by
    show (addL (rly ss k) (ss.getD k 0) k).getD s [] = _
    rw [addL_get (h k (by omega)), rly_get h s k (by omega), List.range_succ, List.filter_append]
    by_cases e : s = ss.getD k 0
    · rw [if_pos e, List.filter_cons_of_pos (by simp [e])]
      rfl
    · rw [if_neg e, List.filter_cons_of_neg (by simp; exact fun h => e h.symm)]
      simp
theorem rly_len {ss : List Nat} {n : Nat} (h : ∀ k, k < n → ss.getD k 0 ≤ (rly ss k).length) (s : Nat) : ∀ k, k ≤ n → (s < (rly ss k).length ↔ ∃ i, i < k ∧ s ≤ ss.getD i 0)
  | 0, _ => by simp [rly]
  | k + 1, hk => by
    have ih := rly_len h s k (by omega)
    have hs := h k (by omega)
    have key : (addL (rly ss k) (ss.getD k 0) k).length = max (rly ss k).length (ss.getD k 0 + 1) := by
      unfold addL
      split
      · rw [List.length_append, List.length_singleton]; omega
      · rw [List.length_set]; omega
    show s < (addL (rly ss k) (ss.getD k 0) k).length ↔ _
    rw [key, lt_mx, ih]
    constructor
    · rintro (⟨i, hi, g⟩ | g)
      · exact ⟨i, by omega, g⟩
      · exact ⟨k, by omega, by omega⟩
    · rintro ⟨i, hi, g⟩
      by_cases e : i = k
      · subst e; exact .inr (by omega)
      · exact .inl ⟨i, by omega, g⟩
/-- Bound operations stand in different layers. -/
theorem stt_up {os : List Oq} {m i : Nat} (hm : m < i) (hi : i < os.length) (h : bdB (os.getD m noOq) (os.getD i noOq) = true) : stt os m < stt os i := (stt_lt hi _).2 ⟨m, hm, h, by omega⟩
/-- An operation of a layer above the first is bound to one of the layer below. -/
theorem stt_down {os : List Oq} {i s : Nat} (hi : i < os.length) (h : stt os i = s + 1) : ∃ m, m < i ∧ bdB (os.getD m noOq) (os.getD i noOq) = true ∧ stt os m = s := by
  obtain ⟨m, hm, hb, hx⟩ := (stt_lt hi s).1 (by omega)
  have := stt_up hm hi hb
  exact ⟨m, hm, hb, by omega⟩
section
variable {os : List Oq}
theorem gd_okay (hok : ∀ k (h : k < os.length), Okay os[k]) {i : Nat} (hi : i < os.length) : Okay (os.getD i noOq) := by
  rw [List.getD_eq_getElem?_getD, List.getElem?_eq_getElem hi]
  exact hok i hi
theorem lay_get (hok : ∀ k (h : k < os.length), Okay os[k]) (s : Nat) : (lyF os 0 (fun _ => 0) []).getD s [] = (List.range os.length).filter fun i => stt os i == s := by
  obtain ⟨h1, h2⟩ := layers_rly hok
  rw [h1, rly_get h2 s os.length (Nat.le_refl _)]
theorem lay_len (hok : ∀ k (h : k < os.length), Okay os[k]) (s : Nat) : s < (lyF os 0 (fun _ => 0) []).length ↔ ∃ i, i < os.length ∧ s ≤ stt os i := by
  obtain ⟨h1, h2⟩ := layers_rly hok
  rw [h1, rly_len h2 s os.length (Nat.le_refl _)]
end
/-- An order of the layers: each operation once, layer by layer. -/
structure LOrd (os : List Oq) (od : List Nat) : Prop where
  perm : od.Perm (List.range os.length)
  up : od.Pairwise fun a b => stt os a ≤ stt os b
section
variable {os : List Oq} {od : List Nat}
theorem LOrd.len (h : LOrd os od) : od.length = os.length := by rw [h.perm.length_eq, List.length_range]
theorem LOrd.lt (h : LOrd os od) {i : Nat} (hi : i < od.length) : od[i] < os.length := by
  have := h.perm.mem_iff.1 (List.getElem_mem hi)
  rwa [List.mem_range] at this
theorem LOrd.nodup (h : LOrd os od) : od.Nodup := h.perm.nodup_iff.2 List.nodup_range
theorem LOrd.inj (h : LOrd os od) {i j : Nat} (hi : i < od.length) (hj : j < od.length) (e : od[i] = od[j]) : i = j := (List.getElem_inj h.nodup).1 e
theorem LOrd.le (h : LOrd os od) {i j : Nat} (hi : i < j) (hj : j < od.length) : stt os (od[i]'(by omega)) ≤ stt os od[j] := List.pairwise_iff_getElem.1 h.up i j (by omega) hj hi
theorem LOrd.surj (h : LOrd os od) {m : Nat} (hm : m < os.length) : ∃ i, ∃ hi : i < od.length, od[i] = m := List.getElem_of_mem (h.perm.mem_iff.2 (List.mem_range.2 hm))
theorem LOrd.each (h : LOrd os od) : Each (od.map fun (n : Nat) => (n : Int)) os.length := by
  refine ⟨by rw [List.length_map]; exact h.len, fun j hj => ?_⟩
  rw [List.length_map] at hj
  have hl := h.lt hj
  rw [List.getElem_map]
  refine ⟨⟨by omega, by omega⟩, fun hm => ?_⟩
  rw [← List.map_take] at hm
  obtain ⟨x, hx, e⟩ := List.mem_map.1 hm
  obtain ⟨i, hi, e2⟩ := List.getElem_of_mem hx
  rw [List.length_take] at hi
  rw [List.getElem_take] at e2
  have := h.inj (i := i) (j := j) (by omega) hj (by omega)
  omega
/-- No two bound operations are turned about. -/
theorem LOrd.ord (hok : ∀ k (h : k < os.length), Okay os[k]) (h : LOrd os od) {i j : Nat} (hi : i < j) (hj : j < od.length) (hb : bdB (os.getD (od[i]'(by omega)) noOq) (os.getD od[j] noOq) = true) : od[i]'(by omega) < od[j] := by
  have h1 := h.lt (i := i) (by omega)
  have h2 := h.lt hj
  rcases Nat.lt_trichotomy (od[i]'(by omega)) od[j] with e | e | e
  · exact e
  · have := h.inj (by omega) hj e
    omega
  · have g := stt_up e h1 (bd_symm (gd_okay hok h1) (gd_okay hok h2) hb)
    have := h.le hi hj
    omega
theorem LOrd.ordOk (hok : ∀ k (h : k < os.length), Okay os[k]) (h : LOrd os od) : OrdOk os (od.map fun (n : Nat) => (n : Int)) := by
  intro i k hi hk ⟨g1, g2⟩
  rw [List.length_map] at hi
  simp only [List.getElem_map] at g1 g2
  have := h.ord hok hk hi g2
  omega
/-- The steps of the circuit in that order. -/
theorem LOrd.steps (hok : ∀ k (h : k < os.length), Okay os[k]) (h : LOrd os od) (os' : List Oq) (hos : os' = od.map fun i => os.getD i noOq) : ∀ i (hi : i < od.length), stt os' i = stt os od[i] := by
  have hl' : os'.length = od.length := by rw [hos, List.length_map]
  have hg : ∀ i (hi : i < od.length), os'.getD i noOq = os.getD od[i] noOq := fun i hi => by
    rw [hos, List.getD_eq_getElem?_getD, List.getElem?_map, List.getElem?_eq_getElem hi]
    rfl
  intro i
  induction i using Nat.strongRecOn with
  | ind i ih =>
    intro hi
    apply eq_of_lts
    intro x
    have hn := h.lt hi
    rw [stt_lt (by omega), stt_lt hn]
    constructor
    · rintro ⟨k, hk, hb, hx⟩
      have hkl : k < od.length := by omega
      rw [hg k hkl, hg i hi] at hb
      rw [ih k hk hkl] at hx
      exact ⟨od[k], h.ord hok hk hi hb, hb, hx⟩
    · rintro ⟨m, hm, hb, hx⟩
      obtain ⟨k, hk, e⟩ := h.surj (m := m) (by omega)
      subst e
      have hup := stt_up hm hn hb
      have hki : k < i := by
        rcases Nat.lt_trichotomy k i with e | e | e
        · exact e
        · subst e; omega
        · have := h.le e hk; omega
      exact ⟨k, hki, by rw [hg k hk, hg i hi]; exact hb, by rw [ih k hki hk]; exact hx⟩
theorem LOrd.okay (hok : ∀ k (h : k < os.length), Okay os[k]) (h : LOrd os od) (os' : List Oq) (hos : os' = od.map fun i => os.getD i noOq) : ∀ k (hk : k < os'.length), Okay os'[k] := by
  subst hos
  intro k hk
  rw [List.length_map] at hk
  rw [List.getElem_map]
  exact gd_okay hok (h.lt hk)
/-- As many layers, each of as many operations. -/
theorem LOrd.layers (hok : ∀ k (h : k < os.length), Okay os[k]) (h : LOrd os od) (os' : List Oq) (hos : os' = od.map fun i => os.getD i noOq) :
    (lyF os' 0 (fun _ => 0) []).length = (lyF os 0 (fun _ => 0) []).length ∧ ∀ s, ((lyF os' 0 (fun _ => 0) []).getD s []).length = ((lyF os 0 (fun _ => 0) []).getD s []).length := by
  have hok' := h.okay hok os' hos
  have hl' : os'.length = od.length := by rw [hos, List.length_map]
  have hst := h.steps hok os' hos
  refine ⟨eq_of_lts fun s => ?_, fun s => ?_⟩
  · rw [lay_len hok', lay_len hok]
    constructor
    · rintro ⟨i, hi, g⟩
      rw [hst i (by omega)] at g
      exact ⟨od[i]'(by omega), h.lt (by omega), g⟩
    · rintro ⟨m, hm, g⟩
      obtain ⟨i, hi, e⟩ := h.surj hm
      exact ⟨i, by omega, by rw [hst i hi, e]; exact g⟩
  · rw [lay_get hok', lay_get hok, ← List.countP_eq_length_filter, ← List.countP_eq_length_filter, ← h.perm.countP_eq]
    have e1 : od = (List.range os'.length).map fun i => od.getD i 0 := by
      apply List.ext_getElem (by rw [List.length_map, List.length_range, hl'])
      intro i h1 h2
      rw [List.getElem_map, List.getElem_range, List.getD_eq_getElem?_getD, List.getElem?_eq_getElem h1]
      rfl
    conv => rhs; rw [e1]
    rw [List.countP_map]
    apply List.countP_congr
    intro i hi
    rw [List.mem_range] at hi
    show (stt os' i == s) = true ↔ (stt os (od.getD i 0) == s) = true
    rw [hst i (by omega), List.getD_eq_getElem?_getD, List.getElem?_eq_getElem (by omega)]
    exact Iff.rfl
end
/-- The circuit in that order passes Check. -/
theorem LOrd.check {c : Ci} {od : List Nat} (hz : (lk c).2.2 = 0) (h : LOrd c.ops od) : (lk ⟨c.q, c.b, od.map fun i => c.ops.getD i noOq⟩).2.2 = 0 := by
  obtain ⟨g1, g2, g3, g4, g5⟩ := lk_all hz
  have hp : (od.map fun i => c.ops.getD i noOq).Perm c.ops := by
    have e : c.ops = (List.range c.ops.length).map fun i => c.ops.getD i noOq := by
      apply List.ext_getElem (by simp)
      intro i h1 h2
      rw [List.getElem_map, List.getElem_range, List.getD_eq_getElem?_getD, List.getElem?_eq_getElem h1]
      rfl
    have := h.perm.map fun i => c.ops.getD i noOq
    rwa [← e] at this
  have hs : ∀ {a b : List Oq}, a.Perm b → hsum a = hsum b := fun hab => by
    induction hab with
    | nil => rfl
    | cons x _ ih => rw [hsum_cons, hsum_cons, ih]
    | swap x y l => rw [hsum_cons, hsum_cons, hsum_cons, hsum_cons]; omega
    | trans _ _ i1 i2 => rw [i1, i2]
  rw [lk_oks (c := ⟨c.q, c.b, od.map fun i => c.ops.getD i noOq⟩) g1 (fun o ho => g3 o (hp.mem_iff.1 ho)), if_neg (by rw [hp.length_eq]; omega), if_neg (by rw [hs hp]; omega)]
end Go.Proofs.Ytfaoegiignalkaa
