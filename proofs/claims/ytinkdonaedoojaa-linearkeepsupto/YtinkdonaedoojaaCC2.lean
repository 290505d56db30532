/-
  One operation: a number that stands twice; what is wrong with it.
-/
import Derived.Test.YtinkdonaedoojaaCC1
namespace Go.Proofs.Ytinkdonaedoojaa.CL
open Go.RowKit Go.Sort

/-- The first place of a number. -/
def fstN (x : Int) : List Int → Nat → Int
  | [], _ => -1
  | y :: l, k => if x == y then k else fstN x l (k + 1)
theorem fstN_none {x : Int} : ∀ (l : List Int) (k : Nat), (∀ j (h : j < l.length), x ≠ l[j]) → fstN x l k = -1
  | [], _, _ => rfl
  | y :: l, k, h => by
    have h0 := h 0 (by simp)
    simp only [List.getElem_cons_zero] at h0
    unfold fstN
    rw [if_neg (by simpa using h0)]
    exact fstN_none l (k + 1) (fun j hj => by have := h (j + 1) (by simpa using hj); simpa using this)
theorem fstN_at {x : Int} : ∀ (l : List Int) (k j : Nat) (h : j < l.length), (∀ i (h' : i < l.length), i < j → x ≠ l[i]) → x = l[j] → fstN x l k = ((k + j : Nat) : Int)
  | [], _, j, h, _, _ => absurd h (Nat.not_lt_zero _)
  | y :: l, k, 0, h, _, e => by
    unfold fstN
    rw [if_pos (by simpa using e)]
    rfl
  | y :: l, k, j + 1, h, hn, e => by
    have h0 := hn 0 (by simp) (by omega)
    simp only [List.getElem_cons_zero] at h0
    unfold fstN
    rw [if_neg (by simpa using h0), fstN_at l (k + 1) j (by simpa using h) (fun i hi hij => by have := hn (i + 1) (by simpa using hi) (by omega); simpa using this) (by simpa using e)]
    congr 1
    omega
theorem fstN_mem {x : Int} (l : List Int) : (0 ≤ fstN x l 0) ↔ x ∈ l := by
  have gen : ∀ (l : List Int) (k : Nat), (0 ≤ fstN x l k) ↔ x ∈ l := by
    intro l
    induction l with
    | nil => intro k; simp [fstN]
    | cons y l ih =>
      intro k
      unfold fstN
      by_cases e : x = y
      · rw [if_pos (by simpa using e)]; simp [e]
      · rw [if_neg (by simpa using e), ih (k + 1)]; simp [e]
  exact gen l 0
set_option maxHeartbeats 1000000 in
set_option maxRecDepth 100000 in
theorem index_any (l : List Int) (x : Int) (a : Option Addr) (c : Nat) (w : World) (hq : QS w a c l) (hl : l.length ≤ 9223372036854775807) : Calls Try.prog 72 #[.slice a l.length c, .int .i64 x] w fun e w' => e = .returned (.int .i64 (fstN x l 0)) ∧ w' = w := by
  obtain ⟨hcap, hat⟩ := hq
  have HA : Hid (∀ k, k < l.length → ∃ b' o', a = some ⟨b', o', none⟩ ∧ RI w b' o' l) := hat
  clear hat
  go_enter Try.func72, Try.ntmps72
  go_wp2
  go_loop [8] (fun t => ∃ k : Nat, k ≤ l.length ∧ t = .int .i64 k ∧ Hid (∀ j (h : j < l.length), j < k → x ≠ l[j])) (fun t => l.length - (intOf t).toNat)
  case atStart => exact ⟨0, Nat.zero_le _, rfl, fun j _ h => absurd h (Nat.not_lt_zero _)⟩
  case round =>
    obtain ⟨k, hk, rfl, hJ⟩ := hrel
    by_cases hlt : k < l.length
    · obtain ⟨b', o', rfl, r⟩ := HA.out k hlt
      have c0 := r.c k hlt
      have hbl := r.lt
      have HE : Hid (x = l[k] → fstN x l 0 = (k : Int)) := fun e => by rw [fstN_at l 0 k hlt hJ.out e, Nat.zero_add]
      have HN : Hid (x ≠ l[k] → ∀ j (h : j < l.length), j < k + 1 → x ≠ l[j]) := fun h j hj hjk => by
        by_cases e : j = k
        · subst e; exact h
        · exact hJ.out j hj (by omega)
      clear r hJ
      generalize l[k] = y at *
      by_cases e : x = y
      · have e1 : (x == y) = true := by simpa using e
        have HE2 : Hid (fstN x l 0 = (k : Int)) := HE.out e
        clear e HE HN
        go_wp2
        go_ret
        exact ⟨ret_int HE2.out.symm, rfl⟩
      · have e1 : (x == y) = false := by simpa using e
        have HN2 : Hid (∀ j (h : j < l.length), j < k + 1 → x ≠ l[j]) := HN.out e
        clear e HE HN
        go_wp2
        go_round
        case rel => exact ⟨k + 1, by omega, by go_num, HN2⟩
        case measure => simp [intOf]; omega
    · obtain rfl : k = l.length := by omega
      have HE : Hid (fstN x l 0 = -1) := fstN_none l 0 (fun j hj => hJ.out j hj hj)
      clear hJ
      go_wp2
      go_ret
      exact ⟨ret_int HE.out.symm, rfl⟩
theorem contains_any (l : List Int) (x : Int) (a : Option Addr) (c : Nat) (w : World) (hq : QS w a c l) (hl : l.length ≤ 9223372036854775807) : Calls Try.prog 65 #[.slice a l.length c, .int .i64 x] w fun e w' => e = .returned (.bool (decide (x ∈ l))) ∧ w' = w := by
  have I := index_any l x a c w hq hl
  have HE : Hid (decide (0 ≤ fstN x l 0) = decide (x ∈ l)) := by
    show _ = _
    rw [decide_eq_decide]
    exact fstN_mem l
  go_enter Try.func65, Try.ntmps65
  go_wp2_with (go_at_call 72; (with_reducible refine I.mono ?_); rintro e w1 ⟨rfl, rfl⟩)
  go_ret
  exact ⟨ret_bool HE.out, rfl⟩
/-- Does a number stand there twice? -/
def dupB (l : List Int) : Bool := (List.range l.length).any fun j => decide (l.getD j 0 ∈ l.take j)
theorem dupB_at {l : List Int} (k : Nat) (h : k < l.length) (hm : l[k] ∈ l.take k) : dupB l = true := by
  unfold dupB
  rw [List.any_eq_true]
  refine ⟨k, List.mem_range.2 h, ?_⟩
  rw [List.getD_eq_getElem?_getD, List.getElem?_eq_getElem h]
  simpa using hm
theorem dupB_no {l : List Int} (h : ∀ k (h : k < l.length), ¬ l[k] ∈ l.take k) : dupB l = false := by
  unfold dupB
  rw [List.any_eq_false]
  intro k hk
  have hk := List.mem_range.1 hk
  rw [List.getD_eq_getElem?_getD, List.getElem?_eq_getElem hk]
  simpa using h k hk
theorem QS.take {W : World} {a : Option Addr} {c : Nat} {l : List Int} (h : QS W a c l) (k : Nat) (hk : k ≤ l.length) : QS W a c (l.take k) :=
  ⟨by have := h.cap; rw [List.length_take]; omega, fun j hj => by
    have hj' : j < l.length := by rw [List.length_take] at hj; omega
    obtain ⟨b, o, e, r⟩ := h.at_ j hj'
    exact ⟨b, o, e, fun i hi => by rw [List.getElem_take]; exact r.c i (by rw [List.length_take] at hi; omega), r.lt⟩⟩
set_option maxHeartbeats 1000000 in
set_option maxRecDepth 100000 in
theorem twice_any (l : List Int) (a : Option Addr) (c : Nat) (w : World) (hq : QS w a c l) (hl : l.length ≤ 9223372036854775807) : Calls Try.prog 62 #[.slice a l.length c] w fun e w' => e = .returned (.bool (dupB l)) ∧ w' = w := by
  have HQ : Hid (QS w a c l) := hq
  obtain ⟨hcap, hat⟩ := hq
  have HA : Hid (∀ k, k < l.length → ∃ b' o', a = some ⟨b', o', none⟩ ∧ RI w b' o' l) := hat
  clear hat
  go_enter Try.func62, Try.ntmps62
  go_wp2
  go_loop [7] (fun t => ∃ k : Nat, k ≤ l.length ∧ t = .int .i64 k ∧ Hid (∀ j (h : j < l.length), j < k → ¬ l[j] ∈ l.take j)) (fun t => l.length - (intOf t).toNat)
  case atStart => exact ⟨0, Nat.zero_le _, rfl, fun j _ h => absurd h (Nat.not_lt_zero _)⟩
  case round =>
    obtain ⟨k, hk, rfl, hJ⟩ := hrel
    by_cases hlt : k < l.length
    · obtain ⟨b', o', rfl, r⟩ := HA.out k hlt
      have c0 := r.c k hlt
      have hbl := r.lt
      have ht : (l.take k).length = k := by rw [List.length_take]; omega
      have CT := contains_any (l.take k) l[k] (some ⟨b', o', none⟩) c w (HQ.out.take k hk) (by omega)
      rw [ht] at CT
      have HE : Hid (l[k] ∈ l.take k → dupB l = true) := fun e => dupB_at k hlt e
      have HN : Hid (¬ l[k] ∈ l.take k → ∀ j (h : j < l.length), j < k + 1 → ¬ l[j] ∈ l.take j) := fun h j hj hjk => by
        by_cases e : j = k
        · subst e; exact h
        · exact hJ.out j hj (by omega)
      clear r hJ ht
      generalize l[k] = y at *
      by_cases e : y ∈ l.take k
      · rw [decide_eq_true e] at CT
        have HE2 : Hid (dupB l = true) := HE.out e
        clear e HE HN
        go_wp2_with (go_at_call 65; (with_reducible refine CT.mono ?_); rintro e w1 ⟨rfl, rfl⟩)
        go_ret
        exact ⟨ret_bool HE2.out.symm, rfl⟩
      · rw [decide_eq_false e] at CT
        have HN2 : Hid (∀ j (h : j < l.length), j < k + 1 → ¬ l[j] ∈ l.take j) := HN.out e
        clear e HE HN
        go_wp2_with (go_at_call 65; (with_reducible refine CT.mono ?_); rintro e w1 ⟨rfl, rfl⟩)
        go_round
        case rel => exact ⟨k + 1, by omega, by go_num, HN2⟩
        case measure => simp [intOf]; omega
    · obtain rfl : k = l.length := by omega
      have HE : Hid (dupB l = false) := dupB_no (fun j hj => hJ.out j hj hj)
      clear hJ
      go_wp2
      go_ret
      exact ⟨ret_bool HE.out.symm, rfl⟩
/-- What is wrong with an operation that has so many qubits. -/
def opE (o : Oq) (q : Int) (b : Nat) (n : Nat) : Nat :=
  if rfB o = false ∨ rcB o b = false then 120 else if n = 0 then 80 else if o.qs.length ≠ n then 111 else if rnB o q b = false then 112 else if dupB o.qs = true then 113 else 0
set_option maxHeartbeats 1000000 in
set_option maxRecDepth 100000 in
theorem checkOp_any (o : Oq) (a : Option Addr) (c : Nat) (q : Int) (b n : Nat) (a2 : Option Addr) (n2 c2 : Nat) (w : World) (hf : Fit o) (hq : QS w a c o.qs) (hb : b ≤ 64) :
    Calls Try.prog 53 #[.agg #[.int .i64 q, .int .i64 (b : Nat), .slice a2 n2 c2], opv o a c, .int .i64 n] w fun e w' => e = .returned (.int .i64 (opE o q b n : Nat)) ∧ Below w.heap.size w w' := by
  have RF := fun w => rightFields_any o a c w
  have RC := fun w => rightCondition_any o a c b w hf hb
  have RN := fun w1 h => rightNumbers_any o a c q b _ a2 n2 c2 w1 hf h rfl
  have TW := fun w1 h => twice_any o.qs a c w1 h hf.l
  have HQ : Hid (QS w a c o.qs) := hq
  have hl := hf.l
  clear hq
  have HE : Hid (opE o q b n = if rfB o = false ∨ rcB o b = false then 120 else if n = 0 then 80 else if o.qs.length ≠ n then 111 else if rnB o q b = false then 112 else if dupB o.qs = true then 113 else 0) := rfl
  generalize opE o q b n = E at *
  generalize hrf : rfB o = rf at *
  generalize hrc : rcB o b = rc at *
  generalize hrn : rnB o q b = rn at *
  generalize hdu : dupB o.qs = du at *
  clear hrf hrc hrn hdu hf
  obtain ⟨K, N, Q, B, F, M, V⟩ := o
  simp only at *
  go_enter Try.func53, Try.ntmps53
  go_wp2_with (first
    | (go_at_call 59; (with_reducible refine (RF _).mono ?_); rintro e w1 ⟨rfl, hX⟩; obtain ⟨k1, k2⟩ := two_box hX; have q1 := k1.cell; have q2 := k2.cell; have z1 := k2.lt; clear k1 k2)
    | (go_at_call 60; (with_reducible refine (RC _).mono ?_); rintro e w2 ⟨rfl, hB2⟩; replace hX := btr hX hB2; obtain ⟨k1, k2⟩ := two_box hX; replace q1 := k1.cell; replace q2 := k2.cell; replace z1 := k2.lt; clear k1 k2)
    | (go_at_call 61; (with_reducible refine (RN _ (HQ.out.below (btr (bal (bal (Below.refl _ _) _) _) hX))).mono ?_); rintro e w3 ⟨rfl, hB3⟩; replace hX := btr hX hB3; obtain ⟨k1, k2⟩ := two_box hX; replace q1 := k1.cell; replace q2 := k2.cell; replace z1 := k2.lt; clear k1 k2)
    | (go_at_call 62; (with_reducible refine (TW _ (HQ.out.below (btr (bal (bal (Below.refl _ _) _) _) hX))).mono ?_); rintro e w4 ⟨rfl, rfl⟩))
  all_goals
    go_ret
    refine ⟨ret_int ?_, btr (bal (bal (Below.refl _ _) _) _) hX⟩
    rw [HE.out]
    clear RF RC RN TW HQ
    have hqn : ((Q.length : Int) = (n : Int)) ↔ Q.length = n := by omega
    simp_all
end Go.Proofs.Ytinkdonaedoojaa.CL
