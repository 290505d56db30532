/-
  The reference's fault and halves.
-/
import Derived.Test.YtinkdonaedoojaaCC3
import Derived.Test.YtinkdonaedoojaaCD1
namespace Go.Proofs.Ytinkdonaedoojaa.CL
open Go.RowKit Go.Sort

set_option maxHeartbeats 400000 in
set_option maxRecDepth 100000 in
theorem rhalvesOp_any (o : Oq) (a : Option Addr) (c : Nat) (w : World) : Calls Try.prog 47 #[opv o a c] w fun e w' => e = .returned (.int .i64 (opH o : Nat)) ∧ Below w.heap.size w w' := by
  have HV := fun w => rhalves_any o.n w
  by_cases hk : o.k = 1
  · have h2 : opH o = ghv o.n := by unfold opH; rw [if_pos hk]
    rw [h2]
    have hk1 : (o.k == 1) = true := by simpa using hk
    clear hk h2
    go_enter Try.func47, Try.ntmps47
    go_wp2_with (go_at_call 56; (with_reducible refine (HV _).mono ?_); rintro e w1 ⟨rfl, rfl⟩)
    go_ret
    exact ⟨rfl, bal (Below.refl _ _) _⟩
  · have h2 : opH o = 0 := by unfold opH; rw [if_neg hk]
    rw [h2]
    have hk1 : (o.k == 1) = false := by simpa using hk
    clear hk h2
    go_enter Try.func47, Try.ntmps47
    go_wp2
    go_ret
    exact ⟨rfl, bal (Below.refl _ _) _⟩
theorem mem_take {l : List Int} {x : Int} {k : Nat} (hk : k ≤ l.length) (h : ∀ j (h : j < l.length), j < k → x ≠ l[j]) : ¬ x ∈ l.take k := by
  intro hm
  obtain ⟨j, hj, e⟩ := List.getElem_of_mem hm
  rw [List.getElem_take] at e
  rw [List.length_take] at hj
  exact h j (by omega) (by omega) e.symm
theorem take_mem {l : List Int} {j k : Nat} (hj : j < l.length) (hk : j < k) : l[j] ∈ l.take k := by
  have : (l.take k)[j]'(by rw [List.length_take]; omega) = l[j] := List.getElem_take
  rw [← this]
  exact List.getElem_mem _
set_option maxHeartbeats 4000000 in
set_option maxRecDepth 100000 in
theorem fault_any (o : Oq) (a : Option Addr) (c : Nat) (q : Int) (b : Nat) (w : World) (hf : Fit o) (hq : QS w a c o.qs) (hb : b ≤ 64) :
    Calls Try.prog 46 #[opv o a c, .int .i64 q, .int .i64 (b : Nat)] w fun e w' => e = .returned (.int .i64 (opE o q b (opN o) : Nat)) ∧ Below w.heap.size w w' := by
  have SH := fun w => shape_any o a c b w hf hb
  have RA := fun w => rarity_any o.n w
  have HQ : Hid (QS w a c o.qs) := hq
  have hl := hf.l
  have hgl := gar_le o.n
  have HE : Hid (opE o q b (opN o) = if rfB o = false ∨ rcB o b = false then 120 else if opN o = 0 then 80 else if o.qs.length ≠ opN o then 111 else if rnB o q b = false then 112 else if dupB o.qs = true then 113 else 0) := rfl
  have HRN : Hid (rnB o q b = (inB q o.qs && (!(o.k == 2) || (decide (0 ≤ o.b) && decide (o.b < b))))) := rfl
  have HN : Hid (opN o = if o.k = 1 then gar o.n else 1) := rfl
  have HS : Hid (shE o b = if rfB o = false ∨ rcB o b = false then 120 else 0) := rfl
  generalize opE o q b (opN o) = E at *
  generalize opN o = n at *
  generalize rnB o q b = rn at *
  generalize shE o b = sh at *
  generalize rfB o = rf at *
  generalize rcB o b = rc at *
  clear hf hq
  obtain ⟨K, N, Q, B, F, M, V⟩ := o
  simp only at *
  generalize gar N = g at *
  have hn3 : n ≤ 3 := by have := HN.out; split at this <;> omega
  by_cases hsh : rf = false ∨ rc = false
  · obtain rfl : sh = 120 := by rw [HS.out, if_pos hsh]
    obtain rfl : E = 120 := by rw [HE.out, if_pos hsh]
    clear hsh HS HE
    go_enter Try.func46, Try.ntmps46
    go_wp2_with (go_at_call 54; (with_reducible refine (SH _).mono ?_); rintro e w1 ⟨rfl, hX⟩)
    go_ret
    exact ⟨rfl, btr (bal (Below.refl _ _) _) hX⟩
  obtain rfl : sh = 0 := by rw [HS.out, if_neg hsh]
  have HE2 : Hid (E = if n = 0 then 80 else if Q.length ≠ n then 111 else if rn = false then 112 else if dupB Q = true then 113 else 0) := by show _ = _; rw [HE.out, if_neg hsh]
  clear hsh HS HE
  go_enter Try.func46, Try.ntmps46
  go_upto_if 20 with (go_at_call 54; (with_reducible refine (SH _).mono ?_); rintro e w1 ⟨rfl, hX⟩; have k2 := one_box hX; have q2 : ∀ k, w1.cell? ⟨w.heap.size, k, none⟩ = _ := k2.cell; have z1 := k2.lt; have HX : Hid (Below w.heap.size w w1) := btr (bal (Below.refl _ _) _) hX; clear k2 hX)
  clear SH
  go_cut [8] from 18 to 25 (fun v W => v = .int .i64 (n : Int) ∧ Hid (n ≠ 0) ∧ W = w1)
  case first =>
    by_cases hk : K = 1
    · have hk1 : (K == 1) = true := by simpa using hk
      obtain rfl : n = g := by rw [HN.out, if_pos hk]
      by_cases hg : n = 0
      · subst hg
        obtain rfl : E = 80 := by rw [HE2.out, if_pos rfl]
        clear hk HE2
        go_wp2_with (go_at_call 55; (with_reducible refine (RA _).mono ?_); rintro e w2 ⟨rfl, rfl⟩)
        go_ret
        exact ⟨rfl, HX.out⟩
      · have hg1 : ((n : Int) == 0) = false := beq_eq_false_iff_ne.2 (by omega)
        have HG : Hid (n ≠ 0) := hg
        clear hk HE2 hg
        go_wp2_with (go_at_call 55; (with_reducible refine (RA _).mono ?_); rintro e w2 ⟨rfl, rfl⟩)
        go_meet
        case rel => exact ⟨rfl, HG, rfl⟩
    · have hk1 : (K == 1) = false := by simpa using hk
      obtain rfl : n = 1 := by rw [HN.out, if_neg hk]
      clear hk HE2
      go_wp2
      go_meet
      case rel => exact ⟨rfl, Nat.one_ne_zero, rfl⟩
  obtain ⟨rfl, hn0, hw⟩ := hcut
  subst hw
  clear RA HN
  by_cases hlen : Q.length = n
  case neg =>
    have h1 : ((Q.length : Int) != (n : Int)) = true := bne_iff_ne.2 (by omega)
    obtain rfl : E = 111 := by rw [HE2.out, if_neg hn0.out, if_pos hlen]
    clear hlen HE2
    go_wp2
    go_ret
    exact ⟨rfl, HX.out⟩
  subst hlen
  have HE3 : Hid (E = if rn = false then 112 else if dupB Q = true then 113 else 0) := by show _ = _; rw [HE2.out, if_neg hn0.out, if_neg (by simp)]
  have hQ2 := HQ.out.below HX.out
  have hcap := hQ2.cap
  have HA : Hid (∀ k, k < Q.length → ∃ b' o', a = some ⟨b', o', none⟩ ∧ RI wc b' o' Q) := hQ2.at_
  clear HE2 hQ2 HQ
  go_wp2
  go_loop [9] (fun t => ∃ k : Nat, k ≤ Q.length ∧ t = .int .i64 k ∧ Hid (∀ j (h : j < Q.length), j < k → 0 ≤ Q[j] ∧ Q[j] < q)) (fun t => Q.length - (intOf t).toNat)
  case atStart => exact ⟨0, Nat.zero_le _, rfl, fun j _ h => absurd h (Nat.not_lt_zero _)⟩
  case round =>
    obtain ⟨k, hk, rfl, hJ⟩ := hrel
    by_cases hlt : k < Q.length
    · obtain ⟨b', o', rfl, r⟩ := HA.out k hlt
      have c0 := r.c k hlt
      have hbl := r.lt
      have HB1 : Hid (Q[k] < 0 ∨ q ≤ Q[k] → E = 112) := fun h => by rw [HE3.out, if_pos]; rw [HRN.out, inB_at k hlt h]; rfl
      have HB2 : Hid (0 ≤ Q[k] ∧ Q[k] < q → ∀ j (h : j < Q.length), j < k + 1 → 0 ≤ Q[j] ∧ Q[j] < q) := fun h j hj hjk => by
        by_cases e : j = k
        · subst e; exact h
        · exact hJ.out j hj (by omega)
      clear r hJ
      generalize Q[k] = x at *
      by_cases h0 : x < 0
      · obtain rfl := HB1.out (.inl h0)
        go_wp2
        go_ret
        exact ⟨rfl, HX.out⟩
      · by_cases h1 : q ≤ x
        · obtain rfl := HB1.out (.inr h1)
          go_wp2
          go_ret
          exact ⟨rfl, HX.out⟩
        · have hJ2 : Hid (∀ j (h : j < Q.length), j < k + 1 → 0 ≤ Q[j] ∧ Q[j] < q) := HB2.out ⟨by omega, by omega⟩
          clear HB1 HB2
          go_wp2
          go_round
          case rel => exact ⟨k + 1, by omega, by go_num, hJ2⟩
          case measure => simp [intOf]; omega
    obtain rfl : k = Q.length := by omega
    have hall : inB q Q = true := inB_all (fun j hj => hJ.out j hj hj)
    rw [hall] at HRN
    clear hJ hall
    by_cases hm : K = 2 ∧ (B < 0 ∨ (b : Int) ≤ B)
    · obtain ⟨rfl, hm⟩ := hm
      obtain rfl : E = 112 := by rw [HE3.out, if_pos]; rw [HRN.out]; simp; omega
      clear HE3 HRN
      by_cases hB : B < 0
      · go_wp2
        go_ret
        exact ⟨rfl, HX.out⟩
      · have hB2 : (b : Int) ≤ B := by omega
        go_wp2
        go_ret
        exact ⟨rfl, HX.out⟩
    have hE4 : E = if dupB Q = true then 113 else 0 := by
      rw [HE3.out, if_neg]
      rw [HRN.out]
      simp
      omega
    have HE4 : Hid (E = if dupB Q = true then 113 else 0) := hE4
    have hways : (K == 2) = false ∨ ((K == 2) = true ∧ ¬ B < 0 ∧ ¬ (b : Int) ≤ B) := by
      by_cases hk : K = 2
      · exact .inr ⟨by simpa using hk, by omega, by omega⟩
      · exact .inl (by simpa using hk)
    clear hm hE4 HE3 HRN
    rcases hways with hk2 | ⟨hk2, hB1, hB2⟩
    all_goals
      go_wp2
      go_loopw [10] (fun t W => ∃ i : Nat, i ≤ Q.length ∧ t = .int .i64 i ∧ Hid (Below wc.heap.size wc W) ∧ Hid (∀ j (h : j < Q.length), j < i → ¬ Q[j] ∈ Q.take j)) (fun t _ => Q.length - (intOf t).toNat)
      case atStart => exact ⟨0, Nat.zero_le _, rfl, Below.refl _ _, fun j _ h => absurd h (Nat.not_lt_zero _)⟩
      case round =>
        obtain ⟨i, hi, rfl, hW, hD⟩ := hrel
        by_cases hlt : i < Q.length
        case neg =>
          obtain rfl : i = Q.length := by omega
          obtain rfl : E = 0 := by rw [HE4.out, dupB_no (fun j hj => hD.out j hj hj)]; rfl
          go_wp2
          go_ret
          exact ⟨rfl, btr HX.out hW.out⟩
        have hdl : decide ((i : Int) < (Q.length : Int)) = true := decide_eq_true (by omega)
        have hdl2 : decide (i < Q.length) = true := decide_eq_true hlt
        go_wp2
        go_loopw [11] (fun t W => ∃ k : Nat, k ≤ i ∧ t = .int .i64 k ∧ Hid (Below wc.heap.size wc W) ∧ Hid (∀ j (h : j < Q.length), j < k → Q[i] ≠ Q[j])) (fun t _ => i - (intOf t).toNat)
        case atStart => exact ⟨0, Nat.zero_le _, rfl, hW, fun j _ h => absurd h (Nat.not_lt_zero _)⟩
        case round =>
          obtain ⟨k, hk, rfl, hW2, hD2⟩ := hrel
          by_cases hlt2 : k < i
          case neg =>
            obtain rfl : k = i := by omega
            have hD3 : Hid (∀ j (h : j < Q.length), j < k + 1 → ¬ Q[j] ∈ Q.take j) := fun j hj hjk => by
              by_cases e : j = k
              · subst e; exact mem_take hi hD2.out
              · exact hD.out j hj (by omega)
            clear hD hD2
            go_wp2
            go_roundw
            case rel => exact ⟨k + 1, by omega, by go_num, hW2, hD3⟩
            case measure => simp [intOf]; omega
          have hkQ : k < Q.length := by omega
          obtain ⟨b', o', rfl, r0⟩ := HA.out k hkQ
          have r := r0.below hW2.out
          have c0 := r.c k hkQ
          have c1 := r.c i hlt
          have hbl := r.lt
          have c2 := (hW2.out.cell (p := ⟨w.heap.size, 2, none⟩) z1).trans (q2 2)
          have hz2 : w.heap.size < wr.heap.size := Nat.lt_of_lt_of_le z1 hW2.out.size
          have HB1 : Hid (Q[i] = Q[k] → E = 113) := fun h => by rw [HE4.out, dupB_at i hlt (by rw [h]; exact take_mem hkQ hlt2)]; rfl
          have HB2 : Hid (Q[i] ≠ Q[k] → ∀ j (h : j < Q.length), j < k + 1 → Q[i] ≠ Q[j]) := fun h j hj hjk => by
            by_cases e : j = k
            · subst e; exact h
            · exact hD2.out j hj (by omega)
          clear r r0 hD2
          simp only [List.getElem?_toArray, List.getElem?_cons_succ, List.getElem?_cons_zero] at c2
          generalize hx : Q[i] = x at *
          generalize hy : Q[k] = y at *
          by_cases e : x = y
          · have e1 : (x == y) = true := by simpa using e
            obtain rfl := HB1.out e
            clear e HB1 HB2 hx hy
            go_upto_region 24 with (fail)
            go_quiet (fail)
            go_wp2
            go_ret
            exact ⟨rfl, below_drewN (btr HX.out hW2.out) _⟩
          · have e1 : (x == y) = false := by simpa using e
            have hD3 : Hid (∀ j (h : j < Q.length), j < k + 1 → x ≠ Q[j]) := HB2.out e
            subst hx
            clear e HB1 HB2 hy
            go_upto_region 24 with (fail)
            go_quiet (fail)
            go_wp2
            go_roundw
            case rel => exact ⟨k + 1, by omega, by go_num, below_drewN hW2.out _, hD3⟩
            case measure => simp [intOf]; omega
end Go.Proofs.Ytinkdonaedoojaa.CL
