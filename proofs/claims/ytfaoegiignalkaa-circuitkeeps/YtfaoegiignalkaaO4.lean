/-
  The reference's layers are the code's.
-/
import Derived.Test.YtfaoegiignalkaaO3
namespace Go.Proofs.Ytfaoegiignalkaa
open Go.RowKit Go.Shelf

theorem eq_of_lts {a b : Nat} (h : ∀ x, x < a ↔ x < b) : a = b := by
  have h1 := h a
  have h2 := h b
  omega
theorem stps_pre (os : List Oq) {j k : Nat} : ∀ n, j < k → k ≤ n → (stps os n).getD j 0 = (stps os k).getD j 0
  | 0, h1, h2 => by omega
  | n + 1, h1, h2 => by
    by_cases e : k = n + 1
    · rw [e]
    · rw [← stps_pre os n h1 (by omega)]
      show (stps os n ++ [_]).getD j 0 = _
      rw [List.getD_eq_getElem?_getD, List.getElem?_append_left (by rw [stps_len]; omega), ← List.getD_eq_getElem?_getD]
theorem stps_at (os : List Oq) {k n : Nat} (h : k < n) (hk : k < os.length) : (stps os n).getD k 0 = stI os (stps os k) os[k] k := by
  rw [stps_pre os (k := k + 1) n (by omega) (by omega)]
  have hgd : os.getD k noOq = os[k] := by rw [List.getD_eq_getElem?_getD, List.getElem?_eq_getElem hk]; rfl
  rw [← hgd]
  show (stps os k ++ [_]).getD k 0 = _
  rw [List.getD_eq_getElem?_getD, List.getElem?_append_right (by rw [stps_len]; omega), stps_len, Nat.sub_self]
  rfl
def rly (ss : List Nat) : Nat → List (List Nat)
  | 0 => []
  | k + 1 => addL (rly ss k) (ss.getD k 0) k
def psk (os : List Oq) (k : Nat) : List (Oq × Nat) := (os.take k).zip (stps os k)
theorem psk_mem {os : List Oq} {k : Nat} (hk : k ≤ os.length) {p : Oq × Nat} : p ∈ psk os k ↔ ∃ i, i < k ∧ p = (os.getD i noOq, (stps os k).getD i 0) := by
  unfold psk
  constructor
  · intro h
    obtain ⟨i, hi, e⟩ := List.getElem_of_mem h
    have hi2 : i < k := by rw [List.length_zip, List.length_take, stps_len] at hi; omega
    refine ⟨i, hi2, ?_⟩
    rw [← e, List.getElem_zip, List.getElem_take, List.getD_eq_getElem?_getD, List.getD_eq_getElem?_getD, List.getElem?_eq_getElem (by omega), List.getElem?_eq_getElem (by rw [stps_len]; exact hi2)]
    rfl
  · rintro ⟨i, hi, rfl⟩
    have hl : i < ((os.take k).zip (stps os k)).length := by rw [List.length_zip, List.length_take, stps_len]; omega
    have := List.getElem_mem hl
    rw [List.getElem_zip, List.getElem_take] at this
    rw [List.getD_eq_getElem?_getD, List.getD_eq_getElem?_getD, List.getElem?_eq_getElem (by omega), List.getElem?_eq_getElem (by rw [stps_len]; exact hi)]
    exact this
theorem psk_next {os : List Oq} {k : Nat} (hk : k < os.length) : psk os (k + 1) = psk os k ++ [(os[k], stI os (stps os k) os[k] k)] := by
  unfold psk
  have hgd : os.getD k noOq = os[k] := by rw [List.getD_eq_getElem?_getD, List.getElem?_eq_getElem hk]; rfl
  rw [List.take_succ_eq_append_getElem hk, show stps os (k + 1) = stps os k ++ [stI os (stps os k) (os.getD k noOq) k] from rfl, hgd, List.zip_append (by rw [List.length_take, stps_len]; omega)]
  rfl
theorem lst_step {os : List Oq} {k : Nat} {f : Nat → Nat} (hk : k < os.length) (hok : ∀ k (h : k < os.length), Okay os[k]) (hf : MI f (psk os k)) : lst f os[k] = stI os (stps os k) os[k] k := by
  have hps : ∀ p ∈ psk os k, Okay p.1 := fun p hp => by
    obtain ⟨i, hi, rfl⟩ := (psk_mem (by omega)).1 hp
    show Okay (os.getD i noOq)
    rw [List.getD_eq_getElem?_getD, List.getElem?_eq_getElem (by omega)]
    exact hok i (by omega)
  apply eq_of_lts
  intro x
  rw [hf.least (hok k hk) hps, stI_lt]
  constructor
  · rintro ⟨p, hp, g⟩
    obtain ⟨i, hi, rfl⟩ := (psk_mem (by omega)).1 hp
    exact ⟨i, hi, g⟩
  · rintro ⟨i, hi, g⟩
    exact ⟨_, (psk_mem (by omega)).2 ⟨i, hi, rfl⟩, g⟩
theorem rly_front {os : List Oq} (hok : ∀ k (h : k < os.length), Okay os[k]) : ∀ k, k ≤ os.length → ∃ f, MI f (psk os k) ∧ lyF os 0 (fun _ => 0) [] = lyF (os.drop k) k f (rly (stps os os.length) k) ∧ (∀ i, f i ≤ (rly (stps os os.length) k).length)
  | 0, _ => ⟨fun _ => 0, MI.nil, rfl, fun _ => Nat.zero_le _⟩
  | k + 1, hk => by
    obtain ⟨f, h1, h2, h3⟩ := rly_front hok k (by omega)
    have hs := lst_step (by omega) hok h1
    have ha := stps_at os (k := k) (n := os.length) (by omega) (by omega)
    have hle : lst f os[k] ≤ (rly (stps os os.length) k).length := lst_le h3 _
    have hr : rly (stps os os.length) (k + 1) = addL (rly (stps os os.length) k) (lst f os[k]) k := by rw [hs, ← ha]; rfl
    have hal := addL_len (ls := rly (stps os os.length) k) (s := lst f os[k]) (j := k) hle
    refine ⟨putM f os[k] (lst f os[k]), ?_, ?_, ?_⟩
    · rw [psk_next (by omega), ← hs]
      exact h1.put (Nat.le_refl _)
    · rw [h2, lyF_drop (by omega), hr]
    · rw [hr]
      exact putM_le hal.2.1 (fun i => Nat.le_trans (h3 i) hal.1)
/-- The layers by steps; each step is no more than there are layers ahead. -/
theorem layers_rly {os : List Oq} (hok : ∀ k (h : k < os.length), Okay os[k]) : lyF os 0 (fun _ => 0) [] = rly (stps os os.length) os.length ∧ ∀ k, k < os.length → (stps os os.length).getD k 0 ≤ (rly (stps os os.length) k).length := by
  refine ⟨?_, fun k hk => ?_⟩
  · obtain ⟨f, _, h2, _⟩ := rly_front hok os.length (Nat.le_refl _)
    rw [h2, List.drop_of_length_le (Nat.le_refl _)]
    rfl
  · obtain ⟨f, h1, _, h3⟩ := rly_front hok k (by omega)
    rw [stps_at os hk hk, ← lst_step hk hok h1]
    exact lst_le h3 _
theorem rly_sizes {ss : List Nat} {n : Nat} (h : ∀ k, k < n → ss.getD k 0 ≤ (rly ss k).length) : ∀ k, k ≤ n → (rly ss k).length ≤ k ∧ ∀ l ∈ rly ss k, l.length ≤ k
  | 0, _ => ⟨Nat.le_refl _, fun l h => by cases h⟩
  | k + 1, hk => by
    obtain ⟨h1, h2⟩ := rly_sizes h k (by omega)
    have hal := addL_len (ls := rly ss k) (s := ss.getD k 0) (j := k) (h k (by omega))
    exact ⟨by show (addL _ _ _).length ≤ _; omega, addL_row h2⟩
def slN : Value → Nat
  | .slice _ n _ => n
  | _ => 0
/-- Layers in the making, in memory above a world's. -/
structure RQ (V W : World) (v : Value) (ls : List (List Nat)) (vs : List Value) : Prop where
  below : Below V.heap.size V W
  ol : OL W V.heap.size v ls vs
section
variable {V W W' : World} {v v' rv : Value} {ls : List (List Nat)} {vs : List Value} {l0 : List Nat}
theorem RQ.on (h : RQ V W v ls vs) (hb : Below W.heap.size W W') : RQ V W' v ls vs := ⟨btr h.below hb, h.ol.below hb⟩
theorem RQ.push (h : RQ V W v ls vs) (hg : W.grownBy W' v.ownBlock) (ho : W'.ownsRow V.heap.size 43 1 v' (ls.length + 1) (vs ++ [.slice none 0 0])) : RQ V W' v' (ls ++ [[]]) (vs ++ [.slice none 0 0]) :=
  ⟨h.below.grown hg h.below.size (fun g e => (h.ol.out.lt g e).1), h.ol.push hg ho⟩
theorem RQ.adds {g cap k n : Nat} (h : RQ V W (.slice (some ⟨g, 0, none⟩) ls.length cap) ls vs) (hk : k < ls.length) (hk' : k < vs.length) (e1 : vs[k] = rv) (e2 : ls[k] = l0) (hg : W.grownBy W' rv.ownBlock)
    (ho : W'.ownsRow V.heap.size 3 1 v' (l0.length + 1) (il l0 ++ [.int .i64 (n : Nat)])) (hloc : v'.ownBlock = rv.ownBlock ∨ v'.ownBlock = some W.heap.size) :
    RQ V (W'.setCell ⟨g, k, none⟩ v') (.slice (some ⟨g, 0, none⟩) ls.length cap) (ls.set k (l0 ++ [n])) (vs.set k v') ∧ Below V.heap.size V W' ∧ (∃ x, W'.cell? ⟨g, k, none⟩ = some x) ∧ W'.frozen? ⟨g, k, none⟩ = false ∧ g < W'.heap.size := by
  subst e1
  subst e2
  have hout : W'.ownsRow V.heap.size 43 1 (.slice (some ⟨g, 0, none⟩) ls.length cap) ls.length vs := own_kept h.ol.out hg (fun x hx e => h.ol.apart k hk hk' x (e.symm) hx.symm)
  have hb : Below V.heap.size V W' := h.below.grown hg h.below.size (fun g e => ((h.ol.row k hk hk').lt g e).1)
  obtain ⟨g2, cap2, e, _, hfz, hcell, hBg, hgl⟩ := own_at hout (by omega)
  cases e
  exact ⟨⟨bset hb _ _ _ hBg, h.ol.put hk hk' hg ho hloc⟩, hb, ⟨_, hcell k hk'⟩, hfz k, hgl⟩
theorem OL.mono {B B' : Nat} (h : OL W B v ls vs) (hb : B' ≤ B) : OL W B' v ls vs := ⟨h.len, own_mono h.out hb, fun k h1 h2 => own_mono (h.row k h1 h2) hb, h.ne⟩
end
set_option maxHeartbeats 4000000 in
set_option maxRecDepth 100000 in
theorem rlayers_any (c : Ci) (a : Option Addr) (cp : Nat) (A : Nat → Option Addr) (C : Nat → Nat) (w : World) (H : OS w a cp c.ops A C) :
    Calls Try.prog 23 #[civ c a cp] w fun e w' => ∃ v vs, e = .returned (.tuple #[v, .int .i64 ((lk c).2.2 : Nat)]) ∧ OL w' w.heap.size v (layers c) vs ∧ Below w.heap.size w w' := by
  have L := fun w1 h => rcheck_any c a cp A C w1 h
  have HO : Hid (OS w a cp c.ops A C) := H
  by_cases hE : (lk c).2.2 = 0
  case neg =>
    have HL1 : Hid (layers c = []) := by show _ = _; unfold layers; rw [if_neg hE]
    rw [HL1.out]
    have hE1 : (((lk c).2.2 : Int) != 0) = true := bne_iff_ne.2 (by omega)
    clear hE H
    generalize (lk c).2.2 = E at *
    generalize (lk c).1 = P at *
    go_enter Try.func23, Try.ntmps23
    go_wp2_with (go_at_call 10; (with_reducible refine (L _ (HO.out.below (bal (Below.refl _ _) _))).mono ?_); rintro e w1 ⟨rfl, hB⟩)
    go_ret2
    exact ⟨_, [], rfl, OL.nil _ _, btr (bal (Below.refl _ _) _) hB⟩
  have hok : ∀ k (hk : k < c.ops.length), Okay c.ops[k] := fun k hk => (lk_okay hE H.fit k hk).1
  have hl4 := (lk_ok hE).2.1
  have ST := fun w1 h => steps_any c a cp A C w1 h hl4 hok
  have hly : layers c = rly (stps c.ops c.ops.length) c.ops.length := by unfold layers; rw [if_pos hE]; exact (layers_rly hok).1
  have HSZ := hid (rly_sizes (layers_rly hok).2)
  have HSL := hid (layers_rly hok).2
  have hcap := H.cap
  rw [hE] at L ⊢
  rw [hly]
  clear hE H hok hly
  generalize (lk c).1 = P at *
  obtain ⟨i43, hi43, hz43, hs43, hb43⟩ := info_parts Try.info43
  have HI43 : Hid (Try.prog.info? 43 = some i43 ∧ i43.zero = some (.slice none 0 0) ∧ i43.size = 1 ∧ i43.bytes = 24) := ⟨hi43, hz43, hs43, hb43⟩
  obtain ⟨i3, hi3, hz3, hs3, hb3⟩ := info_parts Try.info3
  have HI3 : Hid (Try.prog.info? 3 = some i3 ∧ i3.zero = some (.int .i64 0) ∧ i3.size = 1 ∧ i3.bytes = 8) := ⟨hi3, hz3, hs3, hb3⟩
  clear hi43 hz43 hs43 hb43 hi3 hz3 hs3 hb3
  have hssl := stps_len c.ops c.ops.length
  generalize stps c.ops c.ops.length = ss at *
  obtain ⟨q, b, os⟩ := c
  simp only at *
  go_enter Try.func23, Try.ntmps23
  go_wp2_with (first
    | (go_at_call 10; (with_reducible refine (L _ (HO.out.below (bal (Below.refl _ _) _))).mono ?_); rintro e w1 ⟨rfl, hB⟩; have bC := one_box hB; have qC : ∀ j, w1.cell? ⟨w.heap.size, j, none⟩ = _ := bC.cell; have zC := bC.lt; have hW1 := btr (bal (Below.refl _ _) _) hB)
    | (go_at_call 42; (with_reducible refine (ST _ (HO.out.below hW1)).mono ?_); rintro e V ⟨vS, rfl, hS, hBV⟩; refine Hid.out ?_))
  refine hid ?_
  have hWV : Below w.heap.size w V := btr hW1 hBV
  have HWV := hid hWV
  obtain ⟨aS, cS, rfl, hcS⟩ := own_cap hS
  have HS0 := hid hS
  clear hB bC qC zC hW1 hBV L ST HO hS hWV
  go_wp2
  go_loopw [7, 8] (fun v7 v8 wr => ∃ k : Nat, k ≤ os.length ∧ v8 = .int .i64 (k : Nat) ∧ ∃ vs, RQ V wr v7 (rly ss k) vs) (fun _ s _ => os.length - (intOf s).toNat)
  case atStart => exact ⟨0, Nat.zero_le _, rfl, [], Below.refl _ _, OL.nil _ _⟩
  case round =>
    obtain ⟨k, hk, rfl, vs, hi⟩ := hrel
    obtain ⟨va, vc, rfl, hvc⟩ := own_cap hi.ol.out
    by_cases hlt : k < os.length
    case neg =>
      obtain rfl : k = os.length := by omega
      have HI := hid hi
      clear hi
      go_wp2
      go_ret2
      exact ⟨_, vs, rfl, HI.out.ol.mono HWV.out.size, btr HWV.out HI.out.below⟩
    obtain ⟨gS, capS, e, _, _, hcell, _, hgl⟩ := own_at HS0.out (by omega)
    cases e
    have hsV : V.cell? ⟨gS, k, none⟩ = some (.int .i64 (ss.getD k 0 : Nat)) := by
      rw [hcell k (by simp [il]; omega), List.getD_eq_getElem?_getD, List.getElem?_eq_getElem (by omega)]
      simp [il]
    have HSV : Hid (∀ W, Below V.heap.size V W → W.cell? ⟨gS, k, none⟩ = some (.int .i64 (ss.getD k 0 : Nat)) ∧ gS < W.heap.size) := fun W h => ⟨(h.cell (p := ⟨gS, k, none⟩) hgl).trans hsV, Nat.lt_of_lt_of_le hgl h.size⟩
    have hs : ss.getD k 0 ≤ (rly ss k).length := HSL.out k hlt
    obtain ⟨hz1, hz2⟩ := HSZ.out k (by omega)
    have HZ2 := hid hz2
    have HN : Hid (rly ss (k + 1) = addL (rly ss k) (ss.getD k 0) k) := rfl
    have HI := hid hi
    clear hi hcell hsV hgl hz2
    generalize rly ss k = ls at *
    generalize ss.getD k 0 = s at *
    go_wp2
    go_loopw [7] (fun v7 wr => ∃ ls' vs', RQ V wr v7 ls' vs' ∧ (ls' = ls ∨ (s = ls.length ∧ ls' = ls ++ [[]]))) (fun v7 _ => s + 1 - slN v7)
    case atStart => exact ⟨ls, vs, HI.out, .inl rfl⟩
    case round =>
      clear HI
      obtain ⟨ls', vs', hi2, hor⟩ := hrel
      obtain ⟨va, vc, rfl, hvc2⟩ := own_cap hi2.ol.out
      obtain ⟨sc, sl⟩ := HSV.out wr hi2.below
      have HI2 := hid hi2
      by_cases hle : ls'.length ≤ s
      · have hls : ls' = ls ∧ s = ls.length := by
          rcases hor with h | ⟨h1, h2⟩
          · rw [h] at hle; exact ⟨h, by omega⟩
          · rw [h2, List.length_append] at hle; simp at hle; omega
        obtain ⟨rfl, rfl⟩ := hls
        have hle' : (ls'.length : Int) ≤ (ls'.length : Int) := Int.le_refl _
        clear hor hi2
        go_wp2_with (at_builtin; refine Hid.out ?_)
        refine hid ?_
        refine wpList_append_own_at _ rfl _ _ 44 rfl V.heap.size 43 i43 (.slice none 0 0) 1 24 Try.underlying44 HI43.out.1 HI43.out.2.1 HI43.out.2.2.1 HI43.out.2.2.2 rfl (by decide) _ ls'.length vs' rfl (HI2.out.on (bal (Below.refl _ _) _)).ol.out ⟨_, 0, none⟩ 1 1 [.slice none 0 0] rfl rfl (new_one _ _ (by simp) _ 43) (one_one _ rfl) (by unfold maxLen; omega) (by omega) (HI2.out.on (bal (Below.refl _ _) _)).below.size ?_
        intro v5 w5 hown5 hgrow5 _ _
        have hL5 := (HI2.out.on (bal (Below.refl _ _) _)).push hgrow5 hown5
        obtain ⟨a5, c5, rfl⟩ := own_shape hown5
        have HL5 := hid hL5
        clear hL5 hown5 hgrow5
        go_wp2
        go_roundw
        case rel => exact ⟨_, _, HL5.out, .inr ⟨trivial, rfl⟩⟩
        case measure => simp [slN]
      have hgt : ¬ ((ls'.length : Int) ≤ (s : Int)) := by omega
      have hs2 : s < ls'.length := by omega
      have hs3 : s < vs'.length := by rw [← hi2.ol.len]; exact hs2
      have hgd : ls'.getD s [] = ls'[s] := by rw [List.getD_eq_getElem?_getD, List.getElem?_eq_getElem hs2]; rfl
      have had : addL ls s k = ls'.set s (ls'[s] ++ [k]) := by
        rcases hor with h | ⟨h1, h2⟩
        · subst h
          unfold addL
          rw [if_neg (by omega), hgd]
        · subst h2
          subst h1
          unfold addL
          rw [if_pos rfl]
          simp
      have hl0k : ls'[s].length ≤ k := by
        have hm := List.getElem_mem hs2
        rcases hor with h | ⟨h1, h2⟩
        · exact HZ2.out _ (h ▸ hm)
        · have h3 : ls'[s] ∈ ls ++ [[]] := h2 ▸ hm
          rcases List.mem_append.1 h3 with h3 | h3
          · exact HZ2.out _ h3
          · rw [List.mem_singleton.1 h3]; exact Nat.zero_le _
      have hls5 : ls'.length ≤ k + 1 := by
        rcases hor with h | ⟨h1, h2⟩
        · rw [h]; omega
        · rw [h2, List.length_append]; simp; omega
      obtain ⟨g, cap, hva, hcc, hfz, hcell, _, hgl⟩ := own_at hi2.ol.out (by omega)
      cases hva
      obtain ⟨ra, rc, hrv⟩ := own_shape (hi2.ol.row s hs2 hs3)
      have HRV0 : Hid (vs'[s] = .slice ra ls'[s].length rc) := hrv
      have cL0 : wr.cell? ⟨g, s, none⟩ = some (.slice ra ls'[s].length rc) := by rw [hcell s hs3, hrv]
      have hrow := hi2.ol.row s hs2 hs3
      rw [hrv] at hrow
      obtain ⟨l0, hl0⟩ : ∃ l0, l0 = ls'[s] := ⟨_, rfl⟩
      rw [← hl0] at hrow cL0 had hl0k HRV0
      have HROW := hid hrow
      have HL0 : Hid (ls'[s] = l0) := hl0.symm
      have HRV := HRV0
      have HAD := hid had
      clear hor hi2 hrow hl0 HRV0 had hcell hrv hgd
      go_upto_region 11 with (fail)
      refine wp_region_noPanic ?_
      refine wp_region_held_drew (S := fun w' => Below V.heap.size V w' ∧ w'.cell? ⟨gS, k, none⟩ = some (.int .i64 (s : Nat)) ∧ gS < w'.heap.size) (by kernel_rfl) (by exact ⟨below_drew HI2.out.below, HSV.out _ (below_drew HI2.out.below)⟩) (fun hHeld => ?_)
      refine wpAnyH_take (i := 0) (oi := { dst := some 35, op := Op.move (Operand.tmp 7), type := 44, pos := "ref.go:250", after := #[], guard := none }) (v := ?_) rfl (by kernel_rfl) (by kernel_rfl) (by kernel_rfl) (fun _ _ _ h => h) (Or.inl ⟨by rfl, ?_⟩) (by assumption) ?_
      rotate_left
      (intro w0 hSw; (try dsimp only at hSw); go_simp; try (with_reducible rfl))
      (try simp only [Act.put, List.setIfInBounds_toArray, List.set_cons_zero, List.set_cons_succ])
      refine wpAnyH_take (i := 1) (oi := { dst := some 36, op := Op.move (Operand.tmp 6), type := 43, pos := "ref.go:250", after := #[], guard := none }) (v := ?_) rfl (by kernel_rfl) (by kernel_rfl) (by kernel_rfl) (fun _ _ _ h => h) (Or.inl ⟨by rfl, ?_⟩) (by assumption) ?_
      rotate_left
      (intro w0 hSw; (try dsimp only at hSw); go_simp; try (with_reducible rfl))
      (try simp only [Act.put, List.setIfInBounds_toArray, List.set_cons_zero, List.set_cons_succ])
      refine wpAnyH_take (i := 2) (oi := { dst := some 37, op := Op.move (Operand.tmp 8), type := 3, pos := "ref.go:250", after := #[], guard := none }) (v := ?_) rfl (by kernel_rfl) (by kernel_rfl) (by kernel_rfl) (fun _ _ _ h => h) (Or.inl ⟨by rfl, ?_⟩) (by assumption) ?_
      rotate_left
      (intro w0 hSw; (try dsimp only at hSw); go_simp; try (with_reducible rfl))
      (try simp only [Act.put, List.setIfInBounds_toArray, List.set_cons_zero, List.set_cons_succ])
      refine wpAnyH_take (i := 3) (oi := { dst := some 38, op := Op.indexAddr 43 (Operand.tmp 36) (Operand.tmp 37), type := 0, pos := "ref.go:250", after := #[{ on := 1, ground := Ground.data }, { on := 2, ground := Ground.data }], guard := none }) (v := ?_) rfl (by kernel_rfl) (by kernel_rfl) (by kernel_rfl) (fun _ _ _ h => h) (Or.inl ⟨by rfl, ?_⟩) (by assumption) ?_
      rotate_left
      (intro w0 hSw; (try dsimp only at hSw); go_simp; try (with_reducible rfl))
      (try simp only [Act.put, List.setIfInBounds_toArray, List.set_cons_zero, List.set_cons_succ])
      refine wpAnyH_take (i := 4) (oi := { dst := some 39, op := Op.load 3 (Operand.tmp 38), type := 3, pos := "ref.go:250", after := #[{ on := 3, ground := Ground.data }], guard := none }) (v := ?_) rfl (by kernel_rfl) (by kernel_rfl) (by kernel_rfl) (fun _ _ _ h => h) (Or.inl ⟨by rfl, ?_⟩) (by assumption) ?_
      rotate_left
      (intro w0 hSw; (try dsimp only at hSw); go_simp; try (with_reducible rfl))
      (try simp only [Act.put, List.setIfInBounds_toArray, List.set_cons_zero, List.set_cons_succ])
      refine wpAnyH_take (i := 5) (oi := { dst := some 40, op := Op.move (Operand.tmp 7), type := 44, pos := "ref.go:250", after := #[], guard := none }) (v := ?_) rfl (by kernel_rfl) (by kernel_rfl) (by kernel_rfl) (fun _ _ _ h => h) (Or.inl ⟨by rfl, ?_⟩) (by assumption) ?_
      rotate_left
      (intro w0 hSw; (try dsimp only at hSw); go_simp; try (with_reducible rfl))
      (try simp only [Act.put, List.setIfInBounds_toArray, List.set_cons_zero, List.set_cons_succ])
      refine wpAnyH_take (i := 6) (oi := { dst := some 41, op := Op.move (Operand.tmp 6), type := 43, pos := "ref.go:250", after := #[], guard := none }) (v := ?_) rfl (by kernel_rfl) (by kernel_rfl) (by kernel_rfl) (fun _ _ _ h => h) (Or.inl ⟨by rfl, ?_⟩) (by assumption) ?_
      rotate_left
      (intro w0 hSw; (try dsimp only at hSw); go_simp; try (with_reducible rfl))
      (try simp only [Act.put, List.setIfInBounds_toArray, List.set_cons_zero, List.set_cons_succ])
      refine wpAnyH_take (i := 7) (oi := { dst := some 42, op := Op.move (Operand.tmp 8), type := 3, pos := "ref.go:250", after := #[], guard := none }) (v := ?_) rfl (by kernel_rfl) (by kernel_rfl) (by kernel_rfl) (fun _ _ _ h => h) (Or.inl ⟨by rfl, ?_⟩) (by assumption) ?_
      rotate_left
      (intro w0 hSw; (try dsimp only at hSw); go_simp; try (with_reducible rfl))
      (try simp only [Act.put, List.setIfInBounds_toArray, List.set_cons_zero, List.set_cons_succ])
      refine wpAnyH_take (i := 8) (oi := { dst := some 43, op := Op.indexAddr 43 (Operand.tmp 41) (Operand.tmp 42), type := 0, pos := "ref.go:250", after := #[{ on := 6, ground := Ground.data }, { on := 7, ground := Ground.data }], guard := none }) (v := ?_) rfl (by kernel_rfl) (by kernel_rfl) (by kernel_rfl) (fun _ _ _ h => h) (Or.inl ⟨by rfl, ?_⟩) (by assumption) ?_
      rotate_left
      (intro w0 hSw; (try dsimp only at hSw); go_simp; try (with_reducible rfl))
      (try simp only [Act.put, List.setIfInBounds_toArray, List.set_cons_zero, List.set_cons_succ])
      refine wpAnyH_take (i := 9) (oi := { dst := some 44, op := Op.load 3 (Operand.tmp 43), type := 3, pos := "ref.go:250", after := #[{ on := 8, ground := Ground.data }], guard := none }) (v := ?_) rfl (by kernel_rfl) (by kernel_rfl) (by kernel_rfl) (fun _ _ _ h => h) (Or.inl ⟨by rfl, ?_⟩) (by assumption) ?_
      rotate_left
      (intro w0 hSw; (try dsimp only at hSw); go_simp; try (with_reducible rfl))
      (try simp only [Act.put, List.setIfInBounds_toArray, List.set_cons_zero, List.set_cons_succ])
      refine wpAnyH_take (i := 10) (oi := { dst := some 45, op := Op.indexAddr 44 (Operand.tmp 40) (Operand.tmp 44), type := 0, pos := "ref.go:250", after := #[{ on := 5, ground := Ground.data }, { on := 9, ground := Ground.data }], guard := none }) (v := ?_) rfl (by kernel_rfl) (by kernel_rfl) (by kernel_rfl) (fun _ _ _ h => h) (Or.inl ⟨by rfl, ?_⟩) (by assumption) ?_
      rotate_left
      (intro w0 hSw; (try dsimp only at hSw); go_simp; try (with_reducible rfl))
      (try simp only [Act.put, List.setIfInBounds_toArray, List.set_cons_zero, List.set_cons_succ])
      refine wpAnyH_take (i := 12) (oi := { dst := some 47, op := Op.move (Operand.tmp 8), type := 3, pos := "ref.go:250", after := #[], guard := none }) (v := ?_) rfl (by kernel_rfl) (by kernel_rfl) (by kernel_rfl) (fun _ _ _ h => h) (Or.inl ⟨by rfl, ?_⟩) (by assumption) ?_
      rotate_left
      (intro w0 hSw; (try dsimp only at hSw); go_simp; try (with_reducible rfl))
      (try simp only [Act.put, List.setIfInBounds_toArray, List.set_cons_zero, List.set_cons_succ])
      refine wpAnyH_ready (rs := [11, 13]) (by kernel_rfl) (by simp) (AllReadyH.cons (o := { dst := some 46, op := Op.load 43 (Operand.tmp 45), type := 43, pos := "ref.go:250", after := #[{ on := 10, ground := Ground.data }], guard := none }) rfl (fun K hK => ?_) (AllReadyH.cons (o := { dst := some 48, op := Op.buildSlice 43 1 #[(0, Operand.tmp 47)], type := 43, pos := "ref.go:250", after := #[{ on := 12, ground := Ground.data }], guard := none }) rfl (fun K hK => ?_) AllReadyH.nil))
      · go_simp
        refine hK.out _ _ (by exact hHeld) (fun hHeld => ?_)
        clear hK K
        (try simp only [Act.put, List.setIfInBounds_toArray, List.set_cons_zero, List.set_cons_succ])
        refine wpAnyH_ready (rs := [13]) (by kernel_rfl) (by simp) (AllReadyH.cons (o := { dst := some 48, op := Op.buildSlice 43 1 #[(0, Operand.tmp 47)], type := 43, pos := "ref.go:250", after := #[{ on := 12, ground := Ground.data }], guard := none }) rfl (fun K hK => ?_) AllReadyH.nil)
        go_simp
        refine hK.out _ _ (by exact ⟨bal hHeld.1 _, HSV.out _ (bal hHeld.1 _)⟩) (fun hHeld => ?_)
        clear hK K
        (try simp only [Act.put, List.setIfInBounds_toArray, List.set_cons_zero, List.set_cons_succ])
        refine wpAnyH_ready (rs := [14]) (by kernel_rfl) (by simp) (AllReadyH.cons (o := { dst := some 49, op := Op.call { callee := Callee.builtin Builtin.append, args := #[Operand.tmp 46, Operand.tmp 48], argTypes := #[43, 43] }, type := 43, pos := "ref.go:250", after := #[{ on := 11, ground := Ground.data }, { on := 13, ground := Ground.data }], guard := none }) rfl (fun K hK => ?_) AllReadyH.nil)
        (refine step_own rfl _ _ 43 rfl V.heap.size 3 i3 (.int .i64 0) 1 8 Try.underlying43 HI3.out.1 HI3.out.2.1 HI3.out.2.2.1 HI3.out.2.2.2 rfl (by decide) _ l0.length (il l0) rfl (own_below HROW.out (bal (below_drew (Below.refl _ _)) _)) ⟨_, 0, none⟩ 1 1 [.int .i64 (k : Nat)] rfl rfl (new_one _ _ (by simp) _ 3) (one_one _ rfl) (by unfold maxLen; omega) (by omega) hHeld.1.size ?_; intro v6 w6 hown6 hgrow6 hloc6; obtain ⟨a6, c6, rfl⟩ := own_shape hown6; obtain ⟨hL6, hB6, ⟨x6, y6⟩, z6, g6⟩ := (HI2.out.on (bal (below_drew (Below.refl _ _)) (.cells #[.int .i64 (k : Nat)] 3))).adds (k := s) (n := k) (rv := .slice ra l0.length rc) (l0 := l0) hs2 hs3 HRV.out HL0.out hgrow6 hown6 hloc6)
        refine hK.out _ _ (by exact ⟨hB6, HSV.out _ (hB6)⟩) (fun hHeld => ?_)
        clear hK K
        (try simp only [Act.put, List.setIfInBounds_toArray, List.set_cons_zero, List.set_cons_succ])
        refine wpAnyH_ready (rs := [15]) (by kernel_rfl) (by simp) (AllReadyH.cons (o := { dst := some 50, op := Op.indexAddr 44 (Operand.tmp 35) (Operand.tmp 39), type := 0, pos := "ref.go:250", after := #[{ on := 0, ground := Ground.data }, { on := 4, ground := Ground.data }, { on := 0, ground := Ground.phase }, { on := 1, ground := Ground.phase }, { on := 2, ground := Ground.phase }, { on := 3, ground := Ground.phase }, { on := 4, ground := Ground.phase }, { on := 5, ground := Ground.phase }, { on := 6, ground := Ground.phase }, { on := 7, ground := Ground.phase }, { on := 8, ground := Ground.phase }, { on := 9, ground := Ground.phase }, { on := 10, ground := Ground.phase }, { on := 11, ground := Ground.phase }, { on := 12, ground := Ground.phase }, { on := 13, ground := Ground.phase }, { on := 14, ground := Ground.phase }], guard := none }) rfl (fun K hK => ?_) AllReadyH.nil)
        go_simp
        refine hK.out _ _ (by exact hHeld) (fun hHeld => ?_)
        clear hK K
        (try simp only [Act.put, List.setIfInBounds_toArray, List.set_cons_zero, List.set_cons_succ])
        refine wpAnyH_ready (rs := [16]) (by kernel_rfl) (by simp) (AllReadyH.cons (o := { dst := none, op := Op.store 43 (Operand.tmp 50) (Operand.tmp 49), type := 0, pos := "ref.go:250", after := #[{ on := 15, ground := Ground.data }, { on := 14, ground := Ground.data }, { on := 14, ground := Ground.chain }, { on := 0, ground := Ground.phase }, { on := 1, ground := Ground.phase }, { on := 2, ground := Ground.phase }, { on := 3, ground := Ground.phase }, { on := 4, ground := Ground.phase }, { on := 5, ground := Ground.phase }, { on := 6, ground := Ground.phase }, { on := 7, ground := Ground.phase }, { on := 8, ground := Ground.phase }, { on := 9, ground := Ground.phase }, { on := 10, ground := Ground.phase }, { on := 11, ground := Ground.phase }, { on := 12, ground := Ground.phase }, { on := 13, ground := Ground.phase }, { on := 14, ground := Ground.phase }], guard := none }) rfl (fun K hK => ?_) AllReadyH.nil)
        go_simp
        refine hK.out _ _ (by exact ⟨hL6.below, HSV.out _ (hL6.below)⟩) (fun hHeld => ?_)
        clear hK K
        (try simp only [Act.put, List.setIfInBounds_toArray, List.set_cons_zero, List.set_cons_succ])
        refine wpAnyH_done (by kernel_rfl) ?_ _
        refine NoPanic.normal ?_
        rw [← HAD.out] at hL6
        have HL6 := hid hL6
        clear hL6 y6 z6 g6 hHeld hB6 hown6 hgrow6 hloc6
        go_wp2
        go_roundw
        case rel => exact ⟨k + 1, by omega, by go_num, _, by rw [HN.out]; exact HL6.out⟩
        case measure => simp [intOf]; omega
      · go_simp
        refine hK.out _ _ (by exact ⟨bal hHeld.1 _, HSV.out _ (bal hHeld.1 _)⟩) (fun hHeld => ?_)
        clear hK K
        (try simp only [Act.put, List.setIfInBounds_toArray, List.set_cons_zero, List.set_cons_succ])
        refine wpAnyH_ready (rs := [11]) (by kernel_rfl) (by simp) (AllReadyH.cons (o := { dst := some 46, op := Op.load 43 (Operand.tmp 45), type := 43, pos := "ref.go:250", after := #[{ on := 10, ground := Ground.data }], guard := none }) rfl (fun K hK => ?_) AllReadyH.nil)
        go_simp
        refine hK.out _ _ (by exact hHeld) (fun hHeld => ?_)
        clear hK K
        (try simp only [Act.put, List.setIfInBounds_toArray, List.set_cons_zero, List.set_cons_succ])
        refine wpAnyH_ready (rs := [14]) (by kernel_rfl) (by simp) (AllReadyH.cons (o := { dst := some 49, op := Op.call { callee := Callee.builtin Builtin.append, args := #[Operand.tmp 46, Operand.tmp 48], argTypes := #[43, 43] }, type := 43, pos := "ref.go:250", after := #[{ on := 11, ground := Ground.data }, { on := 13, ground := Ground.data }], guard := none }) rfl (fun K hK => ?_) AllReadyH.nil)
        (refine step_own rfl _ _ 43 rfl V.heap.size 3 i3 (.int .i64 0) 1 8 Try.underlying43 HI3.out.1 HI3.out.2.1 HI3.out.2.2.1 HI3.out.2.2.2 rfl (by decide) _ l0.length (il l0) rfl (own_below HROW.out (bal (below_drew (Below.refl _ _)) _)) ⟨_, 0, none⟩ 1 1 [.int .i64 (k : Nat)] rfl rfl (new_one _ _ (by simp) _ 3) (one_one _ rfl) (by unfold maxLen; omega) (by omega) hHeld.1.size ?_; intro v6 w6 hown6 hgrow6 hloc6; obtain ⟨a6, c6, rfl⟩ := own_shape hown6; obtain ⟨hL6, hB6, ⟨x6, y6⟩, z6, g6⟩ := (HI2.out.on (bal (below_drew (Below.refl _ _)) (.cells #[.int .i64 (k : Nat)] 3))).adds (k := s) (n := k) (rv := .slice ra l0.length rc) (l0 := l0) hs2 hs3 HRV.out HL0.out hgrow6 hown6 hloc6)
        refine hK.out _ _ (by exact ⟨hB6, HSV.out _ (hB6)⟩) (fun hHeld => ?_)
        clear hK K
        (try simp only [Act.put, List.setIfInBounds_toArray, List.set_cons_zero, List.set_cons_succ])
        refine wpAnyH_ready (rs := [15]) (by kernel_rfl) (by simp) (AllReadyH.cons (o := { dst := some 50, op := Op.indexAddr 44 (Operand.tmp 35) (Operand.tmp 39), type := 0, pos := "ref.go:250", after := #[{ on := 0, ground := Ground.data }, { on := 4, ground := Ground.data }, { on := 0, ground := Ground.phase }, { on := 1, ground := Ground.phase }, { on := 2, ground := Ground.phase }, { on := 3, ground := Ground.phase }, { on := 4, ground := Ground.phase }, { on := 5, ground := Ground.phase }, { on := 6, ground := Ground.phase }, { on := 7, ground := Ground.phase }, { on := 8, ground := Ground.phase }, { on := 9, ground := Ground.phase }, { on := 10, ground := Ground.phase }, { on := 11, ground := Ground.phase }, { on := 12, ground := Ground.phase }, { on := 13, ground := Ground.phase }, { on := 14, ground := Ground.phase }], guard := none }) rfl (fun K hK => ?_) AllReadyH.nil)
        go_simp
        refine hK.out _ _ (by exact hHeld) (fun hHeld => ?_)
        clear hK K
        (try simp only [Act.put, List.setIfInBounds_toArray, List.set_cons_zero, List.set_cons_succ])
        refine wpAnyH_ready (rs := [16]) (by kernel_rfl) (by simp) (AllReadyH.cons (o := { dst := none, op := Op.store 43 (Operand.tmp 50) (Operand.tmp 49), type := 0, pos := "ref.go:250", after := #[{ on := 15, ground := Ground.data }, { on := 14, ground := Ground.data }, { on := 14, ground := Ground.chain }, { on := 0, ground := Ground.phase }, { on := 1, ground := Ground.phase }, { on := 2, ground := Ground.phase }, { on := 3, ground := Ground.phase }, { on := 4, ground := Ground.phase }, { on := 5, ground := Ground.phase }, { on := 6, ground := Ground.phase }, { on := 7, ground := Ground.phase }, { on := 8, ground := Ground.phase }, { on := 9, ground := Ground.phase }, { on := 10, ground := Ground.phase }, { on := 11, ground := Ground.phase }, { on := 12, ground := Ground.phase }, { on := 13, ground := Ground.phase }, { on := 14, ground := Ground.phase }], guard := none }) rfl (fun K hK => ?_) AllReadyH.nil)
        go_simp
        refine hK.out _ _ (by exact ⟨hL6.below, HSV.out _ (hL6.below)⟩) (fun hHeld => ?_)
        clear hK K
        (try simp only [Act.put, List.setIfInBounds_toArray, List.set_cons_zero, List.set_cons_succ])
        refine wpAnyH_done (by kernel_rfl) ?_ _
        refine NoPanic.normal ?_
        rw [← HAD.out] at hL6
        have HL6 := hid hL6
        clear hL6 y6 z6 g6 hHeld hB6 hown6 hgrow6 hloc6
        go_wp2
        go_roundw
        case rel => exact ⟨k + 1, by omega, by go_num, _, by rw [HN.out]; exact HL6.out⟩
        case measure => simp [intOf]; omega

end Go.Proofs.Ytfaoegiignalkaa
