/-
  head of the reference, by kind.
-/
import Derived.Test.YtiepbfeliehjnaaDoorC6
namespace Go.Proofs.YtiepbfeliehjnaaDoor
open Go.RowKit Go.Sort

set_option maxHeartbeats 2000000 in
set_option maxRecDepth 100000 in
theorem rhead_if (nm : ByteArray) (ag : List Ar) (nu ro pl : Int) (av : Value) (w W : World) (hS : SA w av ag) (hB : Below w.heap.size w W) (hne : nm ≠ ⟨#[]⟩) (hnz : nm.size ≤ 1099511627776) (hnu : 0 ≤ nu ∧ nu ≤ 9007199254740991) (hl : ag.length ≤ 1099511627776) (hz : ∀ a ∈ ag, a.n.size ≤ 1099511627776) (hx : ∀ a ∈ ag, a.x ≤ 9007199254740991) (hT : (hdB ⟨wIf, nm, ag, nu, ro, pl⟩).length ≤ 1099511627776) :
    Calls Tryd.prog 49 #[.agg #[.string ⟨#[105, 102]⟩, .string nm, av, .int .i64 nu, .int .i64 ro, .int .i64 pl]] W fun e W' => e = .returned (.string ⟨(hdB ⟨wIf, nm, ag, nu, ro, pl⟩).toArray⟩) ∧ Below W.heap.size W W' := by
  obtain ⟨aa, ac, rfl, hac, hr⟩ := hS
  have HR : Hid (∀ k, k < ag.length → ∃ b o, aa = some ⟨b, o, none⟩ ∧ RA w b o ag) := hr
  have HZ : Hid (∀ a ∈ ag, a.n.size ≤ 1099511627776) := hz
  have HXX : Hid (∀ a ∈ ag, a.x ≤ 9007199254740991) := hx
  clear hr hz hx
  have q0 := ne_lit hne
  obtain ⟨P, hP⟩ : ∃ P : ByteArray, P = (⟨#[105, 102]⟩ ++ ⟨#[32]⟩ ++ nm ++ ⟨#[32]⟩ ++ numT nu : ByteArray) := ⟨_, rfl⟩
  have HP : Hid (hdB ⟨wIf, nm, ag, nu, ro, pl⟩ = P.data.toList ++ ag.flatMap shwB) := by
    show _ = _
    rw [hP]
    unfold hdB hd0 hd1
    rw [if_neg (show ¬ wIf = wUse by decide), if_neg hne]
    rw [if_pos (show numKd wIf = true by decide)]
    simp [ByteArray.data_append]
  rw [HP.out, List.length_append] at hT
  have hPz : P.data.toList.length = P.size := rfl
  obtain ⟨TX, hTX⟩ : ∃ T : ByteArray, T = ⟨(hdB ⟨wIf, nm, ag, nu, ro, pl⟩).toArray⟩ := ⟨_, rfl⟩
  have HTX : Hid (TX = ⟨(P.data.toList ++ ag.flatMap shwB).toArray⟩) := by show TX = _; rw [hTX, HP.out]
  rw [← hTX]
  clear hTX HP
  have HPQ : Hid (P = (⟨#[105, 102]⟩ ++ ⟨#[32]⟩ ++ nm ++ ⟨#[32]⟩ ++ numT nu : ByteArray)) := hP
  clear hP
  have DC := fun w => decimal_any nu w (by omega) (by omega)
  have hnl := num_len nu (by omega) (by omega)
  generalize numT nu = nt at *
  have z0 : ¬ 9223372036854775807 < (⟨#[105, 102]⟩ : ByteArray).size + (⟨#[32]⟩ : ByteArray).size := by (try simp only [ByteArray.size_append]); show ¬ 9223372036854775807 < 2 + 1; omega
  have y0 : ¬ 9223372036854775807 < 2 + 1 := by omega
  have z1 : ¬ 9223372036854775807 < (⟨#[105, 102]⟩ ++ ⟨#[32]⟩ : ByteArray).size + nm.size := by (try simp only [ByteArray.size_append]); show ¬ 9223372036854775807 < 2 + 1 + nm.size; omega
  have y1 : ¬ 9223372036854775807 < 2 + 1 + nm.size := by omega
  have z2 : ¬ 9223372036854775807 < (⟨#[105, 102]⟩ ++ ⟨#[32]⟩ ++ nm : ByteArray).size + (⟨#[32]⟩ : ByteArray).size := by (try simp only [ByteArray.size_append]); show ¬ 9223372036854775807 < 2 + 1 + nm.size + 1; omega
  have y2 : ¬ 9223372036854775807 < 2 + 1 + nm.size + 1 := by omega
  have z3 : ¬ 9223372036854775807 < (⟨#[105, 102]⟩ ++ ⟨#[32]⟩ ++ nm ++ ⟨#[32]⟩ : ByteArray).size + nt.size := by (try simp only [ByteArray.size_append]); show ¬ 9223372036854775807 < 2 + 1 + nm.size + 1 + nt.size; omega
  have y3 : ¬ 9223372036854775807 < 2 + 1 + nm.size + 1 + nt.size := by omega
  obtain ⟨X, hX⟩ : ∃ X, X = W.alloc (.cells #[.string ⟨#[105, 102]⟩, .string nm, .slice aa ag.length ac, .int .i64 nu, .int .i64 ro, .int .i64 pl] 45) := ⟨_, rfl⟩
  have HX : Hid (X = W.alloc (.cells #[.string ⟨#[105, 102]⟩, .string nm, .slice aa ag.length ac, .int .i64 nu, .int .i64 ro, .int .i64 pl] 45)) := hX
  have bX : BK X W.heap.size #[.string ⟨#[105, 102]⟩, .string nm, .slice aa ag.length ac, .int .i64 nu, .int .i64 ro, .int .i64 pl] 45 := by rw [hX]; exact bk_new _ _ _
  have hWX : Hid (Below W.heap.size W X) := by rw [hX]; exact bal (Below.refl _ _) _
  have hwX : Hid (Below w.heap.size w X) := btr hB hWX.out
  have FC : ∀ {wr : World}, Below X.heap.size X wr → wr.cell? ⟨W.heap.size, 0, none⟩ = some (.string ⟨#[105, 102]⟩) ∧ wr.cell? ⟨W.heap.size, 1, none⟩ = some (.string nm) ∧ wr.cell? ⟨W.heap.size, 2, none⟩ = some (.slice aa ag.length ac) ∧ wr.cell? ⟨W.heap.size, 3, none⟩ = some (.int .i64 nu) ∧ W.heap.size < wr.heap.size := fun h => by
    have b9 : BK _ W.heap.size _ _ := (h.block _ bX.lt).trans bX
    exact ⟨b9.cell 0, b9.cell 1, b9.cell 2, b9.cell 3, b9.lt⟩
  obtain ⟨x0, x1, x2, x3, x4⟩ := FC (Below.refl _ _)
  have hB0 : Hid (Below X.heap.size X X) := Below.refl _ _
  clear bX hX hB
  go_enter Tryd.func49, Tryd.ntmps49
  go_upto_region 1 with (fail)
  rw [← HX.out]
  go_upto_region 9 with (go_at_call 69; (with_reducible refine (DC _).mono ?_); rintro e w1 ⟨rfl, h1⟩; obtain ⟨y0_, y1_, y2_, y3_, y4_⟩ := FC h1)
  have hW1 : Hid _ := h1
  try rw [← HPQ.out]
  go_loopw [3, 4] (fun v3 v4 wr => ∃ (k : Nat) (S : ByteArray), k ≤ ag.length ∧ v3 = .string S ∧ v4 = .int .i64 k ∧ S.size ≤ 1099511627776 ∧ Hid (S = ⟨(P.data.toList ++ (ag.take k).flatMap shwB).toArray⟩ ∧ Below X.heap.size X wr)) (fun _ v _ => ag.length - (intOf v).toNat)
  case atStart => exact ⟨0, P, Nat.zero_le _, rfl, rfl, by omega, by rw [List.take_zero]; simp, hW1.out⟩
  case round =>
    clear x0 x1 x2 x3 x4
    obtain ⟨k, S, hk, rfl, rfl, hSz, hI⟩ := hrel
    obtain ⟨x0, x1, x2, x3, x4⟩ := FC hI.out.2
    by_cases hlt : k < ag.length
    case neg =>
      obtain rfl : k = ag.length := by omega
      have hE : Hid (S = TX) := by show S = TX; rw [hI.out.1, List.take_length, HTX.out]
      go_wp2
      go_ret
      exact ⟨by rw [← hE.out]; rfl, btr hWX.out hI.out.2⟩
    case pos =>
    obtain ⟨rb, rO, rfl, ra0⟩ := HR.out k hlt
    have ra := (ra0.below hwX.out).below hI.out.2
    have l0 := ra.c0 k hlt
    have l1 := ra.c1 k hlt
    have l2 := ra.lt
    have hmem := List.getElem_mem hlt
    have SW := fun w => shown_any ag[k].n ag[k].x w (HZ.out _ hmem) (HXX.out _ hmem)
    have HTK : Hid ((ag.take (k + 1)).flatMap shwB = (ag.take k).flatMap shwB ++ shwB ag[k]) := by show _ = _; rw [List.take_succ_eq_append_getElem hlt, List.flatMap_append]; simp
    have hLL : P.size + ((ag.take k).flatMap shwB).length + (shwB ag[k]).length ≤ 1099511627776 := by
      have e : ag.flatMap shwB = (ag.take (k + 1)).flatMap shwB ++ (ag.drop (k + 1)).flatMap shwB := by rw [← List.flatMap_append, List.take_append_drop]
      have := congrArg List.length e
      rw [HTK.out, List.length_append, List.length_append] at this
      omega
    have hSL : S.size = P.size + ((ag.take k).flatMap shwB).length := by rw [hI.out.1]; show (P.data.toList ++ _).toArray.size = _; rw [List.size_toArray, List.length_append, hPz]
    have HSB : Hid ((⟨(shwB ag[k]).toArray⟩ : ByteArray).size = (shwB ag[k]).length) := by show (shwB ag[k]).toArray.size = _; rw [List.size_toArray]
    obtain ⟨B, hB9⟩ : ∃ B : ByteArray, B = ⟨(shwB ag[k]).toArray⟩ := ⟨_, rfl⟩
    have HB9 : Hid (B = ⟨(shwB ag[k]).toArray⟩) := hB9
    have hBz : S.size + B.size ≤ 1099511627776 := by rw [hB9, HSB.out]; omega
    have NXT : Hid ((S ++ B : ByteArray) = ⟨(P.data.toList ++ (ag.take (k + 1)).flatMap shwB).toArray⟩) := by
      show _ = _
      rw [HTK.out, hI.out.1, HB9.out, bytes_app, List.append_assoc]
    have hkz : ¬ 9223372036854775807 < S.size + B.size := by omega
    have SW2 : ∀ w, Calls Tryd.prog 70 #[.agg #[.string ag[k].n, .int .i64 ag[k].x]] w fun e w' => e = .returned (.string B) ∧ Below w.heap.size w w' := fun w => by rw [hB9]; exact SW w
    clear ra ra0 hmem SW hLL hSL hB9 HSB HB9
    generalize ag[k].n = an at *
    generalize ag[k].x = ax at *
    go_wp2_with (go_at_call 70; (with_reducible refine (SW2 _).mono ?_); rintro e w5 ⟨rfl, h5⟩)
    go_roundw
    case rel => exact ⟨k + 1, _, by omega, rfl, by go_num, by rw [ByteArray.size_append]; exact hBz, NXT.out, btr hI.out.2 h5⟩
    case measure => simp [intOf]; omega
set_option maxHeartbeats 2000000 in
set_option maxRecDepth 100000 in
theorem rhead_measure (ag : List Ar) (nu ro pl : Int) (av : Value) (w W : World) (hS : SA w av ag) (hB : Below w.heap.size w W) (hl : ag.length ≤ 1099511627776) (hz : ∀ a ∈ ag, a.n.size ≤ 1099511627776) (hx : ∀ a ∈ ag, a.x ≤ 9007199254740991) (hT : (hdB ⟨wMeasure, ⟨#[]⟩, ag, nu, ro, pl⟩).length ≤ 1099511627776) :
    Calls Tryd.prog 49 #[.agg #[.string ⟨#[109, 101, 97, 115, 117, 114, 101]⟩, .string ⟨#[]⟩, av, .int .i64 nu, .int .i64 ro, .int .i64 pl]] W fun e W' => e = .returned (.string ⟨(hdB ⟨wMeasure, ⟨#[]⟩, ag, nu, ro, pl⟩).toArray⟩) ∧ Below W.heap.size W W' := by
  obtain ⟨aa, ac, rfl, hac, hr⟩ := hS
  have HR : Hid (∀ k, k < ag.length → ∃ b o, aa = some ⟨b, o, none⟩ ∧ RA w b o ag) := hr
  have HZ : Hid (∀ a ∈ ag, a.n.size ≤ 1099511627776) := hz
  have HXX : Hid (∀ a ∈ ag, a.x ≤ 9007199254740991) := hx
  clear hr hz hx
  obtain ⟨P, hP⟩ : ∃ P : ByteArray, P = (⟨#[109, 101, 97, 115, 117, 114, 101]⟩ : ByteArray) := ⟨_, rfl⟩
  have HP : Hid (hdB ⟨wMeasure, ⟨#[]⟩, ag, nu, ro, pl⟩ = P.data.toList ++ ag.flatMap shwB) := by
    show _ = _
    rw [hP]
    unfold hdB hd0 hd1
    rw [if_neg (show ¬ wMeasure = wUse by decide), if_pos rfl]
    rw [if_neg (show ¬ numKd wMeasure = true by decide)]
    simp
  rw [HP.out, List.length_append] at hT
  have hPz : P.data.toList.length = P.size := rfl
  obtain ⟨TX, hTX⟩ : ∃ T : ByteArray, T = ⟨(hdB ⟨wMeasure, ⟨#[]⟩, ag, nu, ro, pl⟩).toArray⟩ := ⟨_, rfl⟩
  have HTX : Hid (TX = ⟨(P.data.toList ++ ag.flatMap shwB).toArray⟩) := by show TX = _; rw [hTX, HP.out]
  rw [← hTX]
  clear hTX HP
  have HPQ : Hid (P = (⟨#[109, 101, 97, 115, 117, 114, 101]⟩ : ByteArray)) := hP
  clear hP
  obtain ⟨X, hX⟩ : ∃ X, X = W.alloc (.cells #[.string ⟨#[109, 101, 97, 115, 117, 114, 101]⟩, .string ⟨#[]⟩, .slice aa ag.length ac, .int .i64 nu, .int .i64 ro, .int .i64 pl] 45) := ⟨_, rfl⟩
  have HX : Hid (X = W.alloc (.cells #[.string ⟨#[109, 101, 97, 115, 117, 114, 101]⟩, .string ⟨#[]⟩, .slice aa ag.length ac, .int .i64 nu, .int .i64 ro, .int .i64 pl] 45)) := hX
  have bX : BK X W.heap.size #[.string ⟨#[109, 101, 97, 115, 117, 114, 101]⟩, .string ⟨#[]⟩, .slice aa ag.length ac, .int .i64 nu, .int .i64 ro, .int .i64 pl] 45 := by rw [hX]; exact bk_new _ _ _
  have hWX : Hid (Below W.heap.size W X) := by rw [hX]; exact bal (Below.refl _ _) _
  have hwX : Hid (Below w.heap.size w X) := btr hB hWX.out
  have FC : ∀ {wr : World}, Below X.heap.size X wr → wr.cell? ⟨W.heap.size, 0, none⟩ = some (.string ⟨#[109, 101, 97, 115, 117, 114, 101]⟩) ∧ wr.cell? ⟨W.heap.size, 1, none⟩ = some (.string ⟨#[]⟩) ∧ wr.cell? ⟨W.heap.size, 2, none⟩ = some (.slice aa ag.length ac) ∧ wr.cell? ⟨W.heap.size, 3, none⟩ = some (.int .i64 nu) ∧ W.heap.size < wr.heap.size := fun h => by
    have b9 : BK _ W.heap.size _ _ := (h.block _ bX.lt).trans bX
    exact ⟨b9.cell 0, b9.cell 1, b9.cell 2, b9.cell 3, b9.lt⟩
  obtain ⟨x0, x1, x2, x3, x4⟩ := FC (Below.refl _ _)
  have hB0 : Hid (Below X.heap.size X X) := Below.refl _ _
  clear bX hX hB
  go_enter Tryd.func49, Tryd.ntmps49
  go_upto_region 1 with (fail)
  rw [← HX.out]
  go_upto_region 9 with (fail)
  have hW1 : Hid _ := hB0.out
  try rw [← HPQ.out]
  go_loopw [3, 4] (fun v3 v4 wr => ∃ (k : Nat) (S : ByteArray), k ≤ ag.length ∧ v3 = .string S ∧ v4 = .int .i64 k ∧ S.size ≤ 1099511627776 ∧ Hid (S = ⟨(P.data.toList ++ (ag.take k).flatMap shwB).toArray⟩ ∧ Below X.heap.size X wr)) (fun _ v _ => ag.length - (intOf v).toNat)
  case atStart => exact ⟨0, P, Nat.zero_le _, rfl, rfl, by omega, by rw [List.take_zero]; simp, hW1.out⟩
  case round =>
    clear x0 x1 x2 x3 x4
    obtain ⟨k, S, hk, rfl, rfl, hSz, hI⟩ := hrel
    obtain ⟨x0, x1, x2, x3, x4⟩ := FC hI.out.2
    by_cases hlt : k < ag.length
    case neg =>
      obtain rfl : k = ag.length := by omega
      have hE : Hid (S = TX) := by show S = TX; rw [hI.out.1, List.take_length, HTX.out]
      go_wp2
      go_ret
      exact ⟨by rw [← hE.out]; rfl, btr hWX.out hI.out.2⟩
    case pos =>
    obtain ⟨rb, rO, rfl, ra0⟩ := HR.out k hlt
    have ra := (ra0.below hwX.out).below hI.out.2
    have l0 := ra.c0 k hlt
    have l1 := ra.c1 k hlt
    have l2 := ra.lt
    have hmem := List.getElem_mem hlt
    have SW := fun w => shown_any ag[k].n ag[k].x w (HZ.out _ hmem) (HXX.out _ hmem)
    have HTK : Hid ((ag.take (k + 1)).flatMap shwB = (ag.take k).flatMap shwB ++ shwB ag[k]) := by show _ = _; rw [List.take_succ_eq_append_getElem hlt, List.flatMap_append]; simp
    have hLL : P.size + ((ag.take k).flatMap shwB).length + (shwB ag[k]).length ≤ 1099511627776 := by
      have e : ag.flatMap shwB = (ag.take (k + 1)).flatMap shwB ++ (ag.drop (k + 1)).flatMap shwB := by rw [← List.flatMap_append, List.take_append_drop]
      have := congrArg List.length e
      rw [HTK.out, List.length_append, List.length_append] at this
      omega
    have hSL : S.size = P.size + ((ag.take k).flatMap shwB).length := by rw [hI.out.1]; show (P.data.toList ++ _).toArray.size = _; rw [List.size_toArray, List.length_append, hPz]
    have HSB : Hid ((⟨(shwB ag[k]).toArray⟩ : ByteArray).size = (shwB ag[k]).length) := by show (shwB ag[k]).toArray.size = _; rw [List.size_toArray]
    obtain ⟨B, hB9⟩ : ∃ B : ByteArray, B = ⟨(shwB ag[k]).toArray⟩ := ⟨_, rfl⟩
    have HB9 : Hid (B = ⟨(shwB ag[k]).toArray⟩) := hB9
    have hBz : S.size + B.size ≤ 1099511627776 := by rw [hB9, HSB.out]; omega
    have NXT : Hid ((S ++ B : ByteArray) = ⟨(P.data.toList ++ (ag.take (k + 1)).flatMap shwB).toArray⟩) := by
      show _ = _
      rw [HTK.out, hI.out.1, HB9.out, bytes_app, List.append_assoc]
    have hkz : ¬ 9223372036854775807 < S.size + B.size := by omega
    have SW2 : ∀ w, Calls Tryd.prog 70 #[.agg #[.string ag[k].n, .int .i64 ag[k].x]] w fun e w' => e = .returned (.string B) ∧ Below w.heap.size w w' := fun w => by rw [hB9]; exact SW w
    clear ra ra0 hmem SW hLL hSL hB9 HSB HB9
    generalize ag[k].n = an at *
    generalize ag[k].x = ax at *
    go_wp2_with (go_at_call 70; (with_reducible refine (SW2 _).mono ?_); rintro e w5 ⟨rfl, h5⟩)
    go_roundw
    case rel => exact ⟨k + 1, _, by omega, rfl, by go_num, by rw [ByteArray.size_append]; exact hBz, NXT.out, btr hI.out.2 h5⟩
    case measure => simp [intOf]; omega
set_option maxHeartbeats 2000000 in
set_option maxRecDepth 100000 in
theorem rhead_reset (ag : List Ar) (nu ro pl : Int) (av : Value) (w W : World) (hS : SA w av ag) (hB : Below w.heap.size w W) (hl : ag.length ≤ 1099511627776) (hz : ∀ a ∈ ag, a.n.size ≤ 1099511627776) (hx : ∀ a ∈ ag, a.x ≤ 9007199254740991) (hT : (hdB ⟨wReset, ⟨#[]⟩, ag, nu, ro, pl⟩).length ≤ 1099511627776) :
    Calls Tryd.prog 49 #[.agg #[.string ⟨#[114, 101, 115, 101, 116]⟩, .string ⟨#[]⟩, av, .int .i64 nu, .int .i64 ro, .int .i64 pl]] W fun e W' => e = .returned (.string ⟨(hdB ⟨wReset, ⟨#[]⟩, ag, nu, ro, pl⟩).toArray⟩) ∧ Below W.heap.size W W' := by
  obtain ⟨aa, ac, rfl, hac, hr⟩ := hS
  have HR : Hid (∀ k, k < ag.length → ∃ b o, aa = some ⟨b, o, none⟩ ∧ RA w b o ag) := hr
  have HZ : Hid (∀ a ∈ ag, a.n.size ≤ 1099511627776) := hz
  have HXX : Hid (∀ a ∈ ag, a.x ≤ 9007199254740991) := hx
  clear hr hz hx
  obtain ⟨P, hP⟩ : ∃ P : ByteArray, P = (⟨#[114, 101, 115, 101, 116]⟩ : ByteArray) := ⟨_, rfl⟩
  have HP : Hid (hdB ⟨wReset, ⟨#[]⟩, ag, nu, ro, pl⟩ = P.data.toList ++ ag.flatMap shwB) := by
    show _ = _
    rw [hP]
    unfold hdB hd0 hd1
    rw [if_neg (show ¬ wReset = wUse by decide), if_pos rfl]
    rw [if_neg (show ¬ numKd wReset = true by decide)]
    simp
  rw [HP.out, List.length_append] at hT
  have hPz : P.data.toList.length = P.size := rfl
  obtain ⟨TX, hTX⟩ : ∃ T : ByteArray, T = ⟨(hdB ⟨wReset, ⟨#[]⟩, ag, nu, ro, pl⟩).toArray⟩ := ⟨_, rfl⟩
  have HTX : Hid (TX = ⟨(P.data.toList ++ ag.flatMap shwB).toArray⟩) := by show TX = _; rw [hTX, HP.out]
  rw [← hTX]
  clear hTX HP
  have HPQ : Hid (P = (⟨#[114, 101, 115, 101, 116]⟩ : ByteArray)) := hP
  clear hP
  obtain ⟨X, hX⟩ : ∃ X, X = W.alloc (.cells #[.string ⟨#[114, 101, 115, 101, 116]⟩, .string ⟨#[]⟩, .slice aa ag.length ac, .int .i64 nu, .int .i64 ro, .int .i64 pl] 45) := ⟨_, rfl⟩
  have HX : Hid (X = W.alloc (.cells #[.string ⟨#[114, 101, 115, 101, 116]⟩, .string ⟨#[]⟩, .slice aa ag.length ac, .int .i64 nu, .int .i64 ro, .int .i64 pl] 45)) := hX
  have bX : BK X W.heap.size #[.string ⟨#[114, 101, 115, 101, 116]⟩, .string ⟨#[]⟩, .slice aa ag.length ac, .int .i64 nu, .int .i64 ro, .int .i64 pl] 45 := by rw [hX]; exact bk_new _ _ _
  have hWX : Hid (Below W.heap.size W X) := by rw [hX]; exact bal (Below.refl _ _) _
  have hwX : Hid (Below w.heap.size w X) := btr hB hWX.out
  have FC : ∀ {wr : World}, Below X.heap.size X wr → wr.cell? ⟨W.heap.size, 0, none⟩ = some (.string ⟨#[114, 101, 115, 101, 116]⟩) ∧ wr.cell? ⟨W.heap.size, 1, none⟩ = some (.string ⟨#[]⟩) ∧ wr.cell? ⟨W.heap.size, 2, none⟩ = some (.slice aa ag.length ac) ∧ wr.cell? ⟨W.heap.size, 3, none⟩ = some (.int .i64 nu) ∧ W.heap.size < wr.heap.size := fun h => by
    have b9 : BK _ W.heap.size _ _ := (h.block _ bX.lt).trans bX
    exact ⟨b9.cell 0, b9.cell 1, b9.cell 2, b9.cell 3, b9.lt⟩
  obtain ⟨x0, x1, x2, x3, x4⟩ := FC (Below.refl _ _)
  have hB0 : Hid (Below X.heap.size X X) := Below.refl _ _
  clear bX hX hB
  go_enter Tryd.func49, Tryd.ntmps49
  go_upto_region 1 with (fail)
  rw [← HX.out]
  go_upto_region 9 with (fail)
  have hW1 : Hid _ := hB0.out
  try rw [← HPQ.out]
  go_loopw [3, 4] (fun v3 v4 wr => ∃ (k : Nat) (S : ByteArray), k ≤ ag.length ∧ v3 = .string S ∧ v4 = .int .i64 k ∧ S.size ≤ 1099511627776 ∧ Hid (S = ⟨(P.data.toList ++ (ag.take k).flatMap shwB).toArray⟩ ∧ Below X.heap.size X wr)) (fun _ v _ => ag.length - (intOf v).toNat)
  case atStart => exact ⟨0, P, Nat.zero_le _, rfl, rfl, by omega, by rw [List.take_zero]; simp, hW1.out⟩
  case round =>
    clear x0 x1 x2 x3 x4
    obtain ⟨k, S, hk, rfl, rfl, hSz, hI⟩ := hrel
    obtain ⟨x0, x1, x2, x3, x4⟩ := FC hI.out.2
    by_cases hlt : k < ag.length
    case neg =>
      obtain rfl : k = ag.length := by omega
      have hE : Hid (S = TX) := by show S = TX; rw [hI.out.1, List.take_length, HTX.out]
      go_wp2
      go_ret
      exact ⟨by rw [← hE.out]; rfl, btr hWX.out hI.out.2⟩
    case pos =>
    obtain ⟨rb, rO, rfl, ra0⟩ := HR.out k hlt
    have ra := (ra0.below hwX.out).below hI.out.2
    have l0 := ra.c0 k hlt
    have l1 := ra.c1 k hlt
    have l2 := ra.lt
    have hmem := List.getElem_mem hlt
    have SW := fun w => shown_any ag[k].n ag[k].x w (HZ.out _ hmem) (HXX.out _ hmem)
    have HTK : Hid ((ag.take (k + 1)).flatMap shwB = (ag.take k).flatMap shwB ++ shwB ag[k]) := by show _ = _; rw [List.take_succ_eq_append_getElem hlt, List.flatMap_append]; simp
    have hLL : P.size + ((ag.take k).flatMap shwB).length + (shwB ag[k]).length ≤ 1099511627776 := by
      have e : ag.flatMap shwB = (ag.take (k + 1)).flatMap shwB ++ (ag.drop (k + 1)).flatMap shwB := by rw [← List.flatMap_append, List.take_append_drop]
      have := congrArg List.length e
      rw [HTK.out, List.length_append, List.length_append] at this
      omega
    have hSL : S.size = P.size + ((ag.take k).flatMap shwB).length := by rw [hI.out.1]; show (P.data.toList ++ _).toArray.size = _; rw [List.size_toArray, List.length_append, hPz]
    have HSB : Hid ((⟨(shwB ag[k]).toArray⟩ : ByteArray).size = (shwB ag[k]).length) := by show (shwB ag[k]).toArray.size = _; rw [List.size_toArray]
    obtain ⟨B, hB9⟩ : ∃ B : ByteArray, B = ⟨(shwB ag[k]).toArray⟩ := ⟨_, rfl⟩
    have HB9 : Hid (B = ⟨(shwB ag[k]).toArray⟩) := hB9
    have hBz : S.size + B.size ≤ 1099511627776 := by rw [hB9, HSB.out]; omega
    have NXT : Hid ((S ++ B : ByteArray) = ⟨(P.data.toList ++ (ag.take (k + 1)).flatMap shwB).toArray⟩) := by
      show _ = _
      rw [HTK.out, hI.out.1, HB9.out, bytes_app, List.append_assoc]
    have hkz : ¬ 9223372036854775807 < S.size + B.size := by omega
    have SW2 : ∀ w, Calls Tryd.prog 70 #[.agg #[.string ag[k].n, .int .i64 ag[k].x]] w fun e w' => e = .returned (.string B) ∧ Below w.heap.size w w' := fun w => by rw [hB9]; exact SW w
    clear ra ra0 hmem SW hLL hSL hB9 HSB HB9
    generalize ag[k].n = an at *
    generalize ag[k].x = ax at *
    go_wp2_with (go_at_call 70; (with_reducible refine (SW2 _).mono ?_); rintro e w5 ⟨rfl, h5⟩)
    go_roundw
    case rel => exact ⟨k + 1, _, by omega, rfl, by go_num, by rw [ByteArray.size_append]; exact hBz, NXT.out, btr hI.out.2 h5⟩
    case measure => simp [intOf]; omega
set_option maxHeartbeats 2000000 in
set_option maxRecDepth 100000 in
theorem rhead_use (nm : ByteArray) (ag : List Ar) (nu ro pl : Int) (av : Value) (w W : World) (hS : SA w av ag) (hB : Below w.heap.size w W) (hne : nm ≠ ⟨#[]⟩) (_hnz : nm.size ≤ 1099511627776) (hl : ag.length ≤ 1099511627776) (hz : ∀ a ∈ ag, a.n.size ≤ 1099511627776) (hx : ∀ a ∈ ag, a.x ≤ 9007199254740991) (hT : (hdB ⟨wUse, nm, ag, nu, ro, pl⟩).length ≤ 1099511627776) :
    Calls Tryd.prog 49 #[.agg #[.string ⟨#[117, 115, 101]⟩, .string nm, av, .int .i64 nu, .int .i64 ro, .int .i64 pl]] W fun e W' => e = .returned (.string ⟨(hdB ⟨wUse, nm, ag, nu, ro, pl⟩).toArray⟩) ∧ Below W.heap.size W W' := by
  obtain ⟨aa, ac, rfl, hac, hr⟩ := hS
  have HR : Hid (∀ k, k < ag.length → ∃ b o, aa = some ⟨b, o, none⟩ ∧ RA w b o ag) := hr
  have HZ : Hid (∀ a ∈ ag, a.n.size ≤ 1099511627776) := hz
  have HXX : Hid (∀ a ∈ ag, a.x ≤ 9007199254740991) := hx
  clear hr hz hx
  have q0 := ne_lit hne
  obtain ⟨P, hP⟩ : ∃ P : ByteArray, P = (nm : ByteArray) := ⟨_, rfl⟩
  have HP : Hid (hdB ⟨wUse, nm, ag, nu, ro, pl⟩ = P.data.toList ++ ag.flatMap shwB) := by
    show _ = _
    rw [hP]
    unfold hdB hd0 hd1
    rw [if_pos rfl]
    rw [if_neg (show ¬ numKd wUse = true by decide)]
    simp
  rw [HP.out, List.length_append] at hT
  have hPz : P.data.toList.length = P.size := rfl
  obtain ⟨TX, hTX⟩ : ∃ T : ByteArray, T = ⟨(hdB ⟨wUse, nm, ag, nu, ro, pl⟩).toArray⟩ := ⟨_, rfl⟩
  have HTX : Hid (TX = ⟨(P.data.toList ++ ag.flatMap shwB).toArray⟩) := by show TX = _; rw [hTX, HP.out]
  rw [← hTX]
  clear hTX HP
  have HPQ : Hid (P = (nm : ByteArray)) := hP
  clear hP
  obtain ⟨X, hX⟩ : ∃ X, X = W.alloc (.cells #[.string ⟨#[117, 115, 101]⟩, .string nm, .slice aa ag.length ac, .int .i64 nu, .int .i64 ro, .int .i64 pl] 45) := ⟨_, rfl⟩
  have HX : Hid (X = W.alloc (.cells #[.string ⟨#[117, 115, 101]⟩, .string nm, .slice aa ag.length ac, .int .i64 nu, .int .i64 ro, .int .i64 pl] 45)) := hX
  have bX : BK X W.heap.size #[.string ⟨#[117, 115, 101]⟩, .string nm, .slice aa ag.length ac, .int .i64 nu, .int .i64 ro, .int .i64 pl] 45 := by rw [hX]; exact bk_new _ _ _
  have hWX : Hid (Below W.heap.size W X) := by rw [hX]; exact bal (Below.refl _ _) _
  have hwX : Hid (Below w.heap.size w X) := btr hB hWX.out
  have FC : ∀ {wr : World}, Below X.heap.size X wr → wr.cell? ⟨W.heap.size, 0, none⟩ = some (.string ⟨#[117, 115, 101]⟩) ∧ wr.cell? ⟨W.heap.size, 1, none⟩ = some (.string nm) ∧ wr.cell? ⟨W.heap.size, 2, none⟩ = some (.slice aa ag.length ac) ∧ wr.cell? ⟨W.heap.size, 3, none⟩ = some (.int .i64 nu) ∧ W.heap.size < wr.heap.size := fun h => by
    have b9 : BK _ W.heap.size _ _ := (h.block _ bX.lt).trans bX
    exact ⟨b9.cell 0, b9.cell 1, b9.cell 2, b9.cell 3, b9.lt⟩
  obtain ⟨x0, x1, x2, x3, x4⟩ := FC (Below.refl _ _)
  have hB0 : Hid (Below X.heap.size X X) := Below.refl _ _
  clear bX hX hB
  go_enter Tryd.func49, Tryd.ntmps49
  go_upto_region 1 with (fail)
  rw [← HX.out]
  go_upto_region 9 with (fail)
  have hW1 : Hid _ := hB0.out
  try rw [← HPQ.out]
  go_loopw [3, 4] (fun v3 v4 wr => ∃ (k : Nat) (S : ByteArray), k ≤ ag.length ∧ v3 = .string S ∧ v4 = .int .i64 k ∧ S.size ≤ 1099511627776 ∧ Hid (S = ⟨(P.data.toList ++ (ag.take k).flatMap shwB).toArray⟩ ∧ Below X.heap.size X wr)) (fun _ v _ => ag.length - (intOf v).toNat)
  case atStart => exact ⟨0, P, Nat.zero_le _, rfl, rfl, by omega, by rw [List.take_zero]; simp, hW1.out⟩
  case round =>
    clear x0 x1 x2 x3 x4
    obtain ⟨k, S, hk, rfl, rfl, hSz, hI⟩ := hrel
    obtain ⟨x0, x1, x2, x3, x4⟩ := FC hI.out.2
    by_cases hlt : k < ag.length
    case neg =>
      obtain rfl : k = ag.length := by omega
      have hE : Hid (S = TX) := by show S = TX; rw [hI.out.1, List.take_length, HTX.out]
      go_wp2
      go_ret
      exact ⟨by rw [← hE.out]; rfl, btr hWX.out hI.out.2⟩
    case pos =>
    obtain ⟨rb, rO, rfl, ra0⟩ := HR.out k hlt
    have ra := (ra0.below hwX.out).below hI.out.2
    have l0 := ra.c0 k hlt
    have l1 := ra.c1 k hlt
    have l2 := ra.lt
    have hmem := List.getElem_mem hlt
    have SW := fun w => shown_any ag[k].n ag[k].x w (HZ.out _ hmem) (HXX.out _ hmem)
    have HTK : Hid ((ag.take (k + 1)).flatMap shwB = (ag.take k).flatMap shwB ++ shwB ag[k]) := by show _ = _; rw [List.take_succ_eq_append_getElem hlt, List.flatMap_append]; simp
    have hLL : P.size + ((ag.take k).flatMap shwB).length + (shwB ag[k]).length ≤ 1099511627776 := by
      have e : ag.flatMap shwB = (ag.take (k + 1)).flatMap shwB ++ (ag.drop (k + 1)).flatMap shwB := by rw [← List.flatMap_append, List.take_append_drop]
      have := congrArg List.length e
      rw [HTK.out, List.length_append, List.length_append] at this
      omega
    have hSL : S.size = P.size + ((ag.take k).flatMap shwB).length := by rw [hI.out.1]; show (P.data.toList ++ _).toArray.size = _; rw [List.size_toArray, List.length_append, hPz]
    have HSB : Hid ((⟨(shwB ag[k]).toArray⟩ : ByteArray).size = (shwB ag[k]).length) := by show (shwB ag[k]).toArray.size = _; rw [List.size_toArray]
    obtain ⟨B, hB9⟩ : ∃ B : ByteArray, B = ⟨(shwB ag[k]).toArray⟩ := ⟨_, rfl⟩
    have HB9 : Hid (B = ⟨(shwB ag[k]).toArray⟩) := hB9
    have hBz : S.size + B.size ≤ 1099511627776 := by rw [hB9, HSB.out]; omega
    have NXT : Hid ((S ++ B : ByteArray) = ⟨(P.data.toList ++ (ag.take (k + 1)).flatMap shwB).toArray⟩) := by
      show _ = _
      rw [HTK.out, hI.out.1, HB9.out, bytes_app, List.append_assoc]
    have hkz : ¬ 9223372036854775807 < S.size + B.size := by omega
    have SW2 : ∀ w, Calls Tryd.prog 70 #[.agg #[.string ag[k].n, .int .i64 ag[k].x]] w fun e w' => e = .returned (.string B) ∧ Below w.heap.size w w' := fun w => by rw [hB9]; exact SW w
    clear ra ra0 hmem SW hLL hSL hB9 HSB HB9
    generalize ag[k].n = an at *
    generalize ag[k].x = ax at *
    go_wp2_with (go_at_call 70; (with_reducible refine (SW2 _).mono ?_); rintro e w5 ⟨rfl, h5⟩)
    go_roundw
    case rel => exact ⟨k + 1, _, by omega, rfl, by go_num, by rw [ByteArray.size_append]; exact hBz, NXT.out, btr hI.out.2 h5⟩
    case measure => simp [intOf]; omega
end Go.Proofs.YtiepbfeliehjnaaDoor
