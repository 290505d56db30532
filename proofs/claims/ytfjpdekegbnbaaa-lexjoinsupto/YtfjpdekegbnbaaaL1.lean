/-
  The reference's Join, where the tokens are not too great for an int.
-/
import Derived.Test.YtfjpdekegbnbaaaK1
import Derived.Lib.AppendStr
namespace Go.Proofs.Ytfjpdekegbnbaaa
open Go.RowKit Go.Sort

theorem Try.info5 : (Try.prog.info? 5).map (fun i => (i.zero, i.size, i.bytes)) = some (some (.int .u8 0), 1, 1) := by kernel_rfl
/-- Within the reference's Join: the bytes bs are written. -/
structure RJ (w W : World) (v : Value) (bs : List UInt8) : Prop where
  below : Below w.heap.size w W
  own : W.ownsRow w.heap.size 5 1 v bs.length (Lib.byteCells bs)
theorem RJ.on {w W W2 : World} {v : Value} {bs : List UInt8} (H : RJ w W v bs) (hb : Below W.heap.size W W2) : RJ w W2 v bs :=
  ⟨btr H.below hb, H.own.kept (grown_of hb) (by cases v.ownBlock <;> simp)⟩
theorem RJ.alloc {w W : World} {v : Value} {bs : List UInt8} (H : RJ w W v bs) (o : Obj) : RJ w (W.alloc o) v bs := H.on (bal (Below.refl _ _) _)
theorem RJ.put {w W W2 : World} {v v' : Value} {bs cs : List UInt8} (H : RJ w W v bs) (hg : W.grownBy W2 v.ownBlock) (hown : W2.ownsRow w.heap.size 5 1 v' (bs.length + cs.length) (Lib.byteCells bs ++ Lib.byteCells cs)) : RJ w W2 v' (bs ++ cs) where
  below := H.below.grown hg H.below.size (fun j e => (H.own.lt j e).1)
  own := by rw [Lib.byteCells_append, List.length_append]; exact hown
theorem conv_rj {w W : World} {v : Value} {bs : List UInt8} (h : RJ w W v bs) : (convert 39 9 v).run Try.prog W = .ok (.string ⟨bs.toArray⟩) W := by
  rcases h.own.2 with ⟨rfl, e⟩ | ⟨g, cap, cur, rfl, _⟩
  · obtain rfl := List.eq_nil_of_length_eq_zero e
    rw [run_convert_bytes_string W 39 9 5 none 0 0 Try.underlying39 Try.underlying5 Try.underlying9]
    rfl
  · have hc := h.own.cells (g := g) rfl
    exact run_convert_bytes_back (P := Try.prog) W 39 9 5 ⟨g, 0, none⟩ cap bs Try.underlying39 Try.underlying5 Try.underlying9 (fun j hj => hc j _ (by
      unfold Lib.byteCells
      rw [List.getElem?_map, List.getElem?_eq_getElem hj]
      rfl))

set_option maxHeartbeats 2000000 in
theorem rjoin_any (l : List Tk) (v : Value) (s : ByteArray) (e : Nat) (w : World) (hv : SF w v l) (hl : sm l l.length + l.length ≤ 4398046511104) (ho : JO l s e) :
    Calls Try.prog 12 #[v] w fun x w' => x = .returned (.tuple #[.string s, .int .i64 e]) ∧ Below w.heap.size w w' := by
  have HU : Hid (∀ s' e', JO l s' e' → s = s' ∧ e = e') := fun s' e' h => ho.unique h
  clear ho
  have hmono : ∀ k, k ≤ l.length → sm l k ≤ sm l l.length := by
    have key : ∀ d k, k + d = l.length → sm l k ≤ sm l l.length := by
      intro d
      induction d with
      | zero => intro k e; rw [show k = l.length by omega]; exact Nat.le_refl _
      | succ d ih =>
        intro k e
        have h1 := ih (k + 1) (by omega)
        have h2 := sm_at l k (by omega)
        omega
    exact fun k hk => key (l.length - k) k (by omega)
  have HM : Hid (∀ k, k ≤ l.length → sm l k ≤ sm l l.length) := hmono
  have hll : l.length ≤ 4398046511104 := by omega
  have hj := sm_jl l l.length
  have hs0 : l.length = 0 → sm l l.length = 0 := fun h => by rw [h]; rfl
  have HS0 : Hid (l.length = 0 → sm l l.length = 0) := hs0
  clear hs0
  obtain ⟨av, cv, rfl, hc, hr⟩ := hv
  have HR : Hid (∀ k, k < l.length → ∃ b o, av = some ⟨b, o, none⟩ ∧ RT w b o l) := hr
  clear hr hmono
  obtain ⟨i3, hi3, hz3, hs3, hb3⟩ := info_parts Try.info5
  go_enter Try.func12, Try.ntmps12
  go_upto_region 3 with fail
  go_loopw [4, 5] (fun v4 v5 wr => ∃ k : Nat, k ≤ l.length ∧ v5 = .int .i64 k ∧ v4 = .int .i64 ((sm l k + k : Nat) : Int) ∧ Hid (Below w.heap.size w wr ∧ ∀ j (h : j < l.length), j < k → rightB l[j] = true)) (fun _ v5 _ => l.length - (intOf v5).toNat)
  case atStart => exact ⟨0, by omega, rfl, rfl, Below.refl _ _, fun j _ h => absurd h (Nat.not_lt_zero _)⟩
  case round =>
    obtain ⟨k, hk, rfl, rfl, hH⟩ := hrel
    by_cases hlt : k < l.length
    · obtain ⟨b, o, rfl, r0⟩ := HR.out k hlt
      have e5 := sm_at l k hlt
      have hm := HM.out (k + 1) (by omega)
      have E5 : Hid (sm l (k + 1) = sm l k + l[k].t.size) := e5
      rw [e5] at hm
      have r := r0.below hH.out.1
      have d0 := r.c0 k hlt
      have d1 := r.c1 k hlt
      have d2 := r.c2 k hlt
      have D1 : Hid (∀ W, Below wr.heap.size wr W → W.cell? ⟨b, o + k * 3 + 1, none⟩ = some (.string l[k].t)) := fun W hW => (r.below hW).c1 k hlt
      have IT := fun w => rright_any l[k] w (by omega)
      have HA : Hid (rightB l[k] = true → ∀ j (h : j < l.length), j < k + 1 → rightB l[j] = true) := fun hr j h hj => by
        by_cases e : j = k
        · subst e; exact hr
        · exact hH.out.2 j h (by omega)
      have HN : Hid (rightB l[k] = false → s = ⟨#[]⟩ ∧ e = 90) := fun hr => HU.out _ _ (.inl ⟨⟨k, hlt, hr⟩, rfl, rfl⟩)
      clear r r0 HU e5 hj
      generalize rightB l[k] = rb at *
      generalize l[k].k = x at *
      generalize l[k].p = y at *
      generalize l[k].t = z at *
      generalize sm l k = q at *
      cases rb with
      | true =>
        go_wp2_with (go_at_call 28; (with_reducible refine (IT _).mono ?_); rintro e w1 ⟨rfl, hN⟩; have d3 := D1.out w1 hN)
        go_roundw
        case rel => exact ⟨k + 1, by omega, by go_num, by rw [E5.out]; go_num, btr hH.out.1 hN, HA.out trivial⟩
        case measure => simp [intOf]; omega
      | false =>
        obtain ⟨rfl, rfl⟩ := HN.out rfl
        go_wp2_with (go_at_call 28; (with_reducible refine (IT _).mono ?_); rintro e w1 ⟨rfl, hN⟩)
        go_ret2
        exact ⟨rfl, btr hH.out.1 hN⟩
    · obtain rfl : k = l.length := by omega
      have HA : AllR l := fun j h => hH.out.2 j h h
      by_cases hbig : 65536 < jl l l.length
      · obtain ⟨rfl, rfl⟩ := HU.out _ _ (.inr (.inl ⟨HA, hbig, rfl, rfl⟩))
        have g1 : 65537 < sm l l.length + l.length := by
          have := HS0.out
          omega
        clear HS0
        clear HU hj hbig
        generalize sm l l.length = q at *
        go_wp2
        go_ret2
        exact ⟨rfl, hH.out.1⟩
      · obtain ⟨rfl, rfl⟩ := HU.out _ _ (.inr (.inr ⟨HA, by omega, rfl, rfl⟩))
        have g1 : ¬ 65537 < sm l l.length + l.length := by omega
        clear HS0
        have HJ : Hid (jl l l.length ≤ 65536) := by show _ ≤ _; omega
        clear HU hj hbig HA HM
        generalize sm l l.length + l.length = q at *
        go_upto_region 12 with fail
        have hJ : Hid (RJ w wr (.slice none 0 0) (jb l 0)) := ⟨hH.out.1, World.ownsRow_nil _ _ _ _⟩
        go_loopw [6, 7] (fun v6 v7 wr => ∃ k : Nat, k ≤ l.length ∧ v7 = .int .i64 k ∧ Hid (RJ w wr v6 (jb l k))) (fun _ v7 _ => l.length - (intOf v7).toNat)
        case atStart => exact ⟨0, by omega, rfl, hJ⟩
        case round =>
          clear hJ hH
          obtain ⟨k, hk, rfl, hJ⟩ := hrel
          by_cases hlt : k < l.length
          · obtain ⟨b, o, rfl, r0⟩ := HR.out k hlt
            have hmo := jl_mono l (show k + 1 ≤ l.length by omega)
            have hj6 := HJ.out
            have hjk := jl_at l k hlt
            have EJ : Hid (jb l (k + 1) = jb l k ++ (if k = 0 then [] else [32]) ++ l[k].t.data.toList) := jb_at l k hlt
            have hlen := jb_length l k
            have D1 : Hid (∀ W, Below w.heap.size w W → W.cell? ⟨b, o + k * 3 + 1, none⟩ = some (.string l[k].t)) := fun W hW => (r0.below hW).c1 k hlt
            clear r0
            generalize l[k].t = z at *
            have hzl : z.data.toList.length = z.size := rfl
            by_cases h0 : k = 0
            · have EJ2 : Hid (jb l (k + 1) = jb l k ++ z.data.toList) := by
                show _ = _
                rw [EJ.out]
                simp [h0]
              have g0 : ¬ (0 : Int) < (k : Int) := by omega
              have g0' : ¬ 0 < k := by omega
              have d1 := D1.out wr hJ.out.below
              have hb1 : (jb l k).length + z.size ≤ 140737488355328 := by omega
              clear h0 EJ hjk hmo hlen
              go_wp2_with (at_builtin; refine Lib.wpList_append_own_string _ rfl _ _ 39 9 rfl w.heap.size 5 i3 Try.underlying39 Try.underlying9 hi3 hz3 hs3 hb3 _ (jb l k).length (Lib.byteCells (jb l k)) rfl hJ.out.own z rfl (by unfold maxLen; omega) hb1 hJ.out.below.size ?_; intro v5 w5 hown5 hgrow5 hnil5; have hZ : Hid (RJ w w5 v5 (jb l k ++ z.data.toList)) := hJ.out.put hgrow5 hown5; clear hown5 hgrow5 hnil5)
              go_roundw
              case rel => exact ⟨k + 1, by omega, by go_num, by rw [EJ2.out]; exact hZ⟩
              case measure => simp [intOf]; omega
            · have EJ2 : Hid (jb l (k + 1) = jb l k ++ [32] ++ z.data.toList) := by
                show _ = _
                rw [EJ.out]
                simp [h0]
              rw [if_neg h0] at hjk
              have g0 : (0 : Int) < (k : Int) := by omega
              have g0' : 0 < k := by omega
              have hb1 : (jb l k).length + 1 ≤ 140737488355328 := by omega
              obtain ⟨B1, hB1⟩ : ∃ B1 : List UInt8, Hid (B1 = jb l k ++ [32]) := ⟨jb l k ++ [32], rfl⟩
              have HB2 : Hid (B1.length + z.size ≤ 140737488355328) := by show _ ≤ _; rw [hB1.out, List.length_append]; show (jb l k).length + 1 + _ ≤ _; omega
              have hV : Hid (RJ w (wr.alloc (.cells #[.int .u8 32] 5)) _ (jb l k)) := hJ.out.alloc _
              have N1 : ∀ j u, [Value.int .u8 32][j]? = some u → (wr.alloc (.cells #[.int .u8 32] 5)).cell? ((⟨wr.heap.size, 0, none⟩ : Addr).add j) = some u := cell_one_new wr _ _
              clear h0 EJ hjk hmo hlen
              go_wp2_with (first
                | (at_builtin; refine wpList_append_own_at _ rfl _ _ 39 rfl w.heap.size 5 i3 (.int .u8 0) 1 1 Try.underlying39 hi3 hz3 hs3 hb3 rfl (by decide) _ (jb l k).length (Lib.byteCells (jb l k)) rfl hV.out.own ⟨wr.heap.size, 0, none⟩ 1 1 [.int .u8 32] rfl rfl N1 (fun u hu => by simp at hu; rw [hu]; rfl) (by unfold maxLen; omega) (by omega) hV.out.below.size ?_; intro v4 w4 hown4 hgrow4 hnil4 hloc4; have hY : Hid (RJ w w4 v4 B1) := (by show RJ _ _ _ _; rw [hB1.out]; exact hV.out.put hgrow4 hown4); have d1 := D1.out w4 hY.out.below; clear hown4 hgrow4 hnil4 hloc4)
                | (at_builtin; refine Lib.wpList_append_own_string _ rfl _ _ 39 9 rfl w.heap.size 5 i3 Try.underlying39 Try.underlying9 hi3 hz3 hs3 hb3 _ B1.length (Lib.byteCells B1) rfl hY.out.own z rfl (by unfold maxLen; have := HB2.out; omega) HB2.out hY.out.below.size ?_; intro v5 w5 hown5 hgrow5 hnil5; have hZ : Hid (RJ w w5 v5 (B1 ++ z.data.toList)) := hY.out.put hgrow5 hown5; clear hown5 hgrow5 hnil5))
              go_roundw
              case rel => exact ⟨k + 1, by omega, by go_num, by rw [EJ2.out, ← hB1.out]; exact hZ⟩
              case measure => simp [intOf]; omega
          · obtain rfl : k = l.length := by omega
            have CV := conv_rj hJ.out
            go_wp2
            go_ret2
            exact ⟨rfl, hJ.out.below⟩
end Go.Proofs.Ytfjpdekegbnbaaa
