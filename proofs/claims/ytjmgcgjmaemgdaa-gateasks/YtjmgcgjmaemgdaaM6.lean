/-
  gate.Matrix: the matrix that the columns' entries make.
-/
import Derived.Test.YtjmgcgjmaemgdaaM3
namespace Go.Proofs.Ytjmgcgjmaemgdaa
open Go.RowKit Go.Sort

set_option maxRecDepth 100000 in
set_option maxHeartbeats 8000000 in
theorem matrix_3 {s : ByteArray} {i : Nat} {c : Int} {f : Nat} {p h : Int} {cl di : Bool} {inv : ByteArray} (H : Hit s i 3 c f p h cl di inv) (LS : Nat → List (Int × Int × Int)) (w : World)
    (EN : ∀ y : Nat, y < 8 → EnC (kd 3 c f p h cl di inv) y (LS y))
    (VA : ∀ y : Nat, y < 8 → Eok (LS y) 8) (LE : ∀ y : Nat, y < 8 → (LS y).length ≤ 8) :
    Calls Try.prog 18 #[.string s] w fun e w' => ∃ M, e = .returned (.tuple #[.slice (some ⟨M, 0, none⟩) 8 8, .int .i64 0]) ∧ MX w w' M 8 (matA LS 8) := by
  have K := kinds_any w
  have LK := run_look s i _ H true
  have hW := below_map w
  clear H
  generalize KA 25 = ka at *
  have NO : ∀ w, Calls Try.prog 31 #[.int .i64 (IntKind.i64.wrap 8), .int .i64 (IntKind.i64.wrap 8)] w fun e w' => e = .returned (.slice (some ⟨w.heap.size, 0, none⟩) 8 8) ∧ MX w w' w.heap.size 8 zA := fun w => by
    rw [show IntKind.i64.wrap 8 = 8 by decide]
    exact noughts_8 w
  have HE := hidG EN
  have HV := hidG VA
  clear EN VA
  go_enter Try.func18, Try.ntmps18
  go_upto_region 4 with (go_at_call 30; (with_reducible refine K.mono ?_); rintro e w1 ⟨rfl, rfl⟩)
  clear K LK
  have hK : Bx ((w.alloc (.map ka 25)).alloc (kc 3 c f p h cl di inv)) (w.heap.size + 1) (kcl 3 c f p h cl di inv) := by
    have := Bx.new (w.alloc (.map ka 25)) (kcl 3 c f p h cl di inv) 59
    simpa [go_sem] using this
  have hB := below_drew (bal hW (kc 3 c f p h cl di inv))
  have hsz : ((w.alloc (.map ka 25)).alloc (kc 3 c f p h cl di inv)).drew.heap.size = w.heap.size + 1 + 1 := by simp [go_sem]
  go_cut [6] from 18 to 24 (fun v6 W => ∃ M, v6 = Value.slice (some ⟨M, 0, none⟩) 8 8 ∧ Hid (MX w W M 8 zA ∧ Bx W (w.heap.size + 1) (kcl 3 c f p h cl di inv) ∧ w.heap.size + 1 < M))
  case first =>
    go_region_with (go_at_call 31; (with_reducible refine (NO _).mono ?_); rintro e w1 ⟨rfl, hm⟩)
    all_goals
      go_wp2
      go_meet
      case rel => exact ⟨_, rfl, hsz ▸ hm.base hB, hK.drew.below hm.below, by omega⟩
  clear hW hK hB NO hsz
  obtain ⟨M, rfl, hM⟩ := hcut
  go_upto_region 6 with (fail)
  go_loopw [27] (fun v wr => ∃ y : Nat, y ≤ 8 ∧ v = .int .i64 y ∧ Hid (MX w wr M 8 (matA LS y) ∧ Bx wr (w.heap.size + 1) (kcl 3 c f p h cl di inv) ∧ w.heap.size + 1 < M)) (fun v _ => 8 - (intOf v).toNat)
  case atStart => exact ⟨0, by omega, rfl, hM⟩
  case round =>
    clear hM
    obtain ⟨y, hy, rfl, hH⟩ := hrel
    by_cases hlt : y < 8
    · have EN := HE.out y hlt
      have VA := hidG (HV.out y hlt)
      have hL8 := LE y hlt
      have hk := hH.out.2.1
      have k0 := hk.c 0 _ rfl
      have k1 := hk.c 1 _ rfl
      have k2 := hk.c 2 _ rfl
      have k3 := hk.c 3 _ rfl
      have k4 := hk.c 4 _ rfl
      have k5 := hk.c 5 _ rfl
      have k6 := hk.c 6 _ rfl
      have k7 := hk.c 7 _ rfl
      have hs : Hid (matA LS (y + 1) = stepA (matA LS y) y (LS y) (LS y).length) := rfl
      generalize LS y = L at *
      clear hk
      go_upto_region 9 with (go_at_call 32; (with_reducible refine (EN _).mono ?_); rintro e w2 ⟨b, rfl, hE, hb, hN⟩)
      have hI : Hid (MI w w2 M 8 (matA LS y) y L b 0 (kcl 3 c f p h cl di inv)) := ⟨hH.out.1.on hN, hH.out.2.1.below hN, hE, by have := hH.out.1.lt; omega, hH.out.2.2⟩
      clear EN k0 k1 k2 k3 k4 k5 k6 k7 hE hb hN hH
      go_loopw [34] (fun v wr => ∃ k : Nat, k ≤ L.length ∧ v = .int .i64 k ∧ Hid (MI w wr M 8 (matA LS y) y L b k (kcl 3 c f p h cl di inv))) (fun v _ => L.length - (intOf v).toNat)
      case atStart => exact ⟨0, by omega, rfl, hI⟩
      case round =>
        clear hI
        obtain ⟨k, hk, rfl, hJ⟩ := hrel
        by_cases hlk : k < L.length
        · obtain ⟨x, hx, hxN, h0, h6, hm, h8⟩ := VA.out k hlk
          have c0 := hJ.out.ent.c0 k hlk
          have c1 := hJ.out.ent.c1 k hlk
          have c2 := hJ.out.ent.c2 k hlk
          rw [hx] at c0
          have VL := fun w => value_any (x : Int) (enP L k) (enH L k) (mo (enP L k)) w h0 h6 hm h8
          obtain ⟨a0, a1, a2, ha⟩ := len3 (hJ.out.mx.len x y)
          have hS : Hid (stepA (matA LS y) y L (k + 1) = upd (stepA (matA LS y) y L k) x y (unL (mo (enP L k)) (enH L k))) := by show _ = _; simp only [stepA, hx, Int.toNat_natCast]
          have hA := hidG (hJ.out.alloc (.cells #[.int .i64 (x : Int), .int .i64 (enP L k), .int .i64 (enH L k)] 67))
          have hV := Bx.new wr [.int .i64 (x : Int), .int .i64 (enP L k), .int .i64 (enH L k)] 67
          have m0 := hA.out.mx.m x hxN
          have v0 := hV.c 0 _ rfl
          have v1 := hV.c 1 _ rfl
          have v2 := hV.c 2 _ rfl
          clear h0 h6 hm h8 hx
          generalize enP L k = pk at *
          generalize enH L k = hk' at *
          go_upto_region 11 with (fail)
          go_region_with (go_at_call 33; (with_reducible refine (VL _).mono ?_); rintro e w4 ⟨rfl, hN4⟩; have h4 := hA.out.drew.on hN4; have m4 := h4.mx.m x hxN; have u0 := (hV.drew.below hN4).c 0 _ rfl; have e0 : w4.cell? ⟨M + 1 + x, y * 3, none⟩ = some a0 := h4.mx.c x y 0 a0 hxN hlt (by rw [ha]; rfl); have e1 := h4.mx.c x y 1 a1 hxN hlt (by rw [ha]; rfl); have e2 := h4.mx.c x y 2 a2 hxN hlt (by rw [ha]; rfl); have f0 := h4.mx.f x (y * 3) hxN; have f1 := h4.mx.f x (y * 3 + 1) hxN; have f2 := h4.mx.f x (y * 3 + 2) hxN)
          all_goals
            go_wp2
            go_roundw
            case rel => exact ⟨k + 1, by omega, by go_num, h4.put x hxN hlt hS.out⟩
            case measure => simp [intOf]; omega
        · obtain rfl : k = L.length := by omega
          go_wp2
          go_roundw
          case rel => exact ⟨y + 1, by omega, by go_num, by show _ ∧ _; rw [hs.out]; exact ⟨hJ.out.mx, hJ.out.kb, hJ.out.kM⟩⟩
          case measure => simp [intOf]; omega
    · obtain rfl : y = 8 := by omega
      go_wp2
      go_ret2
      exact ⟨M, rfl, hH.out.1⟩
end Go.Proofs.Ytjmgcgjmaemgdaa
