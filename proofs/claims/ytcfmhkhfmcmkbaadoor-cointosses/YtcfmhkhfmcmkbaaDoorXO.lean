/-
  Put together of: CT CR.
-/
import Derived.Test.YtcfmhkhfmcmkbaaDoorXN
import Derived.Test.YtcfmhkhfmcmkbaaDoorXC
import Derived.ChangeMaps5
import Derived.Deep.Strs
import Derived.Deep.Fields
namespace Go.Proofs.YtcfmhkhfmcmkbaaDoor
open Go.RowKit

/-- Coins that can be read. -/
structure RC (W : World) (b o : Nat) (cs : List (Int × Int)) : Prop where
  c0 : ∀ j (h : j < cs.length), W.cell? ⟨b, o + j * 2, none⟩ = some (.int .u64 cs[j].1)
  c1 : ∀ j (h : j < cs.length), W.cell? ⟨b, o + j * 2 + 1, none⟩ = some (.int .i64 cs[j].2)
  lt : b < W.heap.size
structure CS (W : World) (a : Option Addr) (cp : Nat) (cs : List (Int × Int)) : Prop where
  cap : cs.length ≤ cp
  at_ : ∀ k, k < cs.length → ∃ b o, a = some ⟨b, o, none⟩ ∧ RC W b o cs
  fit : ∀ k (h : k < cs.length), 0 ≤ cs[k].1 ∧ cs[k].1 ≤ 18446744073709551615 ∧ -9223372036854775808 ≤ cs[k].2 ∧ cs[k].2 ≤ 9223372036854775807
  len : cs.length ≤ 9223372036854775807
theorem RC.below {W W' : World} {b o : Nat} {cs : List (Int × Int)} (h : RC W b o cs) (g : Below W.heap.size W W') : RC W' b o cs :=
  ⟨fun j hj => (g.cell (p := ⟨b, _, none⟩) h.lt).trans (h.c0 j hj), fun j hj => (g.cell (p := ⟨b, _, none⟩) h.lt).trans (h.c1 j hj), Nat.lt_of_lt_of_le h.lt g.size⟩
/-- Both Tosses tell the same. -/
theorem toss_both (m l o1 o2 o3 a1 a2 a3 : Int) (hm : 0 ≤ m) (hl : -9223372036854775808 ≤ l ∧ l ≤ 9223372036854775807) : ∃ (x e : Int) (c : Bool), (∀ w, Calls Tryd.prog 8 #[cv m l, rv o1 o2 o3, rv a1 a2 a3] w fun r w' => r = .returned (.tuple #[.int .i64 x, .bool c, .int .i64 e]) ∧ Below w.heap.size w w') ∧ ∀ w, Tab w → Calls Tryd.prog 9 #[cv m l, rv o1 o2 o3, rv a1 a2 a3] w fun r w' => r = .returned (.tuple #[.int .i64 x, .bool c, .int .i64 e]) ∧ Below w.heap.size w w' := by
  by_cases hc : isCoin m l
  · obtain ⟨⟨h0, h16⟩, h2⟩ := hc
    obtain ⟨n, rfl⟩ := Int.eq_ofNat_of_zero_le h0
    rw [Int.toNat_natCast] at h2
    by_cases hf : flt n o1 o2 o3 a1 a2 a3 = 0
    · exact ⟨_, _, _, fun w => rtoss_ok m n o1 o2 o3 a1 a2 a3 w ⟨hm, h2⟩ (by omega) hf, fun w hT => toss_ok m n o1 o2 o3 a1 a2 a3 w hT ⟨hm, h2⟩ (by omega) hf⟩
    · exact ⟨_, _, _, fun w => rtoss_bad m n o1 o2 o3 a1 a2 a3 w ⟨hm, h2⟩ (by omega) hf, fun w _ => toss_bad m n o1 o2 o3 a1 a2 a3 w ⟨hm, h2⟩ (by omega) hf⟩
  · exact ⟨_, _, _, fun w => rtoss_no m l o1 o2 o3 a1 a2 a3 w hl hc, fun w _ => toss_no m l o1 o2 o3 a1 a2 a3 w hl hc⟩
theorem coin_both (m l : Int) (hl : -9223372036854775808 ≤ l ∧ l ≤ 9223372036854775807) : ∃ e : Int, (∀ w, Calls Tryd.prog 11 #[cv m l] w fun r w' => r = .returned (.int .i64 e) ∧ Below w.heap.size w w') ∧ ∀ w, Calls Tryd.prog 10 #[cv m l] w fun r w' => r = .returned (.int .i64 e) ∧ Below w.heap.size w w' := by
  by_cases hc : isCoin m l
  · obtain ⟨⟨h0, h16⟩, h2⟩ := hc
    obtain ⟨n, rfl⟩ := Int.eq_ofNat_of_zero_le h0
    rw [Int.toNat_natCast] at h2
    exact ⟨0, fun w => rcoin_yes m n w (by omega) h2, fun w => coin_yes m n w (by omega) h2⟩
  · exact ⟨2, fun w => rcoin_no m l w hl hc, fun w => coin_no m l w hl hc⟩
/-- The coin's box, since V. -/
abbrev T1 (V W : World) (b : Nat) (m l : Int) : Prop := Below V.heap.size V W ∧ W.cell? ⟨b, 0, none⟩ = some (.int .u64 m) ∧ W.cell? ⟨b, 1, none⟩ = some (.int .i64 l)
theorem t1_keep {V W : World} {b : Nat} {m l : Int} (h : BK V b #[.int .u64 m, .int .i64 l] 28) (g : Below V.heap.size V W) : T1 V W b m l := ⟨g, (h.on g).cell 0, (h.on g).cell 1⟩
set_option maxHeartbeats 4000000 in
theorem tosses_any (a : Option Addr) (cp : Nat) (cs : List (Int × Int)) (o1 o2 o3 a1 a2 a3 : Int) (w : World) (hT : Tab w) (hC : CS w a cp cs) :
    Calls Tryd.prog 3 #[.slice a cs.length cp, rv o1 o2 o3, rv a1 a2 a3] w fun x w' => x = .returned (.bool true) ∧ Below w.heap.size w w' := by
  have AW := fun w h => awake_any w h
  have HT : Hid (∀ w', Below w.heap.size w w' → Tab w') := fun w' h => hT.below h
  have HC := hid hC
  have hlen := hC.len
  clear hT hC
  go_enter Tryd.func3, Tryd.ntmps3
  go_wp2_with (go_at_call 7; (with_reducible refine (AW _ (HT.out _ (bal (bal (Below.refl _ _) _) _))).mono ?_); rintro x w1 ⟨rfl, hB⟩; have HS : Hid (RB2 w w1 o1 o2 o3 a1 a2 a3) := ⟨btr (bal (bal (Below.refl w.heap.size w) _) _) hB, (two_box hB).1, (two_box hB).2⟩)
  clear hB AW
  go_loopw [19] (fun v19 wr => ∃ k : Nat, k ≤ cs.length ∧ v19 = .int .i64 (k : Nat) ∧ Hid (RB2 w wr o1 o2 o3 a1 a2 a3)) (fun v19 _ => cs.length - (intOf v19).toNat)
  case atStart => exact ⟨0, Nat.zero_le _, rfl, HS⟩
  case round =>
    obtain ⟨k, hk, rfl, hS⟩ := hrel
    clear HS
    by_cases hlt : k < cs.length
    · have hkI : ((k : Nat) : Int) < (cs.length : Nat) := by omega
      obtain ⟨b, o, rfl, r0⟩ := HC.out.at_ k hlt
      have r := r0.below hS.out.below
      have x0 := r.c0 k hlt
      have x1 := r.c1 k hlt
      have x2 := r.lt
      have hcap := HC.out.cap
      obtain ⟨f0, f1, f2, f3⟩ := HC.out.fit k hlt
      generalize hm : cs[k].1 = m at *
      generalize hl : cs[k].2 = l at *
      obtain ⟨x, e, c, R8, R9⟩ := toss_both m l o1 o2 o3 a1 a2 a3 f0 ⟨f2, f3⟩
      obtain ⟨ec, R11, R10⟩ := coin_both m l ⟨f2, f3⟩
      have c0 : ∀ j, wr.cell? ⟨w.heap.size, j, none⟩ = _ := hS.out.b1.cell
      have c1 : ∀ j, wr.cell? ⟨w.heap.size + 1, j, none⟩ = _ := hS.out.b2.cell
      have l0 := hS.out.b1.lt
      have l1 := hS.out.b2.lt
      clear r r0 hm hl
      go_upto_region 8 with (first
        | (go_at_call 8; (with_reducible refine (R8 _).mono ?_); rintro rr w2 ⟨rfl, hB2⟩; have D1 := (hS.out.b1.alloc (.cells #[.int .u64 m, .int .i64 l] 28)).on hB2; have D2 := (hS.out.b2.alloc (.cells #[.int .u64 m, .int .i64 l] 28)).on hB2; have D3 := (bk_new wr #[.int .u64 m, .int .i64 l] 28).on hB2; have d0 : ∀ j, w2.cell? ⟨w.heap.size, j, none⟩ = _ := D1.cell; have d1 : ∀ j, w2.cell? ⟨w.heap.size + 1, j, none⟩ = _ := D2.cell; have d2 : ∀ j, w2.cell? ⟨wr.heap.size, j, none⟩ = _ := D3.cell; have m0 := D1.lt; have m1 := D2.lt; have m2 := D3.lt; clear R8)
        | (go_at_call 9; (with_reducible refine (R9 _ (HT.out _ (btr (bal hS.out.below _) hB2))).mono ?_); rintro rr w3 ⟨rfl, hB3⟩; have E1 := D1.on hB3; have E2 := D2.on hB3; have E3 := D3.on hB3; clear R9))
      have BW := btr (btr (bal hS.out.below _) hB2) hB3
      have RV := Below.refl w3.heap.size w3
      go_region_held3 (fun w' => T1 w3 w' wr.heap.size m l)
        ((refine t1_keep E3 ?_; first | exact below_drew RV | exact btr (And.left (by assumption)) hN))
        (first
          | (go_at_call 10; (with_reducible refine (R10 _).mono ?_); rintro rr w4 ⟨rfl, hN⟩; have hK := btr (And.left (by assumption)) hN)
          | (go_at_call 11; (with_reducible refine (R11 _).mono ?_); rintro rr w5 ⟨rfl, hN⟩; have hK := btr (And.left (by assumption)) hN))
      all_goals
        go_wp2
        have BK5 := btr BW hK
        exact ⟨⟨k + 1, by omega, by simp, ⟨BK5, E1.on hK, E2.on hK⟩⟩, by simp [intOf]; omega⟩
    · obtain rfl : k = cs.length := by omega
      go_wp2
      go_ret
      exact ⟨rfl, hS.out.below⟩
end Go.Proofs.YtcfmhkhfmcmkbaaDoor
namespace Go.Proofs.YtcfmhkhfmcmkbaaDoor
open Go.ChangeShapes Go.WideShapes Go.ChangeAt Go.ChangeMaps Go.RowKit

theorem Tryd.cells28 : Tryd.prog.cellsOf 28 = 2 := by kernel_rfl
section
variable {H : Type} {enc : TypeId × Value → H} {W : World}
theorem trod_fields {ts : TypeId} {fs : Array Field} {fuel : Nat} {cs : List Value} {x : DataW H × List MemPlace} (hs : Tryd.prog.underlying ts = some (.struct fs))
    (hone : ∀ (i : Nat) (f : Field), fs[i]? = some f → f.offset = i ∧ Tryd.prog.cellsOf f.type = 1) (hC : Tryd.prog.cellsOf ts = fs.size) (h : DataW.trod enc Tryd.prog W 0 (fun _ => true) true fuel ts cs = some x) :
    cs.length = fs.size ∧ ∃ (n : Nat) (Y : Nat → DataW H × List MemPlace), ∀ (i : Nat) (f : Field), fs[i]? = some f → DataW.trod enc Tryd.prog W 0 (fun _ => true) true n f.type [cs.getD i undef] = some (Y i) := by
  obtain ⟨xs, n, _, rfl, hlen, hxl, hf⟩ := DataW.trod_struct hs h
  rw [hC] at hlen
  refine ⟨hlen, n, fun i => xs.getD i (.nil, []), fun i f hi => ?_⟩
  have hlt : i < fs.size := (Array.getElem?_eq_some_iff.1 hi).1
  obtain ⟨ho, hc1⟩ := hone i f hi
  have g := hf i f hi
  rw [ho, hc1, Go.Deep.take1_drop cs i undef (by omega), List.getElem?_eq_getElem (by omega)] at g
  rw [g]
  simp [List.getD, List.getElem?_eq_getElem (show i < xs.length by omega)]
theorem coin_of_trod {fuel : Nat} {cs : List Value} {x : DataW H × List MemPlace} (h : DataW.trod enc Tryd.prog W 0 (fun _ => true) true fuel 28 cs = some x) :
    ∃ t : Int × Int, cs = [.int .u64 t.1, .int .i64 t.2] ∧ (0 ≤ t.1 ∧ t.1 ≤ 18446744073709551615) ∧ (-9223372036854775808 ≤ t.2 ∧ t.2 ≤ 9223372036854775807) := by
  obtain ⟨hlen, n, Y, hY⟩ := trod_fields Tryd.underlying28 (Go.Deep.hone_of (by kernel_rfl)) Tryd.cells28 h
  match cs, hlen with
  | [v0, v1], _ =>
    obtain ⟨x0, e0, _, w0⟩ := DataW.trod_int Tryd.underlying26 (hY 0 _ rfl)
    obtain ⟨x1, e1, _, w1⟩ := DataW.trod_int Tryd.underlying3 (hY 1 _ rfl)
    simp at e0 e1
    subst e0 e1
    exact ⟨⟨x0, x1⟩, rfl, bounds_u64 w0, bounds_i64 w1⟩
theorem coins_of_trod {fuel : Nat} {cs : List Value} {x : DataW H × List MemPlace} (h : DataW.trod enc Tryd.prog W 0 (fun _ => true) true fuel 22 cs = some x) :
    ∃ (a : Option Addr) (c : Nat) (os : List (Int × Int)), cs = [.slice a os.length c] ∧ CS W a c os := by
  rcases Go.Deep.open_slice Tryd.underlying22 h with ⟨rfl, _⟩ | ⟨a, len, cap, m, n, D, Pl, rfl, _, hl, hm, hmm, hx, hcell⟩
  · exact ⟨none, 0, [], rfl, Nat.le_refl _, fun k hk => absurd hk (Nat.not_lt_zero _), fun k hk => absurd hk (Nat.not_lt_zero _), Nat.zero_le _⟩
  · simp only [if_true] at hmm
    unfold maxLen at hm
    rw [Tryd.cells28] at hcell
    have each : ∀ i, i < len → ∃ t : Int × Int, (∀ j, j < 2 → W.cell? (a.add (i * 2 + j)) = [Value.int .u64 t.1, .int .i64 t.2][j]?) ∧ (0 ≤ t.1 ∧ t.1 ≤ 18446744073709551615) ∧ (-9223372036854775808 ≤ t.2 ∧ t.2 ≤ 9223372036854775807) := by
      intro i hi
      obtain ⟨cs', h1, h2⟩ := hcell i (by omega)
      obtain ⟨_, hlen, hc⟩ := World.cells?_some h1
      obtain ⟨t, rfl, hq, hf⟩ := coin_of_trod h2
      refine ⟨t, fun j hj => ?_, hq, hf⟩
      have e0 := hc j hj
      rw [Go.Deep.add_add] at e0
      exact e0
    haveI : Inhabited (Int × Int) := ⟨(0, 0)⟩
    obtain ⟨T, hT⟩ := Go.Deep.choose_lt each
    have hln : ((List.range len).map fun i => T i).length = len := by simp
    refine ⟨some a, cap, (List.range len).map fun i => T i, by rw [hln], by omega, fun k hk => ?_, fun k hk => ?_, by omega⟩
    · rw [hln] at hk
      obtain ⟨b, off, spot⟩ := a
      have h00 := (hT 0 (by omega)).1 0 (by omega)
      have hspot : spot = none := by simpa [Addr.add] using World.cell?_spot h00
      subst hspot
      have get : ∀ j d, j < len → d < 2 → W.cell? ⟨b, off + (j * 2 + d), none⟩ = [Value.int .u64 (T j).1, .int .i64 (T j).2][d]? := fun j d hj hd => by
        have := (hT j hj).1 d hd
        rwa [Go.WideShapes.add_plain] at this
      refine ⟨b, off, rfl, fun j hj => ?_, fun j hj => ?_, ?_⟩
      · rw [hln] at hj; have := get j 0 hj (by omega); simpa [Nat.add_assoc] using this
      · rw [hln] at hj; have := get j 1 hj (by omega); simpa [Nat.add_assoc] using this
      · exact World.block_lt_of_cell? W _ (get 0 0 (by omega) (by omega))
    · rw [hln] at hk
      have := (hT k hk).2
      simpa using ⟨this.1.1, this.1.2, this.2.1, this.2.2⟩
end
end Go.Proofs.YtcfmhkhfmcmkbaaDoor
