/-
  Put together of: D1 CT D2.
-/
import Derived.Test.YtcfmhkhfmcmkbaaDoorXO
import Derived.Test.YtcfmhkhfmcmkbaaDoorXN
import Derived.Lib.AppendIntMem
import Derived.Lib.ItoaMem
import Derived.Laws.IdiomStrings
import Derived.Deep.RegionWith
namespace Go.Proofs.YtcfmhkhfmcmkbaaDoor
open Go.RowKit Go.Sort

/-- The table of strconv. -/
abbrev PT (w : World) : Prop := Lib.TabIs Tryd.prog w "internal/strconv.uint64pow10" .u64 Lib.pow10Tab
theorem pt_below {w w' : World} (h : PT w) (hb : Below w.heap.size w w') : PT w' := Go.Joins.tab_stays (g := 0) (by kernel_rfl) h hb (Nat.le_refl _)
abbrev dec (u : Nat) : ByteArray := ⟨(Lib.decDigits u).toArray⟩
abbrev u8e : UInt8 → Value := fun b => Value.int .u8 (b.toNat : Int)
theorem fin0 (w : World) (o : Obj) (dk : Array UInt8) (k : Nat) : Below w.heap.size w ((putRow u8e (w.alloc o) w.heap.size 0 dk).drewN k) := by
  rw [alloc_eq_grow]
  obtain ⟨os', _, e⟩ := putRow_grow_new u8e w #[o] w.heap.size 0 dk (Nat.le_refl _)
  rw [e]
  have h : Below w.heap.size w (grow w os') := ⟨rfl, rfl, rfl, by simp [grow], fun i hi => by simp [grow, Array.getElem?_append, hi]⟩
  exact below_drewN h k
set_option maxHeartbeats 1000000 in
theorem ifu_any (u : Nat) (hu : u < 18446744073709551616) (w : World) (hT : PT w) :
    Calls Tryd.prog 40 #[.int .u64 (u : Nat), .int .i64 10] w fun e w' => e = .returned (.string (dec u)) ∧ Below w.heap.size w w' := by
  by_cases h1 : u < 100
  · have S := fun w => Tryd.internal_strconv_small u h1 w
    have h2 : ((u : Nat) : Int) < 100 := by omega
    go_enter Tryd.func40, Tryd.ntmps40
    go_wp2_with (go_at_call 63; (with_reducible refine (S _).mono ?_); rintro e w1 ⟨rfl, rfl⟩)
    go_ret
    exact ⟨rfl, Below.refl _ _⟩
  · have hu1 : 1 ≤ u := by omega
    have h2 : ¬ ((u : Nat) : Int) < 100 := by omega
    have hnd20 : Lib.nDigits u ≤ 20 := by have := Lib.numDigits_eq u hu1 hu; split at this <;> omega
    have ND := fun w h => Tryd.internal_strconv_numDigits u hu1 hu w h
    have hH0 := Lib.holds_zero0 w 112 (Lib.nDigits u) (by omega)
    have FM := Tryd.internal_strconv_formatBase10 w.heap.size 0 24 u (Array.replicate (Lib.nDigits u) 0) (w.alloc (.cells Lib.zeros24 112)) hH0 (by rw [Array.size_replicate]; exact Lib.lt_pow_nDigits u) hu (by rw [Array.size_replicate]; omega)
    rw [Array.size_replicate] at FM
    have hal : Tryd.prog.arrayLen 112 = 24 := by kernel_rfl
    have hsl : ∀ W, (Instr.sliceAt 112 (.pointer (some ⟨w.heap.size, 0, none⟩)) none (some (.int .i64 (Lib.nDigits u : Int))) none).run Tryd.prog W = .ok (.slice (some ⟨w.heap.size, 0, none⟩) (Lib.nDigits u) 24) W := fun W => by
      rw [run_sliceAt_array_h W 112 ⟨w.heap.size, 0, none⟩ (by kernel_rfl) .i64 (Lib.nDigits u : Int) (by omega) (by rw [hal]; omega), hal]
      go_simp
    have HH := hid hH0
    have HT := hid hT
    clear hH0 hT hal
    generalize hz : Lib.zeros24 = z24 at *
    have HZ := hid hz
    unfold Lib.zeros24 at hz
    subst hz
    go_enter Tryd.func40, Tryd.ntmps40
    go_wp2_with (first
      | (go_at_call 64; (with_reducible refine (ND _ (pt_below HT.out (bal (Below.refl _ _) _))).mono ?_); rintro e w1 ⟨rfl, rfl⟩)
      | (go_at_call 65; refine Hid.out ?_))
    refine hid ?_
    refine FM.mono ?_
    rintro e w' ⟨rfl, k, v', dk, rfl, hF⟩
    have hcv : (convert 81 9 (.slice (some ⟨w.heap.size, 0, none⟩) (Lib.nDigits u) 24)).run Tryd.prog ((putRow u8e (w.alloc (.cells Lib.zeros24 112)) w.heap.size 0 dk).drewN k) = .ok (.string (dec u)) ((putRow u8e (w.alloc (.cells Lib.zeros24 112)) w.heap.size 0 dk).drewN k) := by
      have h := run_convert_bytes_back (P := Tryd.prog) ((putRow u8e (w.alloc (.cells Lib.zeros24 112)) w.heap.size 0 dk).drewN k) 81 9 5 ⟨w.heap.size, 0, none⟩ 24 (Lib.decDigits u) Tryd.underlying81 Tryd.underlying5 Tryd.underlying9 (fun j hj => by
        rw [Lib.row_is_numeral hF j hj, Go.WideShapes.add_plain, World.cell?_drewN]
        have hH := HH.out
        rw [← HZ.out] at hH
        exact cell?_putRow u8e _ w.heap.size 0 _ dk hH (by rw [hF.size, Array.size_replicate]) j (by rw [hF.size]; rw [Lib.decDigits_length] at hj; exact hj))
      rw [Lib.decDigits_length] at h
      exact h
    rw [HZ.out] at hcv
    have hfin := fin0 w (.cells Lib.zeros24 112) dk k
    rw [HZ.out] at hfin
    generalize ((putRow u8e (w.alloc (.cells #[Value.int .u8 0, Value.int .u8 0, Value.int .u8 0, Value.int .u8 0, Value.int .u8 0, Value.int .u8 0, Value.int .u8 0, Value.int .u8 0, Value.int .u8 0, Value.int .u8 0, Value.int .u8 0, Value.int .u8 0, Value.int .u8 0, Value.int .u8 0, Value.int .u8 0, Value.int .u8 0, Value.int .u8 0, Value.int .u8 0, Value.int .u8 0, Value.int .u8 0, Value.int .u8 0, Value.int .u8 0, Value.int .u8 0, Value.int .u8 0] 112)) w.heap.size 0 dk).drewN k) = WF at *
    go_wp2
    go_ret
    exact ⟨rfl, hfin⟩
theorem fu_any (u : Nat) (hu : u < 18446744073709551616) (w : World) (hT : PT w) :
    Calls Tryd.prog 26 #[.int .u64 (u : Nat), .int .i64 10] w fun e w' => e = .returned (.string (dec u)) ∧ Below w.heap.size w w' := by
  have F := fun w h => ifu_any u hu w h
  go_enter Tryd.func26, Tryd.ntmps26
  go_wp2_with (go_at_call 40; (with_reducible refine (F _ hT).mono ?_); rintro e w1 ⟨rfl, hB⟩)
  go_ret
  exact ⟨rfl, hB⟩
end Go.Proofs.YtcfmhkhfmcmkbaaDoor
namespace Go.Proofs.YtcfmhkhfmcmkbaaDoor
open Go.RowKit

/-- Coins that can be read. -/
structure RC (W : World) (b o : Nat) (cs : List (Int × Int)) : Prop where
  c0 : ∀ j (h : j < cs.length), W.cell? ⟨b, o + j * 2, none⟩ = some (.int .u64 cs[j].1)
  c1 : ∀ j (h : j < cs.length), W.cell? ⟨b, o + j * 2 + 1, none⟩ = some (.int .i64 cs[j].2)
  lt : b < W.heap.size
structure CS (W : World) (a : Option Addr) (cp : Nat) (cs : List (Int × Int)) : Prop where
  cap : cs.length ≤ cp
  at_ : ∀ k, k < cs.length → ∃ b o, a = some ⟨b, o, none⟩ ∧ RC W b o cs
  fit : ∀ k (h : k < cs.length), 0 ≤ cs[k].1 ∧ cs[k].1 ≤ 18446744073709551615 ∧ -9223372036854775808 ≤ cs[k].2 ∧ cs[k].2 ≤ 9223372036854775807
  len : cs.length ≤ 9223372036854775807
theorem RC.below {W W' : World} {b o : Nat} {cs : List (Int × Int)} (h : RC W b o cs) (g : Below W.heap.size W W') : RC W' b o cs :=
  ⟨fun j hj => (g.cell (p := ⟨b, _, none⟩) h.lt).trans (h.c0 j hj), fun j hj => (g.cell (p := ⟨b, _, none⟩) h.lt).trans (h.c1 j hj), Nat.lt_of_lt_of_le h.lt g.size⟩
/-- Both Tosses tell the same. -/
theorem toss_both (m l o1 o2 o3 a1 a2 a3 : Int) (hm : 0 ≤ m) (hl : -9223372036854775808 ≤ l ∧ l ≤ 9223372036854775807) : ∃ (x e : Int) (c : Bool), (∀ w, Calls Tryd.prog 8 #[cv m l, rv o1 o2 o3, rv a1 a2 a3] w fun r w' => r = .returned (.tuple #[.int .i64 x, .bool c, .int .i64 e]) ∧ Below w.heap.size w w') ∧ ∀ w, Tab w → Calls Tryd.prog 9 #[cv m l, rv o1 o2 o3, rv a1 a2 a3] w fun r w' => r = .returned (.tuple #[.int .i64 x, .bool c, .int .i64 e]) ∧ Below w.heap.size w w' := by
  by_cases hc : isCoin m l
  · obtain ⟨⟨h0, h16⟩, h2⟩ := hc
    obtain ⟨n, rfl⟩ := Int.eq_ofNat_of_zero_le h0
    rw [Int.toNat_natCast] at h2
    by_cases hf : flt n o1 o2 o3 a1 a2 a3 = 0
    · exact ⟨_, _, _, fun w => rtoss_ok m n o1 o2 o3 a1 a2 a3 w ⟨hm, h2⟩ (by omega) hf, fun w hT => toss_ok m n o1 o2 o3 a1 a2 a3 w hT ⟨hm, h2⟩ (by omega) hf⟩
    · exact ⟨_, _, _, fun w => rtoss_bad m n o1 o2 o3 a1 a2 a3 w ⟨hm, h2⟩ (by omega) hf, fun w _ => toss_bad m n o1 o2 o3 a1 a2 a3 w ⟨hm, h2⟩ (by omega) hf⟩
  · exact ⟨_, _, _, fun w => rtoss_no m l o1 o2 o3 a1 a2 a3 w hl hc, fun w _ => toss_no m l o1 o2 o3 a1 a2 a3 w hl hc⟩
theorem coin_both (m l : Int) (hl : -9223372036854775808 ≤ l ∧ l ≤ 9223372036854775807) : ∃ e : Int, (∀ w, Calls Tryd.prog 11 #[cv m l] w fun r w' => r = .returned (.int .i64 e) ∧ Below w.heap.size w w') ∧ ∀ w, Calls Tryd.prog 10 #[cv m l] w fun r w' => r = .returned (.int .i64 e) ∧ Below w.heap.size w w' := by
  by_cases hc : isCoin m l
  · obtain ⟨⟨h0, h16⟩, h2⟩ := hc
    obtain ⟨n, rfl⟩ := Int.eq_ofNat_of_zero_le h0
    rw [Int.toNat_natCast] at h2
    exact ⟨0, fun w => rcoin_yes m n w (by omega) h2, fun w => coin_yes m n w (by omega) h2⟩
  · exact ⟨2, fun w => rcoin_no m l w hl hc, fun w => coin_no m l w hl hc⟩
/-- The coin's box, since V. -/
abbrev T1 (V W : World) (b : Nat) (m l : Int) : Prop := Below V.heap.size V W ∧ W.cell? ⟨b, 0, none⟩ = some (.int .u64 m) ∧ W.cell? ⟨b, 1, none⟩ = some (.int .i64 l)
theorem t1_keep {V W : World} {b : Nat} {m l : Int} (h : BK V b #[.int .u64 m, .int .i64 l] 28) (g : Below V.heap.size V W) : T1 V W b m l := ⟨g, (h.on g).cell 0, (h.on g).cell 1⟩
set_option maxHeartbeats 4000000 in
theorem tosses_any (a : Option Addr) (cp : Nat) (cs : List (Int × Int)) (o1 o2 o3 a1 a2 a3 : Int) (w : World) (hT : Tab w) (hC : CS w a cp cs) :
    Calls Tryd.prog 3 #[.slice a cs.length cp, rv o1 o2 o3, rv a1 a2 a3] w fun x w' => x = .returned (.bool true) ∧ Below w.heap.size w w' := by
  have AW := fun w h => awake_any w h
  have HT : Hid (∀ w', Below w.heap.size w w' → Tab w') := fun w' h => hT.below h
  have HC := hid hC
  have hlen := hC.len
  clear hT hC
  go_enter Tryd.func3, Tryd.ntmps3
  go_wp2_with (go_at_call 7; (with_reducible refine (AW _ (HT.out _ (bal (bal (Below.refl _ _) _) _))).mono ?_); rintro x w1 ⟨rfl, hB⟩; have HS : Hid (RB2 w w1 o1 o2 o3 a1 a2 a3) := ⟨btr (bal (bal (Below.refl w.heap.size w) _) _) hB, (two_box hB).1, (two_box hB).2⟩)
  clear hB AW
  go_loopw [19] (fun v19 wr => ∃ k : Nat, k ≤ cs.length ∧ v19 = .int .i64 (k : Nat) ∧ Hid (RB2 w wr o1 o2 o3 a1 a2 a3)) (fun v19 _ => cs.length - (intOf v19).toNat)
  case atStart => exact ⟨0, Nat.zero_le _, rfl, HS⟩
  case round =>
    obtain ⟨k, hk, rfl, hS⟩ := hrel
    clear HS
    by_cases hlt : k < cs.length
    · have hkI : ((k : Nat) : Int) < (cs.length : Nat) := by omega
      obtain ⟨b, o, rfl, r0⟩ := HC.out.at_ k hlt
      have r := r0.below hS.out.below
      have x0 := r.c0 k hlt
      have x1 := r.c1 k hlt
      have x2 := r.lt
      have hcap := HC.out.cap
      obtain ⟨f0, f1, f2, f3⟩ := HC.out.fit k hlt
      generalize hm : cs[k].1 = m at *
      generalize hl : cs[k].2 = l at *
      obtain ⟨x, e, c, R8, R9⟩ := toss_both m l o1 o2 o3 a1 a2 a3 f0 ⟨f2, f3⟩
      obtain ⟨ec, R11, R10⟩ := coin_both m l ⟨f2, f3⟩
      have c0 : ∀ j, wr.cell? ⟨w.heap.size, j, none⟩ = _ := hS.out.b1.cell
      have c1 : ∀ j, wr.cell? ⟨w.heap.size + 1, j, none⟩ = _ := hS.out.b2.cell
      have l0 := hS.out.b1.lt
      have l1 := hS.out.b2.lt
      clear r r0 hm hl
      go_upto_region 8 with (first
        | (go_at_call 8; (with_reducible refine (R8 _).mono ?_); rintro rr w2 ⟨rfl, hB2⟩; have D1 := (hS.out.b1.alloc (.cells #[.int .u64 m, .int .i64 l] 28)).on hB2; have D2 := (hS.out.b2.alloc (.cells #[.int .u64 m, .int .i64 l] 28)).on hB2; have D3 := (bk_new wr #[.int .u64 m, .int .i64 l] 28).on hB2; have d0 : ∀ j, w2.cell? ⟨w.heap.size, j, none⟩ = _ := D1.cell; have d1 : ∀ j, w2.cell? ⟨w.heap.size + 1, j, none⟩ = _ := D2.cell; have d2 : ∀ j, w2.cell? ⟨wr.heap.size, j, none⟩ = _ := D3.cell; have m0 := D1.lt; have m1 := D2.lt; have m2 := D3.lt; clear R8)
        | (go_at_call 9; (with_reducible refine (R9 _ (HT.out _ (btr (bal hS.out.below _) hB2))).mono ?_); rintro rr w3 ⟨rfl, hB3⟩; have E1 := D1.on hB3; have E2 := D2.on hB3; have E3 := D3.on hB3; clear R9))
      have BW := btr (btr (bal hS.out.below _) hB2) hB3
      have RV := Below.refl w3.heap.size w3
      go_region_held3 (fun w' => T1 w3 w' wr.heap.size m l)
        ((refine t1_keep E3 ?_; first | exact below_drew RV | exact btr (And.left (by assumption)) hN))
        (first
          | (go_at_call 10; (with_reducible refine (R10 _).mono ?_); rintro rr w4 ⟨rfl, hN⟩; have hK := btr (And.left (by assumption)) hN)
          | (go_at_call 11; (with_reducible refine (R11 _).mono ?_); rintro rr w5 ⟨rfl, hN⟩; have hK := btr (And.left (by assumption)) hN))
      all_goals
        go_wp2
        have BK5 := btr BW hK
        exact ⟨⟨k + 1, by omega, by simp, ⟨BK5, E1.on hK, E2.on hK⟩⟩, by simp [intOf]; omega⟩
    · obtain rfl : k = cs.length := by omega
      go_wp2
      go_ret
      exact ⟨rfl, hS.out.below⟩
end Go.Proofs.YtcfmhkhfmcmkbaaDoor
namespace Go.Proofs.YtcfmhkhfmcmkbaaDoor
open Go.RowKit Go.Sort

/-- A coin's text. -/
def txt (m n : Nat) : ByteArray := (dec m ++ ⟨#[47]⟩) ++ dec (2 ^ n)
theorem dec_size (u : Nat) (hu : u < 18446744073709551616) : (dec u).size ≤ 20 := by
  have e : (dec u).size = Lib.nDigits u := by simp [ByteArray.size, Lib.decDigits_length]
  rw [e]
  by_cases h : 1 ≤ u
  · have := Lib.numDigits_eq u h hu; split at this <;> omega
  · rw [Lib.nDigits_small (by omega)]; decide
set_option maxHeartbeats 1000000 in
theorem text_yes (m n : Nat) (w : World) (hT : PT w) (hn : n ≤ 16) (hm : m < 2 ^ n) :
    Calls Tryd.prog 15 #[cv (m : Nat) (n : Nat)] w fun e w' => e = .returned (.tuple #[.string (txt m n), .int .i64 0]) ∧ Below w.heap.size w w' := by
  have hp := pow_cases n hn
  have eN : (2 : Int) ^ n = ((2 ^ n : Nat) : Int) := by simp
  have hT6 : 2 ^ n ≤ 65536 := by rw [eN] at hp; omega
  have C := fun w => coin_yes (m : Nat) n w hn (by rw [eN]; omega)
  have K := fun w => coins_any n w hn
  rw [eN] at K
  have F1 := fun w h => fu_any m (by omega) w h
  have F2 := fun w h => fu_any (2 ^ n) (by omega) w h
  have HT : Hid (∀ w', Below w.heap.size w w' → PT w') := fun w' h => pt_below hT h
  have z1 : (dec m).size ≤ 20 := dec_size m (by omega)
  have z2 : (dec (2 ^ n)).size ≤ 20 := dec_size (2 ^ n) (by omega)
  have A1 : ∀ W, (Op.stringOp .add (dec m) ⟨#[47]⟩).run Tryd.prog W = .ok (.string (dec m ++ ⟨#[47]⟩)) W := fun W => run_string_add_sum W _ _ (by have e1 : (⟨#[47]⟩ : ByteArray).size = 1 := rfl; omega)
  have A2 : ∀ W, (Op.stringOp .add (dec m ++ ⟨#[47]⟩) (dec (2 ^ n))).run Tryd.prog W = .ok (.string ((dec m ++ ⟨#[47]⟩) ++ dec (2 ^ n))) W := fun W => run_string_add_sum W _ _ (by have e1 : (⟨#[47]⟩ : ByteArray).size = 1 := rfl; rw [ByteArray.size_append]; omega)
  unfold txt
  clear hT hp eN z1 z2
  generalize dec m = s1 at *
  generalize dec (2 ^ n) = s2 at *
  generalize (s1 ++ ⟨#[47]⟩) = s3 at *
  generalize (s3 ++ s2) = s4 at *
  generalize (2 : Nat) ^ n = N at *
  go_enter Tryd.func15, Tryd.ntmps15
  go_upto_region 4 with (go_at_call 10; (with_reducible refine (C _).mono ?_); rintro e w1 ⟨rfl, hB⟩; have B1 := (bk_new w #[.int .u64 (m : Nat), .int .i64 (n : Nat)] 28).on hB)
  have BW := btr (bal (Below.refl w.heap.size w) _) hB
  have RV := Below.refl w1.heap.size w1
  go_region_held3 (fun w' => T1 w1 w' w.heap.size (m : Nat) (n : Nat))
    ((refine t1_keep B1 ?_; first | exact below_drew RV | exact btr (And.left (by assumption)) hN | exact And.left (by assumption)))
    (first
      | (go_at_call 24; (with_reducible refine (K _).mono ?_); rintro rr w4 ⟨rfl, rfl⟩)
      | (go_at_call 26; (with_reducible refine (F1 _ (HT.out _ (by first | exact below_drew BW | exact btr BW (And.left (by assumption)) ))).mono ?_); rintro rr w4 ⟨rfl, hN⟩; have hK := btr (And.left (by assumption)) hN)
      | (go_at_call 26; (with_reducible refine (F2 _ (HT.out _ (by first | exact below_drew BW | exact btr BW (And.left (by assumption))))).mono ?_); rintro rr w5 ⟨rfl, hN⟩; have hK := btr (And.left (by assumption)) hN))
  all_goals
    go_wp2
    refine bodyPost_ret ?_ rfl ⟨rfl, btr BW hK⟩
    simp [results, Tryd.results15, go_sem]
theorem text_no (m l : Int) (w : World) (hl : -9223372036854775808 ≤ l ∧ l ≤ 9223372036854775807) (h : ¬ isCoin m l) :
    Calls Tryd.prog 15 #[cv m l] w fun e w' => e = .returned (.tuple #[.string ⟨#[]⟩, .int .i64 2]) ∧ Below w.heap.size w w' := by
  have C := fun w => coin_no m l w hl h
  clear h
  go_enter Tryd.func15, Tryd.ntmps15
  go_wp2_with (go_at_call 10; (with_reducible refine (C _).mono ?_); rintro e w1 ⟨rfl, hB⟩)
  refine bodyPost_ret ?_ rfl ⟨rfl, btr (bal (Below.refl w.heap.size w) _) hB⟩
  simp [results, Tryd.results15, go_sem]
theorem dec_small (u : Nat) (h : u < 10) : Lib.decDigits u = [UInt8.ofNat (48 + u)] := by
  rw [Lib.decDigits, dif_pos h]
theorem dec_big (u : Nat) (h : ¬ u < 10) : Lib.decDigits u = Lib.decDigits (u / 10) ++ [UInt8.ofNat (48 + u % 10)] := by
  rw [Lib.decDigits, dif_neg h]
theorem bytes_app (a b : List UInt8) : (⟨a.toArray⟩ : ByteArray) ++ ⟨b.toArray⟩ = ⟨(a ++ b).toArray⟩ := by
  apply ByteArray.ext
  simp
theorem conv_one (u : World) (g : Nat) (b : UInt8) (x : Int) (hb : (b.toNat : Int) = x) (hc : u.cell? ⟨g, 0, none⟩ = some (.int .u8 x)) : (convert 81 9 (.slice (some ⟨g, 0, none⟩) 1 1)).run Tryd.prog u = .ok (.string ⟨#[b]⟩) u := by
  have := run_convert_bytes_back (P := Tryd.prog) u 81 9 5 ⟨g, 0, none⟩ 1 [b] Tryd.underlying81 Tryd.underlying5 Tryd.underlying9 (fun j hj => by
    have : j = 0 := by simpa using hj
    subst this
    simp only [List.getElem_cons_zero, hb]
    exact hc)
  simpa only [List.length_singleton] using this
set_option maxRecDepth 20000 in
set_option maxHeartbeats 1000000 in
theorem decimal_digit (u : Nat) (b : UInt8) (w : World) (h : u < 10) (hb : (b.toNat : Int) = 48 + (u : Int)) :
    Calls Tryd.prog 25 #[.int .u64 u] w fun e w' => e = .returned (.string ⟨#[b]⟩) ∧ Below w.heap.size w w' := by
  have wr : IntKind.u8.wrap (48 + (u : Int)) = 48 + (u : Int) := by simp [IntKind.wrap, IntKind.signed, IntKind.bits]; omega
  have CV' := conv_one (w.alloc (.cells #[.int .u8 (48 + (u : Int))] 5)) w.heap.size b (48 + (u : Int)) hb (World.cell?_alloc_at _ _ _ _ rfl)
  clear hb
  go_enter Tryd.func25, Tryd.ntmps25
  go_wp2
  go_ret
  exact ⟨rfl, bal (Below.refl _ _) _⟩
theorem decimal_small (u : Nat) (w : World) (h : u < 10) :
    Calls Tryd.prog 25 #[.int .u64 u] w fun e w' => e = .returned (.string ⟨#[UInt8.ofNat (48 + u)]⟩) ∧ Below w.heap.size w w' :=
  decimal_digit u _ w h (by
    have : (UInt8.ofNat (48 + u)).toNat = (48 + u) % 256 := by simp
    omega)
set_option maxRecDepth 20000 in
set_option maxHeartbeats 2000000 in
theorem decimal_nat : ∀ (n u : Nat) (w : World), u ≤ n → u ≤ 65536 →
    Calls Tryd.prog 25 #[.int .u64 u] w fun e w' => e = .returned (.string (dec u)) ∧ Below w.heap.size w w'
  | n, u, w, hn, hu => by
    by_cases h : u < 10
    · unfold dec
      rw [dec_small u h]
      exact decimal_small u w h
    · obtain ⟨m, rfl⟩ : ∃ m, n = m + 1 := ⟨n - 1, by omega⟩
      have IH := fun w => decimal_nat m (u / 10) w (by omega) (by omega)
      have hl := dec_size (u / 10) (by omega)
      have h10 : ¬ (u : Int) < 10 := by omega
      unfold dec at *
      rw [dec_big u h, ← bytes_app]
      have A1 : ∀ W, (Op.stringOp .add (dec (u / 10)) ⟨#[UInt8.ofNat (48 + u % 10)]⟩).run Tryd.prog W = .ok (.string (dec (u / 10) ++ ⟨#[UInt8.ofNat (48 + u % 10)]⟩)) W := fun W => run_string_add_sum W _ _ (by have e1 : (⟨#[UInt8.ofNat (48 + u % 10)]⟩ : ByteArray).size = 1 := rfl; unfold dec; omega)
      unfold dec at A1
      have e5 : (u : Int) / 10 = ((u / 10 : Nat) : Int) := by omega
      have e6 : (u : Int).tmod 10 = ((u % 10 : Nat) : Int) := by rw [Int.tmod_eq_emod_of_nonneg (by omega)]; omega
      have e8 : IntKind.u64.wrap ((u / 10 : Nat) : Int) = ((u / 10 : Nat) : Int) := by simp [IntKind.wrap, IntKind.signed, IntKind.bits]; omega
      have e7 : IntKind.u64.wrap (48 + ((u % 10 : Nat) : Int)) = 48 + ((u % 10 : Nat) : Int) := by simp [IntKind.wrap, IntKind.signed, IntKind.bits]; omega
      have hm : u % 10 < 10 := Nat.mod_lt _ (by decide)
      have wr : IntKind.u8.wrap (48 + ((u % 10 : Nat) : Int)) = 48 + ((u % 10 : Nat) : Int) := by simp [IntKind.wrap, IntKind.signed, IntKind.bits]; omega
      clear hn hl h
      have CV := fun (v : World) (g : Nat) (hc : v.cell? ⟨g, 0, none⟩ = some (.int .u8 (48 + ((u % 10 : Nat) : Int)))) => conv_one v g (UInt8.ofNat (48 + u % 10)) (48 + ((u % 10 : Nat) : Int)) (by
        have : (UInt8.ofNat (48 + u % 10)).toNat = (48 + u % 10) % 256 := by simp
        omega) hc
      generalize (⟨(Lib.decDigits (u / 10)).toArray⟩ : ByteArray) = l at *
      generalize UInt8.ofNat (48 + u % 10) = b at *
      generalize (u % 10 : Nat) = m at *
      generalize (u / 10 : Nat) = q at *
      have AL : ∀ {v : World}, Below (w.drew.alloc (.cells #[.int .u8 (48 + (m : Int))] 5)).heap.size (w.drew.alloc (.cells #[.int .u8 (48 + (m : Int))] 5)) v → v.cell? ⟨w.heap.size, 0, none⟩ = some (.int .u8 (48 + (m : Int))) ∧ Below w.heap.size w v := fun {v} h => by
        have b0 : BK (w.drew.alloc (.cells #[.int .u8 (48 + (m : Int))] 5)) w.heap.size _ _ := bk_new w.drew _ _
        have b1 : BK v w.heap.size _ _ := b0.on h
        exact ⟨b1.cell 0, btr (bal (below_drew (Below.refl _ _)) _) h⟩
      go_enter Tryd.func25, Tryd.ntmps25
      go_upto_region 3 with (fail)
      go_region_with (go_at_call 25; (with_reducible refine (IH _).mono ?_); rintro e w1 ⟨rfl, hB⟩; try (have k1 := (AL hB).1))
      all_goals go_wp2
      all_goals go_ret
      all_goals first | exact ⟨rfl, (AL hB).2⟩ | exact ⟨rfl, bal (btr (below_drew (Below.refl _ _)) hB) _⟩
end Go.Proofs.YtcfmhkhfmcmkbaaDoor
