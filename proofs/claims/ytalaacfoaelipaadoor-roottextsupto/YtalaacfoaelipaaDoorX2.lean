/-
  strings.LastIndexAny of the two signs.
-/
import Derived.Test.YtalaacfoaelipaaDoorX1
import Derived.Lib.Builder
import Derived.Deep.WholeRow
import Derived.Lib.TrimU
import Derived.Lib.TrimAscii
namespace Go.Proofs.YtalaacfoaelipaaDoor
open Go.RowKit Go.Sort

def sgn2 (c : Nat) : Prop := c = 43 ∨ c = 45
/-- i is the place of the last sign, or -1. -/
structure LS (b : ByteArray) (i : Int) : Prop where
  lo : -1 ≤ i
  hi : i < b.size
  no : ∀ j : Nat, i < j → j < b.size → ¬ sgn2 (byt b j)
  at0 : 0 ≤ i → sgn2 (byt b i.toNat)
def Asc (b : ByteArray) : Prop := ∀ j, j < b.size → byt b j < 128
theorem tabs_below {w w' : World} (h : Lib.Utf8Tabs 7 8 w) (hb : Below w.heap.size w w') : Lib.Utf8Tabs 7 8 w' := by
  obtain ⟨h1, h2⟩ := h
  have l7 := World.block_lt_of_cell? w _ (h1 0 (by omega))
  have l8 := World.block_lt_of_cell? w _ (h2 0 (by omega)).1
  exact ⟨fun c hc => (hb.cell (p := ⟨7, c, none⟩) l7).trans (h1 c hc), fun i hi => ⟨(hb.cell (p := ⟨8, 2 * i, none⟩) l8).trans (h2 i hi).1, (hb.cell (p := ⟨8, 2 * i + 1, none⟩) l8).trans (h2 i hi).2⟩⟩
theorem Tryd.zc135 : Tryd.zeroCells135 = Array.replicate 256 (.bool false) := by kernel_rfl
theorem Tryd.zero135 : ∀ w, (zeroValue 135).run Tryd.prog w = .ok (.agg (Array.replicate 256 (.bool false))) w := fun w => by
  rw [← Tryd.zc135]
  exact Tryd.zeroValue135 w
theorem Tryd.info135 : (Tryd.prog.info? 135).map (·.size) = some 256 := by kernel_rfl
theorem two_has (x : UInt8) : ([43, 45] : List UInt8).contains x = true ↔ sgn2 x.toNat := by
  unfold sgn2
  simp
  constructor
  · rintro (rfl | rfl)
    · exact .inl rfl
    · exact .inr rfl
  · rintro (h | h)
    · exact .inl (UInt8.toNat_inj.1 h)
    · exact .inr (UInt8.toNat_inj.1 h)
theorem index2 (c : Nat) (h : c < 128) : (Lib.indexByte [43, 45] c.toUInt8 = 0 ∧ c = 43) ∨ (Lib.indexByte [43, 45] c.toUInt8 = 1 ∧ c = 45) ∨ (Lib.indexByte [43, 45] c.toUInt8 = -1 ∧ ¬ sgn2 c) := by
  have key : ∀ c : Fin 128, (Lib.indexByte [43, 45] (c : Nat).toUInt8 = 0 ∧ (c : Nat) = 43) ∨ (Lib.indexByte [43, 45] (c : Nat).toUInt8 = 1 ∧ (c : Nat) = 45) ∨ (Lib.indexByte [43, 45] (c : Nat).toUInt8 = -1 ∧ ¬ ((c : Nat) = 43 ∨ (c : Nat) = 45)) := by decide
  exact key ⟨c, h⟩
/-- IndexRune of the two signs, whatever is decoded. -/
theorem rune_any (r : Nat) (w : World) (h2 : r ≤ 1114111) : Calls Tryd.prog 98 #[.string ⟨#[43, 45]⟩, .int .i32 (r : Int)] w fun e w' => (∃ i : Int, e = .returned (.int .i64 i) ∧ (r < 128 → (0 ≤ i ↔ sgn2 r))) ∧ Below w.heap.size w w' := by
  by_cases h : r < 128
  · refine (Tryd.strings_IndexRune_ascii ⟨#[43, 45]⟩ (r : Int) w (by omega) (by omega)).mono fun e w' ⟨he, hw⟩ => ⟨⟨_, he, fun _ => ?_⟩, by rw [hw]; exact Below.refl _ _⟩
    show 0 ≤ Lib.indexByte [43, 45] ((r : Int).toNat).toUInt8 ↔ _
    rw [Int.toNat_natCast]
    rcases index2 r h with ⟨e, rfl⟩ | ⟨e, rfl⟩ | ⟨e, hn⟩
    · rw [e]; exact ⟨fun _ => .inl rfl, fun _ => by decide⟩
    · rw [e]; exact ⟨fun _ => .inr rfl, fun _ => by decide⟩
    · rw [e]; exact ⟨fun g => absurd g (by decide), fun g => absurd g hn⟩
  · by_cases h3 : r = 65533
    · subst h3
      exact (rune_err w).mono fun e w' ⟨he, hw⟩ => ⟨⟨_, he, fun g => absurd g h⟩, hw⟩
    · exact (rune_big r w (by omega) h2 h3).mono fun e w' ⟨⟨i, he, _⟩, hw⟩ => ⟨⟨i, he, fun g => absurd g h⟩, hw⟩

set_option maxHeartbeats 4000000 in
set_option maxRecDepth 1000000 in
theorem last_long (s : ByteArray) (w : World) (h8 : 8 < s.size) (hs : s.size ≤ 4294967280) :
    Calls Tryd.prog 88 #[.string s, .string ⟨#[43, 45]⟩] w fun e w' => (∃ i : Int, e = .returned (.int .i64 i) ∧ LS s i) ∧ Below w.heap.size w w' := by
  have hM := Tryd.strings_makeASCIISet Tryd.zero135 ⟨#[43, 45]⟩ w (by decide) (fun j b hj => by
    match j, hj with
    | 0, hj => injection hj with hj; subst hj; decide
    | 1, hj => injection hj with hj; subst hj; decide)
  have h8z : decide ((8 : Int) < (s.size : Int)) = true := decide_eq_true (by omega)
  have h1z : ((s.size : Int) == 1) = false := beq_false_of_ne (by omega)
  have hsc : (storeCells ⟨w.heap.size + 1, 0, none⟩ (Lib.setCells [43, 45]).toList 0).run Tryd.prog ((w.alloc (.cells (Lib.setCells [43, 45]) 135)).alloc (.cells Tryd.zeroCells135 135)) = .ok () ((w.alloc (.cells (Lib.setCells [43, 45]) 135)).alloc (.cells (Lib.setCells [43, 45]) 135)) := by
    rw [Tryd.zc135]
    have := run_storeCells_new (P := Tryd.prog) (w.alloc (.cells (Lib.setCells [43, 45]) 135)) 135 (Array.replicate 256 (.bool false)) (Lib.setCells [43, 45]) (by rw [Lib.setCells_size]; exact Tryd.info135) (by rw [Lib.setCells_size, Array.size_replicate]) (Lib.setCells_one _)
    simpa using this
  have HC : Hid (∀ x : UInt8, ((w.alloc (.cells (Lib.setCells [43, 45]) 135)).alloc (.cells (Lib.setCells [43, 45]) 135)).cell? ⟨w.heap.size + 1, x.toNat, none⟩ = some (.bool (([43, 45] : List UInt8).contains x))) := fun x => by
    rw [World.cell?_alloc_at _ _ _ _ (by simp), Lib.setCells_at]
  have hM2 : Calls Tryd.prog 100 #[.string ⟨#[43, 45]⟩] w fun e w' => e = .returned (.tuple #[.agg (Lib.setCells [43, 45]), .bool true]) ∧ w' = w.alloc (.cells (Lib.setCells [43, 45]) 135) := hM
  clear hM
  have SU : ∀ w, Calls Tryd.prog 99 #[.int .i64 (s.size : Int)] w fun e w' => e = .returned (.bool true) ∧ w' = w := fun w => by
    go_enter Tryd.func99, Tryd.ntmps99
    go_wp2
    go_ret
    exact ⟨rfl, rfl⟩
  have hsz := Lib.setCells_size [43, 45]
  generalize Lib.setCells [43, 45] = sc at *
  go_enter Tryd.func88, Tryd.ntmps88
  go_wp2_with (first
    | (go_at_call 99; (with_reducible refine (SU _).mono ?_); rintro e w1 ⟨rfl, rfl⟩)
    | (go_at_call 100; (with_reducible refine hM2.mono ?_); rintro e w1 ⟨rfl, rfl⟩))
  have hW2 : Below w1.heap.size w1 ((w1.alloc (.cells sc 135)).alloc (.cells sc 135)) := bal (bal (Below.refl _ _) _) _
  clear hM2 hsc SU
  generalize (w1.alloc (.cells sc 135)).alloc (.cells sc 135) = W2 at *
  generalize w1.heap.size + 1 = B at *
  go_loopg [8] s.size (fun g v wr => wr = W2 ∧ ∃ n : Nat, n ≤ s.size ∧ g = n ∧ v = .int .i64 ((n : Int) - 1) ∧ Hid (∀ j, n ≤ j → j < s.size → ¬ sgn2 (byt s j)))
  case atStart => exact ⟨rfl, s.size, Nat.le_refl _, rfl, rfl, fun j h1 h2 => absurd h2 (by omega)⟩
  case round =>
    obtain ⟨rfl, n, hn, hgn, rfl, hno⟩ := hrel
    have HG : Hid (gk = n) := hgn
    clear hgn
    by_cases h0 : n = 0
    · have g0 : ¬ (0 : Int) ≤ (n : Int) - 1 := by omega
      have HN : Hid (LS s (-1)) := ⟨by omega, by omega, fun j _ h2 => hno.out j (by omega) h2, fun g => absurd g (by decide)⟩
      clear h0
      go_wp2
      go_ret
      exact ⟨⟨-1, rfl, HN.out⟩, hW2⟩
    · obtain ⟨m, rfl⟩ : ∃ m, n = m + 1 := ⟨n - 1, by omega⟩
      have hm : m < s.size := by omega
      have e1 : ((m + 1 : Nat) : Int) - 1 = (m : Int) := by omega
      rw [e1]
      have hx := HC.out s[m]
      have hb := byt_at s m hm
      cases hin : ([43, 45] : List UInt8).contains s[m] with
      | true =>
        rw [hin] at hx
        have HN : Hid (LS s (m : Int)) := ⟨by omega, by omega, fun j h1 h2 => hno.out j (by omega) h2, fun _ => by rw [Int.toNat_natCast, ← hb]; exact (two_has _).1 hin⟩
        have CT := Tryd.asciiSet_contains B s[m] true wr hx
        clear hin hx hb
        go_wp2_with (go_at_call 101; (with_reducible refine CT.mono ?_); rintro e w5 ⟨rfl, rfl⟩)
        go_ret
        exact ⟨⟨m, rfl, HN.out⟩, hW2⟩
      | false =>
        rw [hin] at hx
        have HN : Hid (∀ j, m ≤ j → j < s.size → ¬ sgn2 (byt s j)) := fun j h1 h2 => by
          by_cases e : j = m
          · subst e
            rw [← hb]
            intro g
            rw [(two_has _).2 g] at hin
            cases hin
          · exact hno.out j (by omega) h2
        have CT := Tryd.asciiSet_contains B s[m] false wr hx
        clear hin hx hb
        go_wp2_with (go_at_call 101; (with_reducible refine CT.mono ?_); rintro e w5 ⟨rfl, rfl⟩)
        go_roundg m
        case measure => have := HG.out; omega
        case rel => exact ⟨rfl, m, by omega, rfl, by go_num, HN⟩
end Go.Proofs.YtalaacfoaelipaaDoor
