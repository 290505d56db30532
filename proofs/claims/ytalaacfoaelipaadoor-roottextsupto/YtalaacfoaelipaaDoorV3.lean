/-
  What the code's Text tells, way by way.
-/
import Derived.Test.YtalaacfoaelipaaDoorV1
import Derived.Test.YtalaacfoaelipaaDoorR4
namespace Go.Proofs.YtalaacfoaelipaaDoor
open Go.RowKit Go.Sort

set_option maxRecDepth 20000 in
set_option maxHeartbeats 1000000 in
theorem ctext_A10 (p q k : Int) (lp lq lk : List UInt8) (R : ByteArray) (w : World) (hT : Tab w) (hp : ¬ p = 0) (hq : q = 0) (hk : k = 0) (hn : lp.length ≤ 21 ∧ lq.length ≤ 21 ∧ lk.length ≤ 21 ∧ lp.isEmpty = false) (hR : (⟨lp.toArray⟩ : ByteArray) = R)
    (C : ∀ w, Calls Tryd.prog 12 #[.agg #[.int .i64 p, .int .i64 q, .int .i64 k]] w fun e w' => e = .returned (.int .i64 0) ∧ Below w.heap.size w w')
    (D1 : ∀ w, Tab w → Calls Tryd.prog 52 #[.int .i64 p, .int .i64 10] w fun e w' => e = .returned (.string ⟨lp.toArray⟩) ∧ Below w.heap.size w w') (D2 : ∀ w, Tab w → Calls Tryd.prog 52 #[.int .i64 q, .int .i64 10] w fun e w' => e = .returned (.string ⟨lq.toArray⟩) ∧ Below w.heap.size w w') (D3 : ∀ w, Tab w → Calls Tryd.prog 53 #[.int .i64 k] w fun e w' => e = .returned (.string ⟨lk.toArray⟩) ∧ Below w.heap.size w w') :
    Calls Tryd.prog 27 #[rv p q k] w fun e w' => e = .returned (.tuple #[.string R, .int .i64 0]) ∧ Below w.heap.size w w' := by
  have HR : Hid ((⟨lp.toArray⟩ : ByteArray) = R) := hR
  clear hR
  obtain ⟨n1, n2, n3, ne⟩ := hn
  try subst hp
  try subst hq
  try subst hk
  have HT : ∀ o, Tab (w.alloc o) := fun o => hT.alloc o
  go_enter Tryd.func27, Tryd.ntmps27
  go_wp2_with (first
    | (go_at_call 12; (with_reducible refine (C _).mono ?_); rintro e w1 ⟨rfl, hB⟩; obtain ⟨hc, hf⟩ := bcell hB)
    | (go_at_call 52; (with_reducible refine (D1 _ ((HT _).below hB)).mono ?_); rintro e w2 ⟨rfl, hN⟩; replace hB := btr hB hN; obtain ⟨hc, hf⟩ := bcell hB)
    | (go_at_call 52; (with_reducible refine (D2 _ ((HT _).below hB)).mono ?_); rintro e w2 ⟨rfl, hN⟩; replace hB := btr hB hN; obtain ⟨hc, hf⟩ := bcell hB)
    | (go_at_call 53; (with_reducible refine (D3 _ ((HT _).below hB)).mono ?_); rintro e w2 ⟨rfl, hN⟩; replace hB := btr hB hN; obtain ⟨hc, hf⟩ := bcell hB))
  go_ret2
  exact ⟨by rw [← HR.out]; rfl, btr (bal (Below.refl _ _) _) hB⟩
set_option maxRecDepth 20000 in
set_option maxHeartbeats 1000000 in
theorem ctext_A11 (p q k : Int) (lp lq lk : List UInt8) (R : ByteArray) (w : World) (hT : Tab w) (hp : ¬ p = 0) (hq : q = 0) (hk : ¬ k = 0) (hn : lp.length ≤ 21 ∧ lq.length ≤ 21 ∧ lk.length ≤ 21 ∧ lp.isEmpty = false) (hR : ((⟨lp.toArray⟩ : ByteArray)) ++ ((⟨#[47, 50, 94]⟩ : ByteArray) ++ (⟨lk.toArray⟩ : ByteArray)) = R)
    (C : ∀ w, Calls Tryd.prog 12 #[.agg #[.int .i64 p, .int .i64 q, .int .i64 k]] w fun e w' => e = .returned (.int .i64 0) ∧ Below w.heap.size w w')
    (D1 : ∀ w, Tab w → Calls Tryd.prog 52 #[.int .i64 p, .int .i64 10] w fun e w' => e = .returned (.string ⟨lp.toArray⟩) ∧ Below w.heap.size w w') (D2 : ∀ w, Tab w → Calls Tryd.prog 52 #[.int .i64 q, .int .i64 10] w fun e w' => e = .returned (.string ⟨lq.toArray⟩) ∧ Below w.heap.size w w') (D3 : ∀ w, Tab w → Calls Tryd.prog 53 #[.int .i64 k] w fun e w' => e = .returned (.string ⟨lk.toArray⟩) ∧ Below w.heap.size w w') :
    Calls Tryd.prog 27 #[rv p q k] w fun e w' => e = .returned (.tuple #[.string R, .int .i64 0]) ∧ Below w.heap.size w w' := by
  have HR : Hid (((⟨lp.toArray⟩ : ByteArray)) ++ ((⟨#[47, 50, 94]⟩ : ByteArray) ++ (⟨lk.toArray⟩ : ByteArray)) = R) := hR
  clear hR
  obtain ⟨n1, n2, n3, ne⟩ := hn
  try subst hp
  try subst hq
  try subst hk
  have HT : ∀ o, Tab (w.alloc o) := fun o => hT.alloc o
  go_enter Tryd.func27, Tryd.ntmps27
  go_wp2_with (first
    | (go_at_call 12; (with_reducible refine (C _).mono ?_); rintro e w1 ⟨rfl, hB⟩; obtain ⟨hc, hf⟩ := bcell hB)
    | (go_at_call 52; (with_reducible refine (D1 _ ((HT _).below hB)).mono ?_); rintro e w2 ⟨rfl, hN⟩; replace hB := btr hB hN; obtain ⟨hc, hf⟩ := bcell hB)
    | (go_at_call 52; (with_reducible refine (D2 _ ((HT _).below hB)).mono ?_); rintro e w2 ⟨rfl, hN⟩; replace hB := btr hB hN; obtain ⟨hc, hf⟩ := bcell hB)
    | (go_at_call 53; (with_reducible refine (D3 _ ((HT _).below hB)).mono ?_); rintro e w2 ⟨rfl, hN⟩; replace hB := btr hB hN; obtain ⟨hc, hf⟩ := bcell hB))
  go_ret2
  exact ⟨by rw [← HR.out]; rfl, btr (bal (Below.refl _ _) _) hB⟩
set_option maxRecDepth 20000 in
set_option maxHeartbeats 1000000 in
theorem ctext_A20 (p q k : Int) (lp lq lk : List UInt8) (R : ByteArray) (w : World) (hT : Tab w) (hp : p = 0) (hq : q = 0) (hk : k = 0) (hn : lp.length ≤ 21 ∧ lq.length ≤ 21 ∧ lk.length ≤ 21 ∧ lp.isEmpty = false) (hR : (⟨lp.toArray⟩ : ByteArray) = R)
    (C : ∀ w, Calls Tryd.prog 12 #[.agg #[.int .i64 p, .int .i64 q, .int .i64 k]] w fun e w' => e = .returned (.int .i64 0) ∧ Below w.heap.size w w')
    (D1 : ∀ w, Tab w → Calls Tryd.prog 52 #[.int .i64 p, .int .i64 10] w fun e w' => e = .returned (.string ⟨lp.toArray⟩) ∧ Below w.heap.size w w') (D2 : ∀ w, Tab w → Calls Tryd.prog 52 #[.int .i64 q, .int .i64 10] w fun e w' => e = .returned (.string ⟨lq.toArray⟩) ∧ Below w.heap.size w w') (D3 : ∀ w, Tab w → Calls Tryd.prog 53 #[.int .i64 k] w fun e w' => e = .returned (.string ⟨lk.toArray⟩) ∧ Below w.heap.size w w') :
    Calls Tryd.prog 27 #[rv p q k] w fun e w' => e = .returned (.tuple #[.string R, .int .i64 0]) ∧ Below w.heap.size w w' := by
  have HR : Hid ((⟨lp.toArray⟩ : ByteArray) = R) := hR
  clear hR
  obtain ⟨n1, n2, n3, ne⟩ := hn
  try subst hp
  try subst hq
  try subst hk
  have HT : ∀ o, Tab (w.alloc o) := fun o => hT.alloc o
  go_enter Tryd.func27, Tryd.ntmps27
  go_wp2_with (first
    | (go_at_call 12; (with_reducible refine (C _).mono ?_); rintro e w1 ⟨rfl, hB⟩; obtain ⟨hc, hf⟩ := bcell hB)
    | (go_at_call 52; (with_reducible refine (D1 _ ((HT _).below hB)).mono ?_); rintro e w2 ⟨rfl, hN⟩; replace hB := btr hB hN; obtain ⟨hc, hf⟩ := bcell hB)
    | (go_at_call 52; (with_reducible refine (D2 _ ((HT _).below hB)).mono ?_); rintro e w2 ⟨rfl, hN⟩; replace hB := btr hB hN; obtain ⟨hc, hf⟩ := bcell hB)
    | (go_at_call 53; (with_reducible refine (D3 _ ((HT _).below hB)).mono ?_); rintro e w2 ⟨rfl, hN⟩; replace hB := btr hB hN; obtain ⟨hc, hf⟩ := bcell hB))
  go_ret2
  exact ⟨by rw [← HR.out]; rfl, btr (bal (Below.refl _ _) _) hB⟩
set_option maxRecDepth 20000 in
set_option maxHeartbeats 1000000 in
theorem ctext_A21 (p q k : Int) (lp lq lk : List UInt8) (R : ByteArray) (w : World) (hT : Tab w) (hp : p = 0) (hq : q = 0) (hk : ¬ k = 0) (hn : lp.length ≤ 21 ∧ lq.length ≤ 21 ∧ lk.length ≤ 21 ∧ lp.isEmpty = false) (hR : ((⟨lp.toArray⟩ : ByteArray)) ++ ((⟨#[47, 50, 94]⟩ : ByteArray) ++ (⟨lk.toArray⟩ : ByteArray)) = R)
    (C : ∀ w, Calls Tryd.prog 12 #[.agg #[.int .i64 p, .int .i64 q, .int .i64 k]] w fun e w' => e = .returned (.int .i64 0) ∧ Below w.heap.size w w')
    (D1 : ∀ w, Tab w → Calls Tryd.prog 52 #[.int .i64 p, .int .i64 10] w fun e w' => e = .returned (.string ⟨lp.toArray⟩) ∧ Below w.heap.size w w') (D2 : ∀ w, Tab w → Calls Tryd.prog 52 #[.int .i64 q, .int .i64 10] w fun e w' => e = .returned (.string ⟨lq.toArray⟩) ∧ Below w.heap.size w w') (D3 : ∀ w, Tab w → Calls Tryd.prog 53 #[.int .i64 k] w fun e w' => e = .returned (.string ⟨lk.toArray⟩) ∧ Below w.heap.size w w') :
    Calls Tryd.prog 27 #[rv p q k] w fun e w' => e = .returned (.tuple #[.string R, .int .i64 0]) ∧ Below w.heap.size w w' := by
  have HR : Hid (((⟨lp.toArray⟩ : ByteArray)) ++ ((⟨#[47, 50, 94]⟩ : ByteArray) ++ (⟨lk.toArray⟩ : ByteArray)) = R) := hR
  clear hR
  obtain ⟨n1, n2, n3, ne⟩ := hn
  try subst hp
  try subst hq
  try subst hk
  have HT : ∀ o, Tab (w.alloc o) := fun o => hT.alloc o
  go_enter Tryd.func27, Tryd.ntmps27
  go_wp2_with (first
    | (go_at_call 12; (with_reducible refine (C _).mono ?_); rintro e w1 ⟨rfl, hB⟩; obtain ⟨hc, hf⟩ := bcell hB)
    | (go_at_call 52; (with_reducible refine (D1 _ ((HT _).below hB)).mono ?_); rintro e w2 ⟨rfl, hN⟩; replace hB := btr hB hN; obtain ⟨hc, hf⟩ := bcell hB)
    | (go_at_call 52; (with_reducible refine (D2 _ ((HT _).below hB)).mono ?_); rintro e w2 ⟨rfl, hN⟩; replace hB := btr hB hN; obtain ⟨hc, hf⟩ := bcell hB)
    | (go_at_call 53; (with_reducible refine (D3 _ ((HT _).below hB)).mono ?_); rintro e w2 ⟨rfl, hN⟩; replace hB := btr hB hN; obtain ⟨hc, hf⟩ := bcell hB))
  go_ret2
  exact ⟨by rw [← HR.out]; rfl, btr (bal (Below.refl _ _) _) hB⟩
set_option maxRecDepth 20000 in
set_option maxHeartbeats 1000000 in
theorem ctext_B10 (p q k : Int) (lp lq lk : List UInt8) (R : ByteArray) (w : World) (hT : Tab w) (hp : p = 0) (hq : 0 < q) (hk : k = 0) (hn : lp.length ≤ 21 ∧ lq.length ≤ 21 ∧ lk.length ≤ 21 ∧ lp.isEmpty = false) (hR : (⟨#[]⟩ : ByteArray) ++ ((⟨lq.toArray⟩ : ByteArray) ++ (⟨#[114]⟩ : ByteArray)) = R)
    (C : ∀ w, Calls Tryd.prog 12 #[.agg #[.int .i64 p, .int .i64 q, .int .i64 k]] w fun e w' => e = .returned (.int .i64 0) ∧ Below w.heap.size w w')
    (D1 : ∀ w, Tab w → Calls Tryd.prog 52 #[.int .i64 p, .int .i64 10] w fun e w' => e = .returned (.string ⟨lp.toArray⟩) ∧ Below w.heap.size w w') (D2 : ∀ w, Tab w → Calls Tryd.prog 52 #[.int .i64 q, .int .i64 10] w fun e w' => e = .returned (.string ⟨lq.toArray⟩) ∧ Below w.heap.size w w') (D3 : ∀ w, Tab w → Calls Tryd.prog 53 #[.int .i64 k] w fun e w' => e = .returned (.string ⟨lk.toArray⟩) ∧ Below w.heap.size w w') :
    Calls Tryd.prog 27 #[rv p q k] w fun e w' => e = .returned (.tuple #[.string R, .int .i64 0]) ∧ Below w.heap.size w w' := by
  have HR : Hid ((⟨#[]⟩ : ByteArray) ++ ((⟨lq.toArray⟩ : ByteArray) ++ (⟨#[114]⟩ : ByteArray)) = R) := hR
  clear hR
  obtain ⟨n1, n2, n3, ne⟩ := hn
  try subst hp
  try subst hq
  try subst hk
  have HT : ∀ o, Tab (w.alloc o) := fun o => hT.alloc o
  go_enter Tryd.func27, Tryd.ntmps27
  go_wp2_with (first
    | (go_at_call 12; (with_reducible refine (C _).mono ?_); rintro e w1 ⟨rfl, hB⟩; obtain ⟨hc, hf⟩ := bcell hB)
    | (go_at_call 52; (with_reducible refine (D1 _ ((HT _).below hB)).mono ?_); rintro e w2 ⟨rfl, hN⟩; replace hB := btr hB hN; obtain ⟨hc, hf⟩ := bcell hB)
    | (go_at_call 52; (with_reducible refine (D2 _ ((HT _).below hB)).mono ?_); rintro e w2 ⟨rfl, hN⟩; replace hB := btr hB hN; obtain ⟨hc, hf⟩ := bcell hB)
    | (go_at_call 53; (with_reducible refine (D3 _ ((HT _).below hB)).mono ?_); rintro e w2 ⟨rfl, hN⟩; replace hB := btr hB hN; obtain ⟨hc, hf⟩ := bcell hB))
  go_ret2
  exact ⟨by rw [← HR.out]; rfl, btr (bal (Below.refl _ _) _) hB⟩
set_option maxRecDepth 20000 in
set_option maxHeartbeats 1000000 in
theorem ctext_B11 (p q k : Int) (lp lq lk : List UInt8) (R : ByteArray) (w : World) (hT : Tab w) (hp : p = 0) (hq : 0 < q) (hk : ¬ k = 0) (hn : lp.length ≤ 21 ∧ lq.length ≤ 21 ∧ lk.length ≤ 21 ∧ lp.isEmpty = false) (hR : ((⟨#[]⟩ : ByteArray) ++ ((⟨lq.toArray⟩ : ByteArray) ++ (⟨#[114]⟩ : ByteArray))) ++ ((⟨#[47, 50, 94]⟩ : ByteArray) ++ (⟨lk.toArray⟩ : ByteArray)) = R)
    (C : ∀ w, Calls Tryd.prog 12 #[.agg #[.int .i64 p, .int .i64 q, .int .i64 k]] w fun e w' => e = .returned (.int .i64 0) ∧ Below w.heap.size w w')
    (D1 : ∀ w, Tab w → Calls Tryd.prog 52 #[.int .i64 p, .int .i64 10] w fun e w' => e = .returned (.string ⟨lp.toArray⟩) ∧ Below w.heap.size w w') (D2 : ∀ w, Tab w → Calls Tryd.prog 52 #[.int .i64 q, .int .i64 10] w fun e w' => e = .returned (.string ⟨lq.toArray⟩) ∧ Below w.heap.size w w') (D3 : ∀ w, Tab w → Calls Tryd.prog 53 #[.int .i64 k] w fun e w' => e = .returned (.string ⟨lk.toArray⟩) ∧ Below w.heap.size w w') :
    Calls Tryd.prog 27 #[rv p q k] w fun e w' => e = .returned (.tuple #[.string R, .int .i64 0]) ∧ Below w.heap.size w w' := by
  have HR : Hid (((⟨#[]⟩ : ByteArray) ++ ((⟨lq.toArray⟩ : ByteArray) ++ (⟨#[114]⟩ : ByteArray))) ++ ((⟨#[47, 50, 94]⟩ : ByteArray) ++ (⟨lk.toArray⟩ : ByteArray)) = R) := hR
  clear hR
  obtain ⟨n1, n2, n3, ne⟩ := hn
  try subst hp
  try subst hq
  try subst hk
  have HT : ∀ o, Tab (w.alloc o) := fun o => hT.alloc o
  go_enter Tryd.func27, Tryd.ntmps27
  go_wp2_with (first
    | (go_at_call 12; (with_reducible refine (C _).mono ?_); rintro e w1 ⟨rfl, hB⟩; obtain ⟨hc, hf⟩ := bcell hB)
    | (go_at_call 52; (with_reducible refine (D1 _ ((HT _).below hB)).mono ?_); rintro e w2 ⟨rfl, hN⟩; replace hB := btr hB hN; obtain ⟨hc, hf⟩ := bcell hB)
    | (go_at_call 52; (with_reducible refine (D2 _ ((HT _).below hB)).mono ?_); rintro e w2 ⟨rfl, hN⟩; replace hB := btr hB hN; obtain ⟨hc, hf⟩ := bcell hB)
    | (go_at_call 53; (with_reducible refine (D3 _ ((HT _).below hB)).mono ?_); rintro e w2 ⟨rfl, hN⟩; replace hB := btr hB hN; obtain ⟨hc, hf⟩ := bcell hB))
  go_ret2
  exact ⟨by rw [← HR.out]; rfl, btr (bal (Below.refl _ _) _) hB⟩
set_option maxRecDepth 20000 in
set_option maxHeartbeats 1000000 in
theorem ctext_B20 (p q k : Int) (lp lq lk : List UInt8) (R : ByteArray) (w : World) (hT : Tab w) (hp : p = 0) (hq : q < 0) (hk : k = 0) (hn : lp.length ≤ 21 ∧ lq.length ≤ 21 ∧ lk.length ≤ 21 ∧ lp.isEmpty = false) (hR : (⟨#[]⟩ : ByteArray) ++ ((⟨lq.toArray⟩ : ByteArray) ++ (⟨#[114]⟩ : ByteArray)) = R)
    (C : ∀ w, Calls Tryd.prog 12 #[.agg #[.int .i64 p, .int .i64 q, .int .i64 k]] w fun e w' => e = .returned (.int .i64 0) ∧ Below w.heap.size w w')
    (D1 : ∀ w, Tab w → Calls Tryd.prog 52 #[.int .i64 p, .int .i64 10] w fun e w' => e = .returned (.string ⟨lp.toArray⟩) ∧ Below w.heap.size w w') (D2 : ∀ w, Tab w → Calls Tryd.prog 52 #[.int .i64 q, .int .i64 10] w fun e w' => e = .returned (.string ⟨lq.toArray⟩) ∧ Below w.heap.size w w') (D3 : ∀ w, Tab w → Calls Tryd.prog 53 #[.int .i64 k] w fun e w' => e = .returned (.string ⟨lk.toArray⟩) ∧ Below w.heap.size w w') :
    Calls Tryd.prog 27 #[rv p q k] w fun e w' => e = .returned (.tuple #[.string R, .int .i64 0]) ∧ Below w.heap.size w w' := by
  have HR : Hid ((⟨#[]⟩ : ByteArray) ++ ((⟨lq.toArray⟩ : ByteArray) ++ (⟨#[114]⟩ : ByteArray)) = R) := hR
  clear hR
  obtain ⟨n1, n2, n3, ne⟩ := hn
  try subst hp
  try subst hq
  try subst hk
  have HT : ∀ o, Tab (w.alloc o) := fun o => hT.alloc o
  go_enter Tryd.func27, Tryd.ntmps27
  go_wp2_with (first
    | (go_at_call 12; (with_reducible refine (C _).mono ?_); rintro e w1 ⟨rfl, hB⟩; obtain ⟨hc, hf⟩ := bcell hB)
    | (go_at_call 52; (with_reducible refine (D1 _ ((HT _).below hB)).mono ?_); rintro e w2 ⟨rfl, hN⟩; replace hB := btr hB hN; obtain ⟨hc, hf⟩ := bcell hB)
    | (go_at_call 52; (with_reducible refine (D2 _ ((HT _).below hB)).mono ?_); rintro e w2 ⟨rfl, hN⟩; replace hB := btr hB hN; obtain ⟨hc, hf⟩ := bcell hB)
    | (go_at_call 53; (with_reducible refine (D3 _ ((HT _).below hB)).mono ?_); rintro e w2 ⟨rfl, hN⟩; replace hB := btr hB hN; obtain ⟨hc, hf⟩ := bcell hB))
  go_ret2
  exact ⟨by rw [← HR.out]; rfl, btr (bal (Below.refl _ _) _) hB⟩
set_option maxRecDepth 20000 in
set_option maxHeartbeats 1000000 in
theorem ctext_B21 (p q k : Int) (lp lq lk : List UInt8) (R : ByteArray) (w : World) (hT : Tab w) (hp : p = 0) (hq : q < 0) (hk : ¬ k = 0) (hn : lp.length ≤ 21 ∧ lq.length ≤ 21 ∧ lk.length ≤ 21 ∧ lp.isEmpty = false) (hR : ((⟨#[]⟩ : ByteArray) ++ ((⟨lq.toArray⟩ : ByteArray) ++ (⟨#[114]⟩ : ByteArray))) ++ ((⟨#[47, 50, 94]⟩ : ByteArray) ++ (⟨lk.toArray⟩ : ByteArray)) = R)
    (C : ∀ w, Calls Tryd.prog 12 #[.agg #[.int .i64 p, .int .i64 q, .int .i64 k]] w fun e w' => e = .returned (.int .i64 0) ∧ Below w.heap.size w w')
    (D1 : ∀ w, Tab w → Calls Tryd.prog 52 #[.int .i64 p, .int .i64 10] w fun e w' => e = .returned (.string ⟨lp.toArray⟩) ∧ Below w.heap.size w w') (D2 : ∀ w, Tab w → Calls Tryd.prog 52 #[.int .i64 q, .int .i64 10] w fun e w' => e = .returned (.string ⟨lq.toArray⟩) ∧ Below w.heap.size w w') (D3 : ∀ w, Tab w → Calls Tryd.prog 53 #[.int .i64 k] w fun e w' => e = .returned (.string ⟨lk.toArray⟩) ∧ Below w.heap.size w w') :
    Calls Tryd.prog 27 #[rv p q k] w fun e w' => e = .returned (.tuple #[.string R, .int .i64 0]) ∧ Below w.heap.size w w' := by
  have HR : Hid (((⟨#[]⟩ : ByteArray) ++ ((⟨lq.toArray⟩ : ByteArray) ++ (⟨#[114]⟩ : ByteArray))) ++ ((⟨#[47, 50, 94]⟩ : ByteArray) ++ (⟨lk.toArray⟩ : ByteArray)) = R) := hR
  clear hR
  obtain ⟨n1, n2, n3, ne⟩ := hn
  try subst hp
  try subst hq
  try subst hk
  have HT : ∀ o, Tab (w.alloc o) := fun o => hT.alloc o
  go_enter Tryd.func27, Tryd.ntmps27
  go_wp2_with (first
    | (go_at_call 12; (with_reducible refine (C _).mono ?_); rintro e w1 ⟨rfl, hB⟩; obtain ⟨hc, hf⟩ := bcell hB)
    | (go_at_call 52; (with_reducible refine (D1 _ ((HT _).below hB)).mono ?_); rintro e w2 ⟨rfl, hN⟩; replace hB := btr hB hN; obtain ⟨hc, hf⟩ := bcell hB)
    | (go_at_call 52; (with_reducible refine (D2 _ ((HT _).below hB)).mono ?_); rintro e w2 ⟨rfl, hN⟩; replace hB := btr hB hN; obtain ⟨hc, hf⟩ := bcell hB)
    | (go_at_call 53; (with_reducible refine (D3 _ ((HT _).below hB)).mono ?_); rintro e w2 ⟨rfl, hN⟩; replace hB := btr hB hN; obtain ⟨hc, hf⟩ := bcell hB))
  go_ret2
  exact ⟨by rw [← HR.out]; rfl, btr (bal (Below.refl _ _) _) hB⟩
set_option maxRecDepth 20000 in
set_option maxHeartbeats 1000000 in
theorem ctext_C0 (p q k : Int) (lp lq lk : List UInt8) (R : ByteArray) (w : World) (hT : Tab w) (hp : ¬ p = 0) (hq : 0 < q) (hk : k = 0) (hn : lp.length ≤ 21 ∧ lq.length ≤ 21 ∧ lk.length ≤ 21 ∧ lp.isEmpty = false) (hR : ((⟨lp.toArray⟩ : ByteArray) ++ (⟨#[43]⟩ : ByteArray)) ++ ((⟨lq.toArray⟩ : ByteArray) ++ (⟨#[114]⟩ : ByteArray)) = R)
    (C : ∀ w, Calls Tryd.prog 12 #[.agg #[.int .i64 p, .int .i64 q, .int .i64 k]] w fun e w' => e = .returned (.int .i64 0) ∧ Below w.heap.size w w')
    (D1 : ∀ w, Tab w → Calls Tryd.prog 52 #[.int .i64 p, .int .i64 10] w fun e w' => e = .returned (.string ⟨lp.toArray⟩) ∧ Below w.heap.size w w') (D2 : ∀ w, Tab w → Calls Tryd.prog 52 #[.int .i64 q, .int .i64 10] w fun e w' => e = .returned (.string ⟨lq.toArray⟩) ∧ Below w.heap.size w w') (D3 : ∀ w, Tab w → Calls Tryd.prog 53 #[.int .i64 k] w fun e w' => e = .returned (.string ⟨lk.toArray⟩) ∧ Below w.heap.size w w') :
    Calls Tryd.prog 27 #[rv p q k] w fun e w' => e = .returned (.tuple #[.string R, .int .i64 0]) ∧ Below w.heap.size w w' := by
  have HR : Hid (((⟨lp.toArray⟩ : ByteArray) ++ (⟨#[43]⟩ : ByteArray)) ++ ((⟨lq.toArray⟩ : ByteArray) ++ (⟨#[114]⟩ : ByteArray)) = R) := hR
  clear hR
  obtain ⟨n1, n2, n3, ne⟩ := hn
  try subst hp
  try subst hq
  try subst hk
  have HT : ∀ o, Tab (w.alloc o) := fun o => hT.alloc o
  go_enter Tryd.func27, Tryd.ntmps27
  go_wp2_with (first
    | (go_at_call 12; (with_reducible refine (C _).mono ?_); rintro e w1 ⟨rfl, hB⟩; obtain ⟨hc, hf⟩ := bcell hB)
    | (go_at_call 52; (with_reducible refine (D1 _ ((HT _).below hB)).mono ?_); rintro e w2 ⟨rfl, hN⟩; replace hB := btr hB hN; obtain ⟨hc, hf⟩ := bcell hB)
    | (go_at_call 52; (with_reducible refine (D2 _ ((HT _).below hB)).mono ?_); rintro e w2 ⟨rfl, hN⟩; replace hB := btr hB hN; obtain ⟨hc, hf⟩ := bcell hB)
    | (go_at_call 53; (with_reducible refine (D3 _ ((HT _).below hB)).mono ?_); rintro e w2 ⟨rfl, hN⟩; replace hB := btr hB hN; obtain ⟨hc, hf⟩ := bcell hB))
  go_ret2
  exact ⟨by rw [← HR.out]; rfl, btr (bal (Below.refl _ _) _) hB⟩
set_option maxRecDepth 20000 in
set_option maxHeartbeats 1000000 in
theorem ctext_C1 (p q k : Int) (lp lq lk : List UInt8) (R : ByteArray) (w : World) (hT : Tab w) (hp : ¬ p = 0) (hq : 0 < q) (hk : ¬ k = 0) (hn : lp.length ≤ 21 ∧ lq.length ≤ 21 ∧ lk.length ≤ 21 ∧ lp.isEmpty = false) (hR : (((⟨lp.toArray⟩ : ByteArray) ++ (⟨#[43]⟩ : ByteArray)) ++ ((⟨lq.toArray⟩ : ByteArray) ++ (⟨#[114]⟩ : ByteArray))) ++ ((⟨#[47, 50, 94]⟩ : ByteArray) ++ (⟨lk.toArray⟩ : ByteArray)) = R)
    (C : ∀ w, Calls Tryd.prog 12 #[.agg #[.int .i64 p, .int .i64 q, .int .i64 k]] w fun e w' => e = .returned (.int .i64 0) ∧ Below w.heap.size w w')
    (D1 : ∀ w, Tab w → Calls Tryd.prog 52 #[.int .i64 p, .int .i64 10] w fun e w' => e = .returned (.string ⟨lp.toArray⟩) ∧ Below w.heap.size w w') (D2 : ∀ w, Tab w → Calls Tryd.prog 52 #[.int .i64 q, .int .i64 10] w fun e w' => e = .returned (.string ⟨lq.toArray⟩) ∧ Below w.heap.size w w') (D3 : ∀ w, Tab w → Calls Tryd.prog 53 #[.int .i64 k] w fun e w' => e = .returned (.string ⟨lk.toArray⟩) ∧ Below w.heap.size w w') :
    Calls Tryd.prog 27 #[rv p q k] w fun e w' => e = .returned (.tuple #[.string R, .int .i64 0]) ∧ Below w.heap.size w w' := by
  have HR : Hid ((((⟨lp.toArray⟩ : ByteArray) ++ (⟨#[43]⟩ : ByteArray)) ++ ((⟨lq.toArray⟩ : ByteArray) ++ (⟨#[114]⟩ : ByteArray))) ++ ((⟨#[47, 50, 94]⟩ : ByteArray) ++ (⟨lk.toArray⟩ : ByteArray)) = R) := hR
  clear hR
  obtain ⟨n1, n2, n3, ne⟩ := hn
  try subst hp
  try subst hq
  try subst hk
  have HT : ∀ o, Tab (w.alloc o) := fun o => hT.alloc o
  go_enter Tryd.func27, Tryd.ntmps27
  go_wp2_with (first
    | (go_at_call 12; (with_reducible refine (C _).mono ?_); rintro e w1 ⟨rfl, hB⟩; obtain ⟨hc, hf⟩ := bcell hB)
    | (go_at_call 52; (with_reducible refine (D1 _ ((HT _).below hB)).mono ?_); rintro e w2 ⟨rfl, hN⟩; replace hB := btr hB hN; obtain ⟨hc, hf⟩ := bcell hB)
    | (go_at_call 52; (with_reducible refine (D2 _ ((HT _).below hB)).mono ?_); rintro e w2 ⟨rfl, hN⟩; replace hB := btr hB hN; obtain ⟨hc, hf⟩ := bcell hB)
    | (go_at_call 53; (with_reducible refine (D3 _ ((HT _).below hB)).mono ?_); rintro e w2 ⟨rfl, hN⟩; replace hB := btr hB hN; obtain ⟨hc, hf⟩ := bcell hB))
  go_ret2
  exact ⟨by rw [← HR.out]; rfl, btr (bal (Below.refl _ _) _) hB⟩
set_option maxRecDepth 20000 in
set_option maxHeartbeats 1000000 in
theorem ctext_D0 (p q k : Int) (lp lq lk : List UInt8) (R : ByteArray) (w : World) (hT : Tab w) (hp : ¬ p = 0) (hq : q < 0) (hk : k = 0) (hn : lp.length ≤ 21 ∧ lq.length ≤ 21 ∧ lk.length ≤ 21 ∧ lp.isEmpty = false) (hR : (⟨lp.toArray⟩ : ByteArray) ++ ((⟨lq.toArray⟩ : ByteArray) ++ (⟨#[114]⟩ : ByteArray)) = R)
    (C : ∀ w, Calls Tryd.prog 12 #[.agg #[.int .i64 p, .int .i64 q, .int .i64 k]] w fun e w' => e = .returned (.int .i64 0) ∧ Below w.heap.size w w')
    (D1 : ∀ w, Tab w → Calls Tryd.prog 52 #[.int .i64 p, .int .i64 10] w fun e w' => e = .returned (.string ⟨lp.toArray⟩) ∧ Below w.heap.size w w') (D2 : ∀ w, Tab w → Calls Tryd.prog 52 #[.int .i64 q, .int .i64 10] w fun e w' => e = .returned (.string ⟨lq.toArray⟩) ∧ Below w.heap.size w w') (D3 : ∀ w, Tab w → Calls Tryd.prog 53 #[.int .i64 k] w fun e w' => e = .returned (.string ⟨lk.toArray⟩) ∧ Below w.heap.size w w') :
    Calls Tryd.prog 27 #[rv p q k] w fun e w' => e = .returned (.tuple #[.string R, .int .i64 0]) ∧ Below w.heap.size w w' := by
  have HR : Hid ((⟨lp.toArray⟩ : ByteArray) ++ ((⟨lq.toArray⟩ : ByteArray) ++ (⟨#[114]⟩ : ByteArray)) = R) := hR
  clear hR
  obtain ⟨n1, n2, n3, ne⟩ := hn
  try subst hp
  try subst hq
  try subst hk
  have HT : ∀ o, Tab (w.alloc o) := fun o => hT.alloc o
  go_enter Tryd.func27, Tryd.ntmps27
  go_wp2_with (first
    | (go_at_call 12; (with_reducible refine (C _).mono ?_); rintro e w1 ⟨rfl, hB⟩; obtain ⟨hc, hf⟩ := bcell hB)
    | (go_at_call 52; (with_reducible refine (D1 _ ((HT _).below hB)).mono ?_); rintro e w2 ⟨rfl, hN⟩; replace hB := btr hB hN; obtain ⟨hc, hf⟩ := bcell hB)
    | (go_at_call 52; (with_reducible refine (D2 _ ((HT _).below hB)).mono ?_); rintro e w2 ⟨rfl, hN⟩; replace hB := btr hB hN; obtain ⟨hc, hf⟩ := bcell hB)
    | (go_at_call 53; (with_reducible refine (D3 _ ((HT _).below hB)).mono ?_); rintro e w2 ⟨rfl, hN⟩; replace hB := btr hB hN; obtain ⟨hc, hf⟩ := bcell hB))
  go_ret2
  exact ⟨by rw [← HR.out]; rfl, btr (bal (Below.refl _ _) _) hB⟩
set_option maxRecDepth 20000 in
set_option maxHeartbeats 1000000 in
theorem ctext_D1 (p q k : Int) (lp lq lk : List UInt8) (R : ByteArray) (w : World) (hT : Tab w) (hp : ¬ p = 0) (hq : q < 0) (hk : ¬ k = 0) (hn : lp.length ≤ 21 ∧ lq.length ≤ 21 ∧ lk.length ≤ 21 ∧ lp.isEmpty = false) (hR : ((⟨lp.toArray⟩ : ByteArray) ++ ((⟨lq.toArray⟩ : ByteArray) ++ (⟨#[114]⟩ : ByteArray))) ++ ((⟨#[47, 50, 94]⟩ : ByteArray) ++ (⟨lk.toArray⟩ : ByteArray)) = R)
    (C : ∀ w, Calls Tryd.prog 12 #[.agg #[.int .i64 p, .int .i64 q, .int .i64 k]] w fun e w' => e = .returned (.int .i64 0) ∧ Below w.heap.size w w')
    (D1 : ∀ w, Tab w → Calls Tryd.prog 52 #[.int .i64 p, .int .i64 10] w fun e w' => e = .returned (.string ⟨lp.toArray⟩) ∧ Below w.heap.size w w') (D2 : ∀ w, Tab w → Calls Tryd.prog 52 #[.int .i64 q, .int .i64 10] w fun e w' => e = .returned (.string ⟨lq.toArray⟩) ∧ Below w.heap.size w w') (D3 : ∀ w, Tab w → Calls Tryd.prog 53 #[.int .i64 k] w fun e w' => e = .returned (.string ⟨lk.toArray⟩) ∧ Below w.heap.size w w') :
    Calls Tryd.prog 27 #[rv p q k] w fun e w' => e = .returned (.tuple #[.string R, .int .i64 0]) ∧ Below w.heap.size w w' := by
  have HR : Hid (((⟨lp.toArray⟩ : ByteArray) ++ ((⟨lq.toArray⟩ : ByteArray) ++ (⟨#[114]⟩ : ByteArray))) ++ ((⟨#[47, 50, 94]⟩ : ByteArray) ++ (⟨lk.toArray⟩ : ByteArray)) = R) := hR
  clear hR
  obtain ⟨n1, n2, n3, ne⟩ := hn
  try subst hp
  try subst hq
  try subst hk
  have HT : ∀ o, Tab (w.alloc o) := fun o => hT.alloc o
  go_enter Tryd.func27, Tryd.ntmps27
  go_wp2_with (first
    | (go_at_call 12; (with_reducible refine (C _).mono ?_); rintro e w1 ⟨rfl, hB⟩; obtain ⟨hc, hf⟩ := bcell hB)
    | (go_at_call 52; (with_reducible refine (D1 _ ((HT _).below hB)).mono ?_); rintro e w2 ⟨rfl, hN⟩; replace hB := btr hB hN; obtain ⟨hc, hf⟩ := bcell hB)
    | (go_at_call 52; (with_reducible refine (D2 _ ((HT _).below hB)).mono ?_); rintro e w2 ⟨rfl, hN⟩; replace hB := btr hB hN; obtain ⟨hc, hf⟩ := bcell hB)
    | (go_at_call 53; (with_reducible refine (D3 _ ((HT _).below hB)).mono ?_); rintro e w2 ⟨rfl, hN⟩; replace hB := btr hB hN; obtain ⟨hc, hf⟩ := bcell hB))
  go_ret2
  exact ⟨by rw [← HR.out]; rfl, btr (bal (Below.refl _ _) _) hB⟩
end Go.Proofs.YtalaacfoaelipaaDoor
