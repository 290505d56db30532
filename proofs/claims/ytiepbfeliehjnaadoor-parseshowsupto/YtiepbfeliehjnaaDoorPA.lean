/-
  Parse of package parse.
-/
import Derived.Test.YtiepbfeliehjnaaDoorP9
import Derived.Recover
namespace Go.Proofs.YtiepbfeliehjnaaDoor
open Go.RowKit Go.Sort

theorem frame20 (a b c v : Value) : #[a, b, c] ++ ((Array.replicate 17 undef).setIfInBounds 3 v).setIfInBounds 0 v = #[a, b, c, v, undef, undef, v, undef, undef, undef, undef, undef, undef, undef, undef, undef, undef, undef, undef, undef] := by kernel_rfl
set_option maxHeartbeats 1000000 in
theorem catch_idle (p q r : Nat) (w : World) :
    CallsD Tryd.prog 20 #[.pointer (some ⟨p, 0, none⟩), .pointer (some ⟨q, 0, none⟩), .pointer (some ⟨r, 0, none⟩)] .returning w fun e u' w' => e = .returned (.tuple #[]) ∧ u' = .returning ∧ Below w.heap.size w w' := by
  refine callsD_of_wpS Tryd.func20 rfl fun c₀ cs hu => ?_
  apply wpS_seq
  apply wpS_region
  simp [wpOpsS, go_sem, recoverD, hu, Tryd.ntmps20, Exit.thenS]
  refine wpS_of_wp ?_
  rw [frame20]
  have hta : ∀ w : World, (Instr.typeAssert .nilIface 20 56 true).run Tryd.prog w = .ok (.tuple #[.agg #[.int .i64 0, .int .i64 0], .bool false]) w := fun _ => by kernel_rfl
  have hne : ∀ w : World, (binOp .neq 20 .nilIface .nilIface).run Tryd.prog w = .ok (.bool false) w := fun _ => by kernel_rfl
  go_wp2
  refine ⟨rfl, _, ?_, _, results_none rfl _ _ _, rfl, hu, bal (Below.refl _ _) _⟩
  cases c₀; simp_all
set_option maxHeartbeats 1000000 in
theorem catch_it (p q r : Nat) (f : Fa) (x y z : Value) (w : World) (hpq : p ≠ q) (hpr : p ≠ r) (hqr : q ≠ r) (c0 : BK w p #[x] 23) (c1 : BK w q #[y] 3) (c2 : BK w r #[z] 26) :
    CallsD Tryd.prog 20 #[.pointer (some ⟨p, 0, none⟩), .pointer (some ⟨q, 0, none⟩), .pointer (some ⟨r, 0, none⟩)] (.panicking [flt f]) w fun e u' w' => e = .returned (.tuple #[]) ∧ u' = .panicking [{ v := .iface 56 (.agg #[.int .i64 f.1, .int .i64 (f.2 : Nat)]), recovered := true }] ∧
      w'.cell? ⟨p, 0, none⟩ = some (.slice none 0 0) ∧ w'.cell? ⟨q, 0, none⟩ = some (.int .i64 f.1) ∧ w'.cell? ⟨r, 0, none⟩ = some (.int .i64 (f.2 : Nat)) ∧ ∀ B, B ≤ w.heap.size → B ≤ p → B ≤ q → B ≤ r → Below B w w' := by
  refine callsD_of_wpS Tryd.func20 rfl fun c₀ cs hu => ?_
  apply wpS_seq
  apply wpS_region
  simp [wpOpsS, go_sem, recoverD, hu, Tryd.ntmps20, Exit.thenS]
  refine wpS_of_wp ?_
  rw [frame20]
  have hta : ∀ w : World, (Instr.typeAssert (.iface 56 (.agg #[.int .i64 f.1, .int .i64 (f.2 : Nat)])) 20 56 true).run Tryd.prog w = .ok (.tuple #[.agg #[.int .i64 f.1, .int .i64 (f.2 : Nat)], .bool true]) w := fun _ => by kernel_rfl
  have d0 : w.cell? ⟨p, 0, none⟩ = some x := c0.cell 0
  have d1 : w.cell? ⟨q, 0, none⟩ = some y := c1.cell 0
  have d2 : w.cell? ⟨r, 0, none⟩ = some z := c2.cell 0
  have e0 := c0.free 0
  have e1 := c1.free 0
  have e2 := c2.free 0
  have z0 := c0.lt
  have z1 := c1.lt
  have z2 := c2.lt
  go_wp2
  go_region
  have b0 := ((((c0.set 0 (.slice none 0 0)).far (Ne.symm hpq) 0 (.int .i64 f.1)).far (Ne.symm hpr) 0 (.int .i64 (f.2 : Nat))).alloc (.cells #[.int .i64 f.1, .int .i64 (f.2 : Nat)] 56)).drew
  have b1 := ((((c1.far hpq 0 (.slice none 0 0)).set 0 (.int .i64 f.1)).far (Ne.symm hqr) 0 (.int .i64 (f.2 : Nat))).alloc (.cells #[.int .i64 f.1, .int .i64 (f.2 : Nat)] 56)).drew
  have b2 := ((((c2.far hpr 0 (.slice none 0 0)).far hqr 0 (.int .i64 f.1)).set 0 (.int .i64 (f.2 : Nat))).alloc (.cells #[.int .i64 f.1, .int .i64 (f.2 : Nat)] 56)).drew
  refine ⟨rfl, _, ?_, _, results_none rfl _ _ _, rfl, rfl, b0.cell 0, b1.cell 0, b2.cell 0, fun B h0 h1 h2 h3 => below_drew ((((Below.refl _ _).setCell (p := ⟨p, 0, none⟩) h1 _).setCell (p := ⟨q, 0, none⟩) h2 _ |>.setCell (p := ⟨r, 0, none⟩) h3 _).alloc (by simpa using h0) _)⟩
  cases c₀
  simp_all
theorem OR.mono {W : World} {B B' : Nat} {v : Value} {rs : List Rw} (h : OR W B v rs) (hb : B' ≤ B) : OR W B' v rs := by
  obtain ⟨vs, h1, h2, h3⟩ := h
  exact ⟨vs, h1, own_mono h2 hb, fun k hk hk' => own_mono (h3 k hk hk') hb⟩
theorem OR.low {W : World} {B b : Nat} {v : Value} {rs : List Rw} (h : OR W B v rs) (hb : b < B) (k : Nat) (x : Value) : OR (W.setCell ⟨b, k, none⟩ x) B v rs := by
  obtain ⟨vs, h1, h2, h3⟩ := h
  exact ⟨vs, h1, own_kept h2 (grown_set W b k x) (fun g e e2 => by have := (h2.lt g e).1; cases e2; omega), fun j hj hj' => own_kept (h3 j hj hj') (grown_set W b k x) (fun g e e2 => by have := ((h3 j hj hj').lt g e).1; cases e2; omega)⟩
theorem Pre.sz {s : ByteArray} {i : Nat} {l : List Tk} (h : Pre s i l) : ∀ k (hk : k < l.length), l[k].t.size ≤ s.size :=
  (Pre.ind (R := fun _ l => ∀ k (hk : k < l.length), l[k].t.size ≤ s.size) (fun k h => absurd h (Nat.not_lt_zero _)) (fun _ _ _ h => h) (fun _ _ _ _ _ h => h) (fun i j l k ht h m hm => by
    rw [List.length_append] at hm
    simp only [List.length_cons, List.length_nil] at hm
    by_cases e : m < l.length
    · rw [List.getElem_append_left e]; exact h m e
    · obtain rfl : m = l.length := by omega
      have e1 : (l ++ [tok s k i j])[l.length]'(by simp) = tok s k i j := by simp
      rw [e1]
      show (s.extract i j).size ≤ _
      rw [ByteArray.size_extract]
      omega) h).2
theorem SI.sl {w W : World} {v : Value} {l : List Tk} (h : SI w W v l) : SL W v l := own_sl h.own
theorem three {w w1 : World} {a b c : Array Value} {A B C : TypeId} (h : Below (((w.alloc (.cells a A)).alloc (.cells b B)).alloc (.cells c C)).heap.size (((w.alloc (.cells a A)).alloc (.cells b B)).alloc (.cells c C)) w1) : BK w1 w.heap.size a A ∧ BK w1 (w.heap.size + 1) b B ∧ BK w1 (w.heap.size + 1 + 1) c C := by
  have e1 : (w.alloc (.cells a A)).heap.size = w.heap.size + 1 := by simp
  have e2 : ((w.alloc (.cells a A)).alloc (.cells b B)).heap.size = w.heap.size + 1 + 1 := by simp
  have x0 := ((bk_new w a A).alloc (.cells b B)).alloc (.cells c C)
  have x1 := (bk_new (w.alloc (.cells a A)) b B).alloc (.cells c C)
  have x2 := bk_new ((w.alloc (.cells a A)).alloc (.cells b B)) c C
  rw [e1] at x1
  rw [e2] at x2
  exact ⟨(h.block _ x0.lt).trans x0, (h.block _ x1.lt).trans x1, (h.block _ x2.lt).trans x2⟩
set_option maxHeartbeats 4000000 in
set_option maxRecDepth 100000 in
theorem parse_any (s : ByteArray) (rs : List Rw) (a : Int) (e : Nat) (w : World) (hs : s.size ≤ 9223372036854775807) (hv : VR w) (ho : POut s rs a e) :
    Calls Tryd.prog 10 #[.string s] w fun x w' => ∃ v, x = .returned (.tuple #[v, .int .i64 a, .int .i64 e]) ∧ OR w' w.heap.size v rs ∧ Below w.heap.size w w' := by
  obtain ⟨l, a0, e0, hOut, hcase⟩ := ho
  have CS := fun W => scan_any s l a0 e0 W hs hOut
  have hmf : ∀ (fn : Fn) (first cap : Array Value) (w : World), (Instr.makeFunc fn first cap).run Tryd.prog w = .ok (.func fn first cap) w := fun _ _ _ _ => rfl
  have B3 : ∀ {w1 : World}, Below (((w.alloc (.cells #[.slice none 0 0] 23)).alloc (.cells #[.int .i64 0] 3)).alloc (.cells #[.int .i64 0] 26)).heap.size (((w.alloc (.cells #[.slice none 0 0] 23)).alloc (.cells #[.int .i64 0] 3)).alloc (.cells #[.int .i64 0] 26)) w1 → Below w.heap.size w w1 := fun h => btr (bal (bal (bal (Below.refl _ _) _) _) _) h
  rcases hcase with ⟨he, rfl, rfl, rfl⟩ | ⟨rfl, hcase⟩
  · have he2 : ((e : Int) == 0) = false := by simp; omega
    have he3 : ((e : Int) != 0) = true := by simp; omega
    clear hOut he
    go_enter_defers Tryd.func10, Tryd.ntmps10
    go_upto_region 3 with (go_at_call 17; (with_reducible refine (CS _).mono ?_); rintro x w1 ⟨v1, rfl, hI1⟩; obtain ⟨a1, c1, rfl⟩ := hI1.shape; obtain ⟨bp, bq, br⟩ := three hI1.below; have p0 : w1.cell? ⟨w.heap.size, 0, none⟩ = some (.slice none 0 0) := bp.cell 0; have q0 : w1.cell? ⟨w.heap.size + 1, 0, none⟩ = some (.int .i64 0) := bq.cell 0; have r0 : w1.cell? ⟨w.heap.size + 1 + 1, 0, none⟩ = some (.int .i64 0) := br.cell 0; have p1 := bp.free 0; have q1 := bq.free 0; have r1 := br.free 0; have r2 := br.lt)
    go_region
    go_wp2
    have hb := below_drew (bset (bset (bset (bset (bset (B3 hI1.below) (w.heap.size + 1) 0 (.int .i64 a0) (by omega)) (w.heap.size + 1 + 1) 0 (.int .i64 e) (by omega)) w.heap.size 0 (.slice none 0 0) (by omega)) (w.heap.size + 1) 0 (.int .i64 a0) (by omega)) (w.heap.size + 1 + 1) 0 (.int .i64 e) (by omega))
    have k0 := (((((bp.far (c := w.heap.size + 1) (by omega) 0 (.int .i64 a0)).far (c := w.heap.size + 1 + 1) (by omega) 0 (.int .i64 e)).set 0 (.slice none 0 0)).far (c := w.heap.size + 1) (by omega) 0 (.int .i64 a0)).far (c := w.heap.size + 1 + 1) (by omega) 0 (.int .i64 e)).drew
    have k1 := (((((bq.set 0 (.int .i64 a0)).far (c := w.heap.size + 1 + 1) (by omega) 0 (.int .i64 e)).far (c := w.heap.size) (by omega) 0 (.slice none 0 0)).set 0 (.int .i64 a0)).far (c := w.heap.size + 1 + 1) (by omega) 0 (.int .i64 e)).drew
    have k2 := (((((br.far (c := w.heap.size + 1) (by omega) 0 (.int .i64 a0)).set 0 (.int .i64 e)).far (c := w.heap.size) (by omega) 0 (.slice none 0 0)).far (c := w.heap.size + 1) (by omega) 0 (.int .i64 a0)).set 0 (.int .i64 e)).drew
    clear p0 q0 r0 p1 q1 r1 bp bq br
    generalize (((((w1.setCell ⟨w.heap.size + 1, 0, none⟩ (.int .i64 a0)).setCell ⟨w.heap.size + 1 + 1, 0, none⟩ (.int .i64 e)).setCell ⟨w.heap.size, 0, none⟩ (.slice none 0 0)).setCell ⟨w.heap.size + 1, 0, none⟩ (.int .i64 a0)).setCell ⟨w.heap.size + 1 + 1, 0, none⟩ (.int .i64 e)).drew = WF at *
    have m0 : WF.cell? ⟨w.heap.size, 0, none⟩ = some (.slice none 0 0) := k0.cell 0
    have m1 : WF.cell? ⟨w.heap.size + 1, 0, none⟩ = some (.int .i64 a0) := k1.cell 0
    have m2 : WF.cell? ⟨w.heap.size + 1 + 1, 0, none⟩ = some (.int .i64 e) := k2.cell 0
    exact ⟨.tuple #[.slice none 0 0, .int .i64 a0, .int .i64 e], by simp [results, Tryd.results10, go_sem, m0, m1, m2], _, rfl, OR.nil _ _, hb⟩
  have hsz : s.size ≤ 65536 ∧ Pre s s.size l ∧ a0 = 0 := by
    rcases hOut with ⟨_, _, _, h⟩ | ⟨h1, h2, h3, _⟩ | ⟨_, _, h, _⟩
    · cases h
    · exact ⟨h1, h2, h3⟩
    · cases h
  obtain ⟨hs6, hp, rfl⟩ := hsz
  have hcount := hp.count
  have hall := hp.right
  have hsize := hp.sz
  have START : ∀ w1 a1 c1, SI (((w.alloc (.cells #[.slice none 0 0] 23)).alloc (.cells #[.int .i64 0] 3)).alloc (.cells #[.int .i64 0] 26)) w1 (.slice a1 l.length c1) l → ∀ x y : Value, RS ((w1.setCell ⟨w.heap.size + 1, 0, none⟩ x).setCell ⟨w.heap.size + 1 + 1, 0, none⟩ y) (((w1.setCell ⟨w.heap.size + 1, 0, none⟩ x).setCell ⟨w.heap.size + 1 + 1, 0, none⟩ y).alloc (.cells #[.slice a1 l.length c1, .int .i64 0, .int .i64 s.size, .slice none 0 0] 59)) w1.heap.size (.slice a1 l.length c1) l s.size 0 [] := fun w1 a1 c1 hI x y => by
    have hz : ((w1.setCell ⟨w.heap.size + 1, 0, none⟩ x).setCell ⟨w.heap.size + 1 + 1, 0, none⟩ y).heap.size = w1.heap.size := by simp [World.setCell]
    have hlo : ∀ g, (Value.slice a1 l.length c1).ownBlock = some g → w.heap.size + 3 ≤ g := fun g e => by have := (hI.own.lt g e).1; simp at this; omega
    have o1 := own_kept hI.own (grown_set w1 (w.heap.size + 1) 0 x) (fun g e e2 => by have := hlo g e; cases e2; omega)
    have o2 := own_kept o1 (grown_set _ (w.heap.size + 1 + 1) 0 y) (fun g e e2 => by have := hlo g e; cases e2; omega)
    have hb0 := bset (bset (B3 hI.below) (w.heap.size + 1) 0 x (by omega)) (w.heap.size + 1 + 1) 0 y (by omega)
    refine ⟨.slice none 0 0, ⟨(own_sl o2).form, bal (Below.refl _ _) _, by rw [hz]; exact Nat.le_refl _, ?_, Nat.zero_le _, by omega, hall, fun k hk => by have := hsize k hk; omega, hv.below hb0⟩, OR.nil _ _, Nat.le_refl _⟩
    have := bk_new ((w1.setCell ⟨w.heap.size + 1, 0, none⟩ x).setCell ⟨w.heap.size + 1 + 1, 0, none⟩ y) #[.slice a1 l.length c1, .int .i64 0, .int .i64 s.size, .slice none 0 0] 59
    rw [hz] at this
    exact this
  have PG := fun W0 W1 rb ts h => program_any W0 W1 rb ts l s.size h
  clear hall hsize hOut hp
  rcases hcase with ⟨p, x, hpr, rfl, rfl, rfl⟩ | ⟨hpr, rfl, rfl⟩
  · have PG2 : ∀ W0 W1 rb ts, RS W0 W1 rb ts l s.size 0 [] → Calls Tryd.prog 21 #[.pointer (some ⟨rb, 0, none⟩)] W1 fun x W' => x = .panicked [flt (a, e)] ∧ Below W0.heap.size W0 W' := fun W0 W1 rb ts h => (PG W0 W1 rb ts h).mono fun x W' ⟨h1, h2⟩ => by
      refine ⟨?_, h1⟩
      rcases h2 with ⟨q, e1, e2⟩ | ⟨rs, e1, _⟩
      · rw [hpr] at e1; cases e1; exact e2
      · rw [hpr] at e1; cases e1
    clear PG hpr
    go_enter_defers Tryd.func10, Tryd.ntmps10
    go_wp2_with (first | (go_at_call 17; (with_reducible refine (CS _).mono ?_); rintro x w1 ⟨v1, rfl, hI1⟩; obtain ⟨a1, c1, rfl⟩ := hI1.shape; obtain ⟨bp, bq, br⟩ := three hI1.below; have p0 : w1.cell? ⟨w.heap.size, 0, none⟩ = some (.slice none 0 0) := bp.cell 0; have q0 : w1.cell? ⟨w.heap.size + 1, 0, none⟩ = some (.int .i64 0) := bq.cell 0; have r0 : w1.cell? ⟨w.heap.size + 1 + 1, 0, none⟩ = some (.int .i64 0) := br.cell 0; have p1 := bp.free 0; have q1 := bq.free 0; have r1 := br.free 0; have r2 := br.lt) | (go_at_call 21; (with_reducible refine (PG2 _ _ _ _ (START w1 a1 c1 hI1 _ _)).mono ?_); rintro x w2 ⟨rfl, hB2⟩))
    have e0 : BK w2 w.heap.size #[.slice none 0 0] 23 := (hB2.block _ (by simp [World.setCell]; omega)).trans ((bp.far (by omega) 0 (.int .i64 0)).far (by omega) 0 (.int .i64 0))
    have e1 : BK w2 (w.heap.size + 1) #[.int .i64 0] 3 := (hB2.block _ (by simp [World.setCell]; omega)).trans ((bq.set 0 (.int .i64 0)).far (by omega) 0 (.int .i64 0))
    have e2 : BK w2 (w.heap.size + 1 + 1) #[.int .i64 0] 26 := (hB2.block _ (by simp [World.setCell]; omega)).trans ((br.far (by omega) 0 (.int .i64 0)).set 0 (.int .i64 0))
    have hb := bset (bset (B3 hI1.below) (w.heap.size + 1) 0 (.int .i64 0) (by omega)) (w.heap.size + 1 + 1) 0 (.int .i64 0) (by omega)
    have hbb := btr hb hB2
    refine leaves_cons (f := 20) (args := #[.pointer (some ⟨w.heap.size, 0, none⟩), .pointer (some ⟨w.heap.size + 1, 0, none⟩), .pointer (some ⟨w.heap.size + 1 + 1, 0, none⟩)]) (by simp) (by simp [go_sem]) ?_
    refine (catch_it w.heap.size (w.heap.size + 1) (w.heap.size + 1 + 1) (a, e) _ _ _ _ (by omega) (by omega) (by omega) e0 e1 e2).mono ?_
    rintro x u w3 ⟨rfl, rfl, k0, k1, k2, hB3⟩
    simp [Leaves, settle, results, Tryd.results10, go_sem, k0, k1, k2]
    exact ⟨OR.nil _ _, hbb.trans (hB3 _ hbb.size (by omega) (by omega) (by omega))⟩
  · have PG2 : ∀ W0 W1 rb ts, RS W0 W1 rb ts l s.size 0 [] → Calls Tryd.prog 21 #[.pointer (some ⟨rb, 0, none⟩)] W1 fun x W' => x = .returned (.tuple #[]) ∧ Below W0.heap.size W0 W' ∧ RS W0 W' rb ts l s.size l.length rs := fun W0 W1 rb ts h => (PG W0 W1 rb ts h).mono fun x W' ⟨h1, h2⟩ => by
      rcases h2 with ⟨q, e1, e2⟩ | ⟨rs, e1, e2, e3⟩
      · rw [hpr] at e1; cases e1
      · rw [hpr] at e1; cases e1; exact ⟨e2, h1, e3⟩
    clear PG hpr
    go_enter_defers Tryd.func10, Tryd.ntmps10
    go_wp2_with (first | (go_at_call 17; (with_reducible refine (CS _).mono ?_); rintro x w1 ⟨v1, rfl, hI1⟩; obtain ⟨a1, c1, rfl⟩ := hI1.shape; obtain ⟨bp, bq, br⟩ := three hI1.below; have p0 : w1.cell? ⟨w.heap.size, 0, none⟩ = some (.slice none 0 0) := bp.cell 0; have q0 : w1.cell? ⟨w.heap.size + 1, 0, none⟩ = some (.int .i64 0) := bq.cell 0; have r0 : w1.cell? ⟨w.heap.size + 1 + 1, 0, none⟩ = some (.int .i64 0) := br.cell 0; have p1 := bp.free 0; have q1 := bq.free 0; have r1 := br.free 0; have r2 := br.lt) | (go_at_call 21; (with_reducible refine (PG2 _ _ _ _ (START w1 a1 c1 hI1 _ _)).mono ?_); rintro x w2 ⟨rfl, hB2, v2, hR2, hO2, hc2⟩; obtain ⟨a2, c2, rfl⟩ := hO2.shape; have n3 : w2.cell? ⟨w1.heap.size, 3, none⟩ = some (.slice a2 rs.length c2) := hR2.blk.cell 3; have e0 : BK w2 w.heap.size #[.slice none 0 0] 23 := (hB2.block _ (by simp [World.setCell]; omega)).trans ((bp.far (by omega) 0 (.int .i64 0)).far (by omega) 0 (.int .i64 0)); have e1 : BK w2 (w.heap.size + 1) #[.int .i64 0] 3 := (hB2.block _ (by simp [World.setCell]; omega)).trans ((bq.set 0 (.int .i64 0)).far (by omega) 0 (.int .i64 0)); have e2 : BK w2 (w.heap.size + 1 + 1) #[.int .i64 0] 26 := (hB2.block _ (by simp [World.setCell]; omega)).trans ((br.far (by omega) 0 (.int .i64 0)).set 0 (.int .i64 0)); have f0 : w2.cell? ⟨w.heap.size, 0, none⟩ = some (.slice none 0 0) := e0.cell 0; have f1 : w2.cell? ⟨w.heap.size + 1, 0, none⟩ = some (.int .i64 0) := e1.cell 0; have f2 : w2.cell? ⟨w.heap.size + 1 + 1, 0, none⟩ = some (.int .i64 0) := e2.cell 0; have g0 := e0.free 0; have g1 := e1.free 0; have g2 := e2.free 0))
    have hb := bset (bset (B3 hI1.below) (w.heap.size + 1) 0 (.int .i64 0) (by omega)) (w.heap.size + 1 + 1) 0 (.int .i64 0) (by omega)
    have hw0 : w.heap.size + 3 ≤ ((w1.setCell ⟨w.heap.size + 1, 0, none⟩ (.int .i64 0)).setCell ⟨w.heap.size + 1 + 1, 0, none⟩ (.int .i64 0)).heap.size := by simp [World.setCell]; omega
    have hO3 := ((hO2.low (b := w.heap.size) (by omega) 0 (.slice a2 rs.length c2)).low (b := w.heap.size + 1) (by omega) 0 (.int .i64 0)).low (b := w.heap.size + 1 + 1) (by omega) 0 (.int .i64 0)
    have hb3 := bset (bset (bset (btr hb hB2) w.heap.size 0 (.slice a2 rs.length c2) (by omega)) (w.heap.size + 1) 0 (.int .i64 0) (by omega)) (w.heap.size + 1 + 1) 0 (.int .i64 0) (by omega)
    have k0 := ((e0.set 0 (.slice a2 rs.length c2)).far (c := w.heap.size + 1) (by omega) 0 (.int .i64 0)).far (c := w.heap.size + 1 + 1) (by omega) 0 (.int .i64 0)
    have k1 := ((e1.far (c := w.heap.size) (by omega) 0 (.slice a2 rs.length c2)).set 0 (.int .i64 0)).far (c := w.heap.size + 1 + 1) (by omega) 0 (.int .i64 0)
    have k2 := ((e2.far (c := w.heap.size) (by omega) 0 (.slice a2 rs.length c2)).far (c := w.heap.size + 1) (by omega) 0 (.int .i64 0)).set 0 (.int .i64 0)
    refine leaves_cons (f := 20) (args := #[.pointer (some ⟨w.heap.size, 0, none⟩), .pointer (some ⟨w.heap.size + 1, 0, none⟩), .pointer (some ⟨w.heap.size + 1 + 1, 0, none⟩)]) (by simp) (by simp [go_sem]) ?_
    refine (catch_idle w.heap.size (w.heap.size + 1) (w.heap.size + 1 + 1) _).mono ?_
    rintro x u w3 ⟨rfl, rfl, hB3⟩
    have m0 : w3.cell? ⟨w.heap.size, 0, none⟩ = some (.slice a2 rs.length c2) := BK.cell ((hB3.block _ k0.lt).trans k0) 0
    have m1 : w3.cell? ⟨w.heap.size + 1, 0, none⟩ = some (.int .i64 0) := BK.cell ((hB3.block _ k1.lt).trans k1) 0
    have m2 : w3.cell? ⟨w.heap.size + 1 + 1, 0, none⟩ = some (.int .i64 0) := BK.cell ((hB3.block _ k2.lt).trans k2) 0
    have hOF := (hO3.below hB3).mono (show w.heap.size ≤ _ by omega)
    have hBF := btr hb3 hB3
    clear hO3 hb3 k0 k1 k2 hB3
    simp [Leaves, settle, results, Tryd.results10, go_sem, m0, m1, m2]
    exact ⟨hOF, hBF⟩
end Go.Proofs.YtiepbfeliehjnaaDoor
