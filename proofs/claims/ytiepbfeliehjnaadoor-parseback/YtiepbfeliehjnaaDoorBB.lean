/-
  Show of package parse.
-/
import Derived.Test.YtiepbfeliehjnaaDoorBA
import Derived.Test.YtiepbfeliehjnaaDoorB3
import Derived.Recover
namespace Go.Proofs.YtiepbfeliehjnaaDoor
open Go.RowKit Go.Sort

set_option maxHeartbeats 2000000 in
set_option maxRecDepth 100000 in
theorem string_some (w W : World) (b : Nat) (l : List UInt8) (last : ByteArray) (H : WS w W b l last) (h0 : l ≠ []) (h6 : l.length ≤ 65536) :
    Calls Tryd.prog 27 #[.pointer (some ⟨b, 0, none⟩)] W fun e W' => e = .returned (.string ⟨l.toArray⟩) ∧ Below w.heap.size w W' := by
  obtain ⟨p, v, hbk, _, hown⟩ := H.ex
  have hl0 : l.length ≠ 0 := by simpa using h0
  have hB : Hid (Below w.heap.size w W) := H.below
  obtain ⟨g, cap, cur, rfl, hbg, hg, hnc, hcm, hcs, htake⟩ : ∃ g cap cur, v = .slice (some ⟨g, 0, none⟩) l.length cap ∧ w.heap.size ≤ g ∧ W.heap[g]? = some (.cells cur 5 (0, 0)) ∧ l.length ≤ cap ∧ cap ≤ maxLen ∧ cur.size = cap * 1 ∧ cur.toList.take (l.length * 1) = Lib.byteCells l := by
    rcases hown.2 with ⟨_, hz⟩ | ⟨g, cap, cur, hv, r⟩
    · exact absurd hz hl0
    · exact ⟨g, cap, cur, hv, r⟩
  have c1 : W.drew.cell? ⟨b, 1, none⟩ = some (.slice (some ⟨g, 0, none⟩) l.length cap) := hbk.drew.cell 1
  have hSD : (Builtin.unsafeSliceData_ #[66] 88 #[.slice (some ⟨g, 0, none⟩) l.length cap]).run Tryd.prog W.drew = .ok (.pointer (some ⟨g, 0, none⟩)) W.drew :=
    Lib.run_unsafeSliceData_row _ _ _ _ _ _ (by omega)
  have hUS : (Builtin.unsafeString_ #[88, 3] 9 #[.pointer (some ⟨g, 0, none⟩), .int .i64 l.length]).run Tryd.prog W.drew = .ok (.string ⟨l.toArray⟩) (W.drew.freeze ⟨g, 0, none⟩ l.length) := by
    refine Lib.run_unsafeString_row W.drew 88 3 9 5 Tryd.underlying88 (by kernel_rfl) g cur.size (by have hg' : W.drew.heap[g]? = some (.cells cur 5 (0, 0)) := hg; simp [World.shape?, hg']) l h0 (by omega) (by omega) ?_
    intro j x hx
    have := hown.cells (g := g) rfl j (.int .u8 x.toNat) (by simp [Lib.byteCells, hx])
    exact this
  clear hbk hown hg htake hcs hcm hnc
  go_enter Tryd.func27, Tryd.ntmps27
  go_wp2
  go_region
  all_goals (go_wp2; go_ret; exact ⟨rfl, Lib.below_freeze (below_drew hB.out) (p := ⟨g, 0, none⟩) hbg _⟩)
set_option maxHeartbeats 2000000 in
set_option maxRecDepth 100000 in
/-- Of a writer that has written nothing. -/
theorem string_none (W : World) (b : Nat) (p u : Value) (hbk : BK W b #[p, .slice none 0 0, u] 70) :
    Calls Tryd.prog 27 #[.pointer (some ⟨b, 0, none⟩)] W fun e W' => e = .returned (.string ⟨#[]⟩) ∧ ∃ n, W' = W.drewN n := by
  have hUS := fun (W : World) (q : Option Addr) => Lib.run_unsafeString_none (P := Tryd.prog) W 88 3 9 q
  have c1 : W.drew.cell? ⟨b, 1, none⟩ = some (.slice none 0 0) := hbk.drew.cell 1
  have hSD : (Builtin.unsafeSliceData_ #[66] 88 #[.slice none 0 0]).run Tryd.prog W.drew = .ok (.pointer none) W.drew := rfl
  clear hbk
  go_enter Tryd.func27, Tryd.ntmps27
  go_wp2
  go_region
  all_goals (go_wp2; go_ret; exact ⟨rfl, 1, rfl⟩)
theorem frame24 (a b v : Value) : #[a, b] ++ ((Array.replicate 15 undef).setIfInBounds 3 v).setIfInBounds 0 v = #[a, b, v, undef, undef, v, undef, undef, undef, undef, undef, undef, undef, undef, undef, undef, undef] := by kernel_rfl
set_option maxHeartbeats 1000000 in
theorem scatch_idle (p q : Nat) (w : World) :
    CallsD Tryd.prog 24 #[.pointer (some ⟨p, 0, none⟩), .pointer (some ⟨q, 0, none⟩)] .returning w fun e u' w' => e = .returned (.tuple #[]) ∧ u' = .returning ∧ Below w.heap.size w w' := by
  refine callsD_of_wpS Tryd.func24 rfl fun c₀ cs hu => ?_
  apply wpS_seq
  apply wpS_region
  simp [wpOpsS, go_sem, recoverD, hu, Tryd.ntmps24, Exit.thenS]
  refine wpS_of_wp ?_
  rw [frame24]
  have hta : ∀ w : World, (Instr.typeAssert .nilIface 20 56 true).run Tryd.prog w = .ok (.tuple #[.agg #[.int .i64 0, .int .i64 0], .bool false]) w := fun _ => by kernel_rfl
  have hne : ∀ w : World, (binOp .neq 20 .nilIface .nilIface).run Tryd.prog w = .ok (.bool false) w := fun _ => by kernel_rfl
  go_wp2
  refine ⟨rfl, _, ?_, _, results_none rfl _ _ _, rfl, hu, bal (Below.refl _ _) _⟩
  cases c₀; simp_all
set_option maxHeartbeats 1000000 in
theorem scatch_it (p q : Nat) (f : Fa) (x y : Value) (w : World) (hpq : p ≠ q) (c0 : BK w p #[x] 9) (c1 : BK w q #[y] 26) :
    CallsD Tryd.prog 24 #[.pointer (some ⟨p, 0, none⟩), .pointer (some ⟨q, 0, none⟩)] (.panicking [flt f]) w fun e u' w' => e = .returned (.tuple #[]) ∧ u' = .panicking [{ v := .iface 56 (.agg #[.int .i64 f.1, .int .i64 (f.2 : Nat)]), recovered := true }] ∧
      w'.cell? ⟨p, 0, none⟩ = some (.string ⟨#[]⟩) ∧ w'.cell? ⟨q, 0, none⟩ = some (.int .i64 (f.2 : Nat)) ∧ ∀ B, B ≤ w.heap.size → B ≤ p → B ≤ q → Below B w w' := by
  refine callsD_of_wpS Tryd.func24 rfl fun c₀ cs hu => ?_
  apply wpS_seq
  apply wpS_region
  simp [wpOpsS, go_sem, recoverD, hu, Tryd.ntmps24, Exit.thenS]
  refine wpS_of_wp ?_
  rw [frame24]
  have hta : ∀ w : World, (Instr.typeAssert (.iface 56 (.agg #[.int .i64 f.1, .int .i64 (f.2 : Nat)])) 20 56 true).run Tryd.prog w = .ok (.tuple #[.agg #[.int .i64 f.1, .int .i64 (f.2 : Nat)], .bool true]) w := fun _ => by kernel_rfl
  have d0 : w.cell? ⟨p, 0, none⟩ = some x := c0.cell 0
  have d1 : w.cell? ⟨q, 0, none⟩ = some y := c1.cell 0
  have e0 := c0.free 0
  have e1 := c1.free 0
  have z0 := c0.lt
  have z1 := c1.lt
  go_wp2
  go_region
  have b0 := (((c0.set 0 (.string ⟨#[]⟩)).far (Ne.symm hpq) 0 (.int .i64 (f.2 : Nat))).alloc (.cells #[.int .i64 f.1, .int .i64 (f.2 : Nat)] 56)).drew
  have b1 := (((c1.far hpq 0 (.string ⟨#[]⟩)).set 0 (.int .i64 (f.2 : Nat))).alloc (.cells #[.int .i64 f.1, .int .i64 (f.2 : Nat)] 56)).drew
  refine ⟨rfl, _, ?_, _, results_none rfl _ _ _, rfl, rfl, b0.cell 0, b1.cell 0, fun B h0 h1 h2 => below_drew (((Below.refl _ _).setCell (p := ⟨p, 0, none⟩) h1 _).setCell (p := ⟨q, 0, none⟩) h2 _ |>.alloc (by simpa using h0) _)⟩
  cases c₀
  simp_all
theorem stwo {w w1 : World} {a b : Array Value} {A B : TypeId} (h : Below ((w.alloc (.cells a A)).alloc (.cells b B)).heap.size ((w.alloc (.cells a A)).alloc (.cells b B)) w1) : BK w1 w.heap.size a A ∧ BK w1 (w.heap.size + 1) b B := two_bk w a b A B h
theorem body_ne {F d : Nat} {r : Rw} {rs : List Rw} : bodyB (F + 1) d (r :: rs) ≠ [] := by
  show (indB d ++ (_ ++ [10])) ++ _ ≠ []
  simp
set_option maxHeartbeats 4000000 in
set_option maxRecDepth 100000 in
theorem show_any (rs : List Rw) (v : Value) (s : ByteArray) (e : Nat) (w : World) (hS : SR w v rs) (hv : VR w) (hl : rs.length ≤ 9223372036854775807) (hz : Szs rs) (ho : SOut rs s e) :
    Calls Tryd.prog 15 #[v] w fun x w' => x = .returned (.tuple #[.string s, .int .i64 e]) ∧ Below w.heap.size w w' := by
  have hmf : ∀ (fn : Fn) (first cap : Array Value) (w : World), (Instr.makeFunc fn first cap).run Tryd.prog w = .ok (.func fn first cap) w := fun _ _ _ _ => rfl
  have CA : ∀ W, Below w.heap.size w W → Calls Tryd.prog 25 #[v, .int .i64 0] W fun e W' => CK (chk rs.length 0 rs) e ∧ Below W.heap.size W W' := fun W h => check_any (rs.length + 1) rs.length (by omega) rs 0 v w W (Nat.le_refl _) (by omega) hS h hl hz
  have B2 : ∀ {w1 : World}, Below ((w.alloc (.cells #[.string ⟨#[]⟩] 9)).alloc (.cells #[.int .i64 0] 26)).heap.size ((w.alloc (.cells #[.string ⟨#[]⟩] 9)).alloc (.cells #[.int .i64 0] 26)) w1 → Below w.heap.size w w1 := fun h => btr (bal (bal (Below.refl _ _) _) _) h
  have hb0 : Below w.heap.size w ((w.alloc (.cells #[.string ⟨#[]⟩] 9)).alloc (.cells #[.int .i64 0] 26)) := B2 (Below.refl _ _)
  have CA0 := CA _ hb0
  clear CA hb0
  rcases ho with ⟨hc, rfl, rfl⟩ | ⟨hc, hlen, rfl, rfl⟩ | ⟨hc, hlen, rfl, rfl⟩
  · rw [hc] at CA0
    have CB := CA0.mono (fun e W' (h : CK false e ∧ _) => show e = .panicked [flt (0, 100)] ∧ _ from ⟨(by rcases h.1 with ⟨h, _⟩ | ⟨_, h⟩; cases h; exact h), h.2⟩)
    clear hS hv hl hz hc CA0
    go_enter_defers Tryd.func15, Tryd.ntmps15
    go_wp2_with (go_at_call 25; (with_reducible refine CB.mono ?_); rintro x w2 ⟨rfl, hB2⟩)
    obtain ⟨e0, e1⟩ := stwo hB2
    refine leaves_cons (f := 24) (args := #[.pointer (some ⟨w.heap.size, 0, none⟩), .pointer (some ⟨w.heap.size + 1, 0, none⟩)]) (by simp) (by simp [go_sem]) ?_
    refine (scatch_it w.heap.size (w.heap.size + 1) (0, 100) _ _ _ (by omega) e0 e1).mono ?_
    rintro x u w3 ⟨rfl, rfl, k0, k1, hB3⟩
    have hbb := B2 hB2
    simp [Leaves, settle, results, Tryd.results15, go_sem, k0, k1]
    exact hbb.trans (hB3 _ hbb.size (by omega) (by omega))
  · rw [hc] at CA0
    have CB := CA0.mono (fun e W' (h : CK true e ∧ _) => show e = .returned (.tuple #[]) ∧ _ from ⟨(by rcases h.1 with ⟨_, h⟩ | ⟨h, _⟩; exact h; cases h), h.2⟩)
    clear CA0
    have BD : ∀ w1, Below w.heap.size w w1 → Calls Tryd.prog 26 #[.pointer (some ⟨w1.heap.size, 0, none⟩), v, .int .i64 0] (w1.alloc (.cells #[.pointer none, .slice none 0 0, .string ⟨#[]⟩] 70)) fun e W' => e = .panicked [flt (0, 1)] ∧ Below w1.heap.size w1 W' := fun w1 h => by
      have h1 : WS w1 (w1.alloc (.cells #[.pointer none, .slice none 0 0, .string ⟨#[]⟩] 70)) w1.heap.size [] ⟨#[]⟩ := ⟨bal (Below.refl _ _) _, Nat.le_refl _, _, _, bk_new _ _ _, .inl rfl, World.ownsRow_nil _ _ _ _⟩
      refine (wbody_any (rs.length + 1) rs.length (by omega) rs 0 v w1 _ w1.heap.size [] ⟨#[]⟩ (Nat.le_refl _) (by omega) hc (hS.below h) h1 (by simp) (hv.below h) hl hz).mono ?_
      rintro e W' ⟨_, k1, _, _, k4⟩
      rcases k4 with ⟨k4, _⟩ | ⟨_, k4⟩
      · rw [List.length_nil, Nat.zero_add] at k4; omega
      · exact ⟨k4, k1⟩
    clear hS hv hl hz hc hlen
    go_enter_defers Tryd.func15, Tryd.ntmps15
    go_wp2_with (first | (go_at_call 25; (with_reducible refine CB.mono ?_); rintro x w2 ⟨rfl, hB2⟩) | (go_at_call 26; (with_reducible refine (BD w2 (B2 hB2)).mono ?_); rintro x w4 ⟨rfl, hB4⟩))
    have hB5 := btr hB2 hB4
    obtain ⟨e0, e1⟩ := stwo hB5
    refine leaves_cons (f := 24) (args := #[.pointer (some ⟨w.heap.size, 0, none⟩), .pointer (some ⟨w.heap.size + 1, 0, none⟩)]) (by simp) (by simp [go_sem]) ?_
    refine (scatch_it w.heap.size (w.heap.size + 1) (0, 1) _ _ _ (by omega) e0 e1).mono ?_
    rintro x u w3 ⟨rfl, rfl, k0, k1, hB3⟩
    have hbb := B2 hB5
    simp [Leaves, settle, results, Tryd.results15, go_sem, k0, k1]
    exact hbb.trans (hB3 _ hbb.size (by omega) (by omega))
  · rw [hc] at CA0
    have CB := CA0.mono (fun e W' (h : CK true e ∧ _) => show e = .returned (.tuple #[]) ∧ _ from ⟨(by rcases h.1 with ⟨_, h⟩ | ⟨h, _⟩; exact h; cases h), h.2⟩)
    clear CA0
    have BD : ∀ w1, Below w.heap.size w w1 → Calls Tryd.prog 26 #[.pointer (some ⟨w1.heap.size, 0, none⟩), v, .int .i64 0] (w1.alloc (.cells #[.pointer none, .slice none 0 0, .string ⟨#[]⟩] 70)) fun e W' => e = .returned (.tuple #[]) ∧ Below w1.heap.size w1 W' ∧ w1.heap.size < W'.heap.size ∧ Calls Tryd.prog 27 #[.pointer (some ⟨w1.heap.size, 0, none⟩)] W' fun e W'' => e = .returned (.string ⟨(bodyB rs.length 0 rs).toArray⟩) ∧ Below w1.heap.size w1 W'' := fun w1 h => by
      have h1 : WS w1 (w1.alloc (.cells #[.pointer none, .slice none 0 0, .string ⟨#[]⟩] 70)) w1.heap.size [] ⟨#[]⟩ := ⟨bal (Below.refl _ _) _, Nat.le_refl _, _, _, bk_new _ _ _, .inl rfl, World.ownsRow_nil _ _ _ _⟩
      cases rs with
      | nil =>
        obtain ⟨a, c, vs, rfl, _⟩ := hS
        have bk := bk_new w1 #[.pointer none, .slice none 0 0, .string ⟨#[]⟩] 70
        go_enter Tryd.func26, Tryd.ntmps26
        go_wp2
        go_loopg [1] 1 (fun g v0 wr => g = 1 ∧ v0 = .slice a 0 c ∧ wr = w1.alloc (.cells #[.pointer none, .slice none 0 0, .string ⟨#[]⟩] 70))
        case atStart => exact ⟨rfl, rfl, rfl⟩
        case round =>
          obtain ⟨rfl, rfl, rfl⟩ := hrel
          go_wp2
          go_end0
          refine ⟨rfl, h1.below, bk.lt, (string_none _ _ _ _ bk).mono ?_⟩
          rintro e W' ⟨rfl, n, rfl⟩
          exact ⟨rfl, below_drewN h1.below n⟩
      | cons r rs =>
        refine (wbody_any ((r :: rs).length + 1) (r :: rs).length (by omega) (r :: rs) 0 v w1 _ w1.heap.size [] ⟨#[]⟩ (Nat.le_refl _) (by omega) hc (hS.below h) h1 (by simp) (hv.below h) hl hz).mono ?_
        rintro e W' ⟨l', k1, k2, k3, k4⟩
        rcases k4 with ⟨_, k5, k6⟩ | ⟨k4, _⟩
        · rw [List.nil_append] at k6
          exact ⟨k5, k1, (k6.cell2).2.2, string_some w1 W' _ _ _ k6 body_ne hlen⟩
        · rw [List.length_nil, Nat.zero_add] at k4; omega
    clear hS hv hl hz hc hlen
    generalize (bodyB rs.length 0 rs).toArray = TXT at *
    go_enter_defers Tryd.func15, Tryd.ntmps15
    go_wp2_with (first | (go_at_call 25; (with_reducible refine CB.mono ?_); rintro x w2 ⟨rfl, hB2⟩) | (go_at_call 26; (with_reducible refine (BD w2 (B2 hB2)).mono ?_); rintro x w4 ⟨rfl, hB4, hz4, hST⟩) | (go_at_call 27; (with_reducible refine hST.mono ?_); rintro x w5 ⟨rfl, hB5⟩; have hB6 := btr hB2 hB5; obtain ⟨e0, e1⟩ := stwo hB6; have f0 : w5.cell? ⟨w.heap.size, 0, none⟩ = some (.string ⟨#[]⟩) := e0.cell 0; have f1 : w5.cell? ⟨w.heap.size + 1, 0, none⟩ = some (.int .i64 0) := e1.cell 0; have g0 := e0.free 0; have g1 := e1.free 0; have gl := e1.lt))
    have hb3 := bset (bset (B2 hB6) w.heap.size 0 (.string ⟨TXT⟩) (by omega)) (w.heap.size + 1) 0 (.int .i64 0) (by omega)
    have k0 := (e0.set 0 (.string ⟨TXT⟩)).far (c := w.heap.size + 1) (by omega) 0 (.int .i64 0)
    have k1 := (e1.far (c := w.heap.size) (by omega) 0 (.string ⟨TXT⟩)).set 0 (.int .i64 0)
    refine leaves_cons (f := 24) (args := #[.pointer (some ⟨w.heap.size, 0, none⟩), .pointer (some ⟨w.heap.size + 1, 0, none⟩)]) (by simp) (by simp [go_sem]) ?_
    refine (scatch_idle w.heap.size (w.heap.size + 1) _).mono ?_
    rintro x u w3 ⟨rfl, rfl, hB3⟩
    have m0 : w3.cell? ⟨w.heap.size, 0, none⟩ = some (.string ⟨TXT⟩) := BK.cell ((hB3.block _ k0.lt).trans k0) 0
    have m1 : w3.cell? ⟨w.heap.size + 1, 0, none⟩ = some (.int .i64 0) := BK.cell ((hB3.block _ k1.lt).trans k1) 0
    have hBF := btr hb3 hB3
    clear hb3 k0 k1 hB3
    simp [Leaves, settle, results, Tryd.results15, go_sem, m0, m1]
    exact hBF
end Go.Proofs.YtiepbfeliehjnaaDoor
