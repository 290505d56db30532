/-
  The reader in memory; its calls take, sees, sign, plainName.
-/
import Derived.Test.YtiepbfeliehjnaaDoorP0
import Derived.Test.YtiepbfeliehjnaaDoorA4
import Derived.WalkSmall
import Derived.Lib.ParseIntBTie
namespace Go.Proofs.YtiepbfeliehjnaaDoor
open Go.RowKit Go.Sort

/-- What is thrown at a fault. -/
abbrev flt (q : Fa) : PanicEntry := { v := .iface 56 (.agg #[.int .i64 q.1, .int .i64 (q.2 : Nat)]), recovered := false }
/-- A token as a value. -/
abbrev tv (t : Tk) : Value := .agg #[.int .i64 t.k, .string t.t, .int .i64 t.p]
/-- A slice of tokens, whatever its address where it is empty. -/
def SF (W : World) (v : Value) (l : List Tk) : Prop := ∃ a c, v = .slice a l.length c ∧ l.length ≤ c ∧ ∀ k, k < l.length → ∃ b o, a = some ⟨b, o, none⟩ ∧ RT W b o l
theorem SF.below {W W' : World} {v : Value} {l : List Tk} (h : SF W v l) (hb : Below W.heap.size W W') : SF W' v l := by
  obtain ⟨a, c, e, hc, hr⟩ := h
  exact ⟨a, c, e, hc, fun k hk => by obtain ⟨b, o, e, r⟩ := hr k hk; exact ⟨b, o, e, r.below hb⟩⟩
theorem SL.form {W : World} {v : Value} {l : List Tk} (h : SL W v l) : SF W v l := by
  rcases h with ⟨rfl, rfl⟩ | ⟨b, o, c, rfl, hc, r⟩
  · exact ⟨none, 0, rfl, Nat.le_refl _, fun k hk => absurd hk (Nat.not_lt_zero _)⟩
  · exact ⟨_, c, rfl, hc, fun _ _ => ⟨b, o, rfl, r⟩⟩
theorem bcell {W w1 : World} (hb : Below W.heap.size W w1) : (∀ b o, b < W.heap.size → w1.cell? ⟨b, o, none⟩ = W.cell? ⟨b, o, none⟩) ∧ (∀ b o, b < W.heap.size → w1.frozen? ⟨b, o, none⟩ = W.frozen? ⟨b, o, none⟩) :=
  ⟨fun b o h => hb.cell (p := ⟨b, o, none⟩) h, fun b o h => hb.frozen (p := ⟨b, o, none⟩) h⟩
/-- A block and all that it holds. -/
abbrev BK (W : World) (b : Nat) (cs : Array Value) (T : TypeId) : Prop := W.heap[b]? = some (.cells cs T (0, 0))
theorem BK.lt {W : World} {b : Nat} {cs : Array Value} {T : TypeId} (h : BK W b cs T) : b < W.heap.size := (Array.getElem?_eq_some_iff.1 h).1
theorem BK.set {W : World} {b : Nat} {cs : Array Value} {T : TypeId} (h : BK W b cs T) (k : Nat) (v : Value) : BK (W.setCell ⟨b, k, none⟩ v) b (cs.setIfInBounds k v) T := by
  unfold BK at *
  simp [World.setCell, Array.getElem?_modify, h]
theorem BK.far {W : World} {b c : Nat} {cs : Array Value} {T : TypeId} (h : BK W b cs T) (hne : c ≠ b) (k : Nat) (v : Value) : BK (W.setCell ⟨c, k, none⟩ v) b cs T := by
  unfold BK at *
  simp [World.setCell, Array.getElem?_modify, hne, h]
theorem BK.alloc {W : World} {b : Nat} {cs : Array Value} {T : TypeId} (h : BK W b cs T) (o : Obj) : BK (W.alloc o) b cs T := (Lib.alloc_old W o b h.lt).trans h
theorem BK.cell {W : World} {b : Nat} {cs : Array Value} {T : TypeId} (h : BK W b cs T) (k : Nat) : W.cell? ⟨b, k, none⟩ = cs[k]? := Lib.cell_of_heap h k
theorem BK.free {W : World} {b : Nat} {cs : Array Value} {T : TypeId} (h : BK W b cs T) (k : Nat) : W.frozen? ⟨b, k, none⟩ = false := Lib.frozen_of_heap h k
theorem bk_new (W : World) (cs : Array Value) (T : TypeId) : BK (W.alloc (.cells cs T)) W.heap.size cs T := heap_alloc_new W _
/-- But for one block nothing that was there has turned. -/
abbrev GB (W W' : World) (rb : Nat) : Prop := W.grownBy W' (some rb)
section
variable {W W1 W2 : World} {rb : Nat}
theorem gb_refl (W : World) (rb : Nat) : GB W W rb := World.grownBy.refl W _
theorem gb_trans (h : GB W W1 rb) (g : GB W1 W2 rb) : GB W W2 rb :=
  ⟨g.os.trans h.os, g.tape.trans h.tape, g.output.trans h.output, Nat.le_trans h.size g.size, fun k hk hne => (g.block k (Nat.lt_of_lt_of_le hk h.size) hne).trans (h.block k hk hne)⟩
theorem gb_below (h : GB W W1 rb) (g : Below W1.heap.size W1 W2) : GB W W2 rb := gb_trans h ⟨g.os, g.tape, g.output, g.size, fun k hk _ => g.block k hk⟩
theorem gb_alloc (h : GB W W1 rb) (o : Obj) : GB W (W1.alloc o) rb := gb_below h (bal (Below.refl _ _) _)
theorem gb_set (h : GB W W1 rb) (b o : Nat) (v : Value) (hb : b = rb ∨ W.heap.size ≤ b) : GB W (W1.setCell ⟨b, o, none⟩ v) rb := by
  refine ⟨h.os, h.tape, h.output, by simpa [World.setCell] using h.size, fun k hk hne => ?_⟩
  rw [Below.heap_setCell W1 ⟨b, o, none⟩ v k (fun e => by
    have e : k = b := e
    rcases hb with rfl | hb
    · exact hne (by rw [e])
    · omega)]
  exact h.block k hk hne
theorem gb_drewN (h : GB W W1 rb) (n : Nat) : GB W (W1.drewN n) rb := ⟨h.os, h.tape, h.output, h.size, h.block⟩
theorem gb_drew (h : GB W W1 rb) : GB W W1.drew rb := ⟨h.os, h.tape, h.output, h.size, h.block⟩
theorem gb_bk (h : GB W W1 rb) {b : Nat} {cs : Array Value} {T : TypeId} (hb : BK W b cs T) (hne : b ≠ rb) : BK W1 b cs T := (h.block b hb.lt (fun e => hne (Option.some.inj e))).trans hb
end
/-- A variable that holds an error; what is asked of the world: a table, an error. -/
def Ev (w : World) (n : String) : Prop := ∃ te pe, w.var? Tryd.prog n = some #[.iface te pe]
structure VR (w : World) : Prop where
  pow : Lib.TabIs Tryd.prog w "internal/strconv.uint64pow10" .u64 Lib.pow10Tab
  ra : Ev w "strconv.ErrRange"
theorem VR.below {w w' : World} (h : VR w) (hb : Below w.heap.size w w') : VR w' := by
  obtain ⟨te, pe, h1⟩ := h.ra
  exact ⟨Go.Joins.tab_stays (g := 2) (by kernel_rfl) h.pow hb (Nat.le_refl _), te, pe, Go.Joins.var_stays (g := 1) (by kernel_rfl) h1 hb (Nat.le_refl _)⟩
/-- The reader, over the world w in which its tokens lie. -/
structure RS0 (w W : World) (rb : Nat) (ts : Value) (l : List Tk) (n : Int) (i : Nat) (v : Value) : Prop where
  tok : SF w ts l
  below : Below w.heap.size w W
  ge : w.heap.size ≤ rb
  blk : BK W rb #[ts, .int .i64 i, .int .i64 n, v] 59
  le : i ≤ l.length
  len : l.length ≤ 65536
  all : AllR l
  sz : ∀ k (h : k < l.length), l[k].t.size ≤ 65536
  vr : VR w
theorem RS0.go {w W W' : World} {rb : Nat} {ts : Value} {l : List Tk} {n : Int} {i j : Nat} {v v' : Value} (H : RS0 w W rb ts l n i v) (g : GB W W' rb) (hb : BK W' rb #[ts, .int .i64 j, .int .i64 n, v'] 59) (hj : j ≤ l.length) : RS0 w W' rb ts l n j v' :=
  ⟨H.tok, H.below.grown g H.below.size (fun k e => by rw [← Option.some.inj e]; exact H.ge), H.ge, hb, hj, H.len, H.all, H.sz, H.vr⟩
theorem RS0.on {w W W' : World} {rb : Nat} {ts : Value} {l : List Tk} {n : Int} {i : Nat} {v : Value} (H : RS0 w W rb ts l n i v) (g : Below W.heap.size W W') : RS0 w W' rb ts l n i v :=
  ⟨H.tok, btr H.below g, H.ge, (g.block rb H.blk.lt).trans H.blk, H.le, H.len, H.all, H.sz, H.vr⟩
theorem drop_at {l : List Tk} {i : Nat} (h : i < l.length) : l.drop i = l[i] :: l.drop (i + 1) := List.drop_eq_getElem_cons h
theorem drop_out {l : List Tk} {i : Nat} (h : ¬ i < l.length) : l.drop i = [] := List.drop_eq_nil_of_le (by omega)


/-- A block through draws. -/
theorem BK.drew {W : World} {b : Nat} {cs : Array Value} {T : TypeId} (h : BK W b cs T) : BK W.drew b cs T := h
theorem BK.drewN {W : World} {b : Nat} {cs : Array Value} {T : TypeId} (h : BK W b cs T) (n : Nat) : BK (W.drewN n) b cs T := h
set_option maxHeartbeats 1000000 in
theorem take_ok (w W : World) (rb : Nat) (ts : Value) (l : List Tk) (n : Int) (i : Nat) (v : Value) (H : RS0 w W rb ts l n i v) (hi : i < l.length) :
    Calls Tryd.prog 59 #[.pointer (some ⟨rb, 0, none⟩)] W fun e W' => e = .returned (tv l[i]) ∧ GB W W' rb ∧ RS0 w W' rb ts l n (i + 1) v := by
  have HH : Hid (RS0 w W rb ts l n i v) := H
  have c0 := H.blk.cell 0
  have c1 := H.blk.cell 1
  have f1 := H.blk.free 1
  have hlt := H.blk.lt
  have hlen := H.len
  have hB := H.below.size
  simp at c0 c1
  have hge := H.ge
  obtain ⟨a, c, rfl, hc, hr⟩ := H.tok
  obtain ⟨b, o, rfl, r0⟩ := hr i hi
  have hne : rb ≠ b := by have := r0.lt; omega
  have hne2 : b ≠ rb := by omega
  have r := r0.below H.below
  have d0 := r.c0 i hi
  have d1 := r.c1 i hi
  have d2 := r.c2 i hi
  have hbl := r.lt
  clear r r0 hr H
  go_enter Tryd.func59, Tryd.ntmps59
  go_upto_region 1 with (fail)
  go_quiet (fail)
  go_wp2
  go_region
  go_wp2
  have hg : ∀ (o1 : Obj) (m : Nat) (x y1 y2 y3 : Value), GB W ((((((W.alloc o1).drewN m).setCell ⟨rb, 1, none⟩ x).setCell ⟨W.heap.size, 0, none⟩ y1).setCell ⟨W.heap.size, 1, none⟩ y2).setCell ⟨W.heap.size, 2, none⟩ y3).drew rb := fun o1 m x y1 y2 y3 =>
    gb_drew (gb_set (gb_set (gb_set (gb_set (gb_drewN (gb_alloc (gb_refl _ _) _) _) _ _ _ (.inl rfl)) _ _ _ (.inr (Nat.le_refl _))) _ _ _ (.inr (Nat.le_refl _))) _ _ _ (.inr (Nat.le_refl _)))
  refine bodyPost_ret (v := tv l[i]) (by simp [results, Tryd.results59, go_sem]) rfl ⟨rfl, hg _ _ _ _ _ _, HH.out.go (hg _ _ _ _ _ _) ?_ (by omega)⟩
  exact ((((BK.set ((HH.out.blk.alloc _).drewN _) 1 _).far (by omega) 0 _).far (by omega) 1 _).far (by omega) 2 _).drew
set_option maxHeartbeats 1000000 in
theorem take_no (w W : World) (rb : Nat) (ts : Value) (l : List Tk) (n : Int) (i : Nat) (v : Value) (H : RS0 w W rb ts l n i v) (hi : ¬ i < l.length) :
    Calls Tryd.prog 59 #[.pointer (some ⟨rb, 0, none⟩)] W fun e W' => e = .panicked [flt (n, 101)] ∧ GB W W' rb := by
  have c0 := H.blk.cell 0
  have c1 := H.blk.cell 1
  have c2 := H.blk.cell 2
  have hlt := H.blk.lt
  have hlen := H.len
  simp at c0 c1 c2
  obtain ⟨a, c, rfl, hc, hr⟩ := H.tok
  have h1 : l.length ≤ i := by omega
  clear hr H
  go_enter Tryd.func59, Tryd.ntmps59
  go_upto_region 1 with (fail)
  go_quiet (fail)
  go_wp2
  exact ⟨rfl, rfl, gb_drewN (gb_alloc (gb_refl _ _) _) _⟩
set_option maxHeartbeats 1000000 in
theorem sees_any (w W : World) (rb : Nat) (ts : Value) (l : List Tk) (n : Int) (i : Nat) (v : Value) (c : ByteArray) (H : RS0 w W rb ts l n i v) :
    Calls Tryd.prog 75 #[.pointer (some ⟨rb, 0, none⟩), .string c] W fun e W' => e = .returned (.bool (seesB c (l.drop i))) ∧ ∃ m, W' = W.drewN m := by
  have c0 := H.blk.cell 0
  have c1 := H.blk.cell 1
  have hlt := H.blk.lt
  have hlen := H.len
  simp at c0 c1
  by_cases hi : i < l.length
  · rw [drop_at hi]
    obtain ⟨a, cc, rfl, hc, hr⟩ := H.tok.below H.below
    obtain ⟨b, o, rfl, r⟩ := hr i hi
    have d1 := r.c1 i hi
    have hz := beq_str l[i].t c
    clear r hr H
    show Calls _ _ _ _ fun e W' => e = .returned (.bool (decide (l[i].t = c))) ∧ _
    rw [← hz]
    clear hz
    generalize l[i].t = t at *
    go_enter Tryd.func75, Tryd.ntmps75
    go_upto_region 1 with (fail)
    go_quiet (fail)
    go_wp2
    go_ret
    exact ⟨rfl, _, rfl⟩
  · rw [drop_out hi]
    obtain ⟨a, cc, rfl, hc, hr⟩ := H.tok
    have h1 : l.length ≤ i := by omega
    have h2 : decide (i < l.length) = false := decide_eq_false hi
    have h3 : decide ((i : Int) < (l.length : Int)) = false := decide_eq_false (by omega)
    clear hr H hi
    go_enter Tryd.func75, Tryd.ntmps75
    go_upto_region 1 with (fail)
    go_quiet (fail)
    go_wp2
    go_ret
    exact ⟨rfl, _, rfl⟩
/-- What a call tells that reads. -/
def Told {α : Type} (w W : World) (rb : Nat) (ts : Value) (l : List Tk) (n : Int) (v : Value) (f : α → Value) (r : Except Fa (α × List Tk)) (e : Ending) (W' : World) : Prop :=
  GB W W' rb ∧ ((∃ q, r = .error q ∧ e = .panicked [flt q]) ∨ ∃ x j, r = .ok (x, l.drop j) ∧ e = .returned (f x) ∧ RS0 w W' rb ts l n j v)
set_option maxHeartbeats 1000000 in
theorem sign_any' (w W : World) (rb : Nat) (ts : Value) (l : List Tk) (n : Int) (i : Nat) (v : Value) (c : ByteArray) (H : RS0 w W rb ts l n i v) :
    Calls Tryd.prog 64 #[.pointer (some ⟨rb, 0, none⟩), .string c] W (Told w W rb ts l n v tv (signP n c (l.drop i))) := by
  have HA := fun o => H.on (bal (Below.refl W.heap.size W) o)
  have hlt := H.blk.lt
  by_cases hi : i < l.length
  · rw [drop_at hi]
    have TK := fun o => take_ok w (W.alloc o) rb ts l n i v (HA o) hi
    have hz := beq_str l[i].t c
    by_cases hc : l[i].t = c
    · have e : signP n c (l[i] :: l.drop (i + 1)) = .ok (l[i], l.drop (i + 1)) := by simp only [signP, if_pos hc]
      rw [e]
      rw [decide_eq_true hc] at hz
      clear e hc H HA
      unfold Told
      go_enter Tryd.func64, Tryd.ntmps64
      go_wp2_with (go_at_call 59; (with_reducible refine (TK _).mono ?_); rintro e w1 ⟨rfl, hG, hR⟩; have bx := gb_bk hG (bk_new W _ _) (Nat.ne_of_gt hlt); have hs := bx.lt; have x0 : w1.cell? ⟨W.heap.size, 0, none⟩ = some (.int .i64 0) := bx.cell 0; have x1 : w1.cell? ⟨W.heap.size, 1, none⟩ = some (.string ⟨#[]⟩) := bx.cell 1; have x2 : w1.cell? ⟨W.heap.size, 2, none⟩ = some (.int .i64 0) := bx.cell 2; have y0 := bx.free 0; have y1 := bx.free 1; have y2 := bx.free 2; clear bx)
      have hg : ∀ (o1 : Obj) (y1 y2 y3 : Value), GB W ((((w1.setCell ⟨W.heap.size, 0, none⟩ y1).setCell ⟨W.heap.size, 1, none⟩ y2).setCell ⟨W.heap.size, 2, none⟩ y3).alloc o1) rb := fun o1 y1 y2 y3 =>
        gb_alloc (gb_set (gb_set (gb_set (gb_trans (gb_alloc (gb_refl _ _) _) hG) _ _ _ (.inr (Nat.le_refl _))) _ _ _ (.inr (Nat.le_refl _))) _ _ _ (.inr (Nat.le_refl _))) _
      have hge := hR.ge
      have hws := hR.below
      refine bodyPost_ret (v := tv l[i]) (by simp [results, Tryd.results64, go_sem, x0, x1, x2, hs]) rfl ⟨hg _ _ _ _, .inr ⟨_, i + 1, rfl, rfl, ?_⟩⟩
      exact ⟨hR.tok, (((hws.setCell (p := ⟨W.heap.size, 0, none⟩) (Nat.le_trans hge (Nat.le_of_lt hlt)) _).setCell (p := ⟨W.heap.size, 1, none⟩) (Nat.le_trans hge (Nat.le_of_lt hlt)) _).setCell (p := ⟨W.heap.size, 2, none⟩) (Nat.le_trans hge (Nat.le_of_lt hlt)) _).alloc (by simp; omega) _, hge, (((hR.blk.far (Nat.ne_of_gt hlt) 0 _).far (Nat.ne_of_gt hlt) 1 _).far (Nat.ne_of_gt hlt) 2 _).alloc _, hR.le, hR.len, hR.all, hR.sz, hR.vr⟩
    · have e : signP n c (l[i] :: l.drop (i + 1)) = .error (l[i].p, 100) := by simp only [signP, if_neg hc]
      rw [e]
      rw [decide_eq_false hc] at hz
      clear e hc H HA
      unfold Told
      go_enter Tryd.func64, Tryd.ntmps64
      go_wp2_with (go_at_call 59; (with_reducible refine (TK _).mono ?_); rintro e w1 ⟨rfl, hG, hR⟩; have bx := gb_bk hG (bk_new W _ _) (Nat.ne_of_gt hlt); have hs := bx.lt; have x0 : w1.cell? ⟨W.heap.size, 0, none⟩ = some (.int .i64 0) := bx.cell 0; have x1 : w1.cell? ⟨W.heap.size, 1, none⟩ = some (.string ⟨#[]⟩) := bx.cell 1; have x2 : w1.cell? ⟨W.heap.size, 2, none⟩ = some (.int .i64 0) := bx.cell 2; have y0 := bx.free 0; have y1 := bx.free 1; have y2 := bx.free 2; clear bx)
      exact ⟨rfl, gb_alloc (gb_trans (gb_alloc (gb_refl _ _) _) hG) _, .inl ⟨_, rfl, rfl⟩⟩
  · rw [drop_out hi]
    have TK := fun o => take_no w (W.alloc o) rb ts l n i v (HA o) hi
    clear H
    unfold Told
    go_enter Tryd.func64, Tryd.ntmps64
    go_wp2_with (go_at_call 59; (with_reducible refine (TK _).mono ?_); rintro e w1 ⟨rfl, hG⟩)
    exact ⟨rfl, gb_trans (gb_alloc (gb_refl _ _) _) hG, .inl ⟨_, rfl, rfl⟩⟩
set_option maxHeartbeats 1000000 in
theorem name_any (w W : World) (rb : Nat) (ts : Value) (l : List Tk) (n : Int) (i : Nat) (v : Value) (H : RS0 w W rb ts l n i v) :
    Calls Tryd.prog 61 #[.pointer (some ⟨rb, 0, none⟩)] W (Told w W rb ts l n v Value.string (nameP n (l.drop i))) := by
  have hlt := H.blk.lt
  by_cases hi : i < l.length
  · rw [drop_at hi]
    have TK := take_ok w W rb ts l n i v H hi
    have OW := fun w => isOwn_any l[i].t w
    by_cases hk : l[i].k = 1
    · cases ho : ownB l[i].t with
      | true =>
        have e : nameP n (l[i] :: l.drop (i + 1)) = .error (l[i].p, 100) := by simp only [nameP, plnB, ho]; simp
        rw [e]
        rw [ho] at OW
        clear e H ho
        unfold Told
        go_enter Tryd.func61, Tryd.ntmps61
        go_wp2_with (first | (go_at_call 59; (with_reducible refine TK.mono ?_); rintro e w1 ⟨rfl, hG, hR⟩) | (go_at_call 60; (with_reducible refine (OW _).mono ?_); rintro e w2 ⟨rfl, hN⟩; obtain ⟨hc, hf⟩ := bcell hN))
        exact ⟨rfl, gb_below (gb_alloc hG _) hN, .inl ⟨_, rfl, rfl⟩⟩
      | false =>
        have e : nameP n (l[i] :: l.drop (i + 1)) = .ok (l[i].t, l.drop (i + 1)) := by simp only [nameP, plnB, ho, hk]; simp
        rw [e]
        rw [ho] at OW
        clear e H ho
        unfold Told
        go_enter Tryd.func61, Tryd.ntmps61
        go_wp2_with (first | (go_at_call 59; (with_reducible refine TK.mono ?_); rintro e w1 ⟨rfl, hG, hR⟩) | (go_at_call 60; (with_reducible refine (OW _).mono ?_); rintro e w2 ⟨rfl, hN⟩; obtain ⟨hc, hf⟩ := bcell hN))
        go_ret
        exact ⟨gb_below (gb_alloc hG _) hN, .inr ⟨_, i + 1, rfl, rfl, (hR.on (bal (Below.refl _ _) _)).on hN⟩⟩
    · have e : nameP n (l[i] :: l.drop (i + 1)) = .error (l[i].p, 100) := by simp only [nameP, plnB, decide_eq_false hk]; simp
      rw [e]
      have hk2 : (l[i].k != 1) = true := by simpa using hk
      clear e H OW hk
      unfold Told
      go_enter Tryd.func61, Tryd.ntmps61
      go_wp2_with (go_at_call 59; (with_reducible refine TK.mono ?_); rintro e w1 ⟨rfl, hG, hR⟩)
      exact ⟨rfl, gb_alloc hG _, .inl ⟨_, rfl, rfl⟩⟩
  · rw [drop_out hi]
    have TK := take_no w W rb ts l n i v H hi
    clear H
    unfold Told
    go_enter Tryd.func61, Tryd.ntmps61
    go_wp2_with (go_at_call 59; (with_reducible refine TK.mono ?_); rintro e w1 ⟨rfl, hG⟩)
    exact ⟨rfl, hG, .inl ⟨_, rfl, rfl⟩⟩
end Go.Proofs.YtiepbfeliehjnaaDoor
