/-
  The sign of p + q times the square root of 2, as the code finds it.
-/
import Derived.Test.YtalaacfoaelipaaDoorT1
namespace Go.Proofs.YtalaacfoaelipaaDoor
open Go.RowKit Go.Sort

theorem keep4 {w W : World} {p q : Int} (h : Below ((w.alloc (.cells #[.int .u64 (hiW p), .int .u64 (loW p)] 64)).alloc (.cells #[.int .u64 (hiW q), .int .u64 (loW q)] 64)).heap.size ((w.alloc (.cells #[.int .u64 (hiW p), .int .u64 (loW p)] 64)).alloc (.cells #[.int .u64 (hiW q), .int .u64 (loW q)] 64)) W) : Below ((w.alloc (.cells #[.int .u64 (hiW p), .int .u64 (loW p)] 64)).alloc (.cells #[.int .u64 (hiW q), .int .u64 (loW q)] 64)).heap.size ((w.alloc (.cells #[.int .u64 (hiW p), .int .u64 (loW p)] 64)).alloc (.cells #[.int .u64 (hiW q), .int .u64 (loW q)] 64)) W ∧ W.cell? ⟨w.heap.size, 0, none⟩ = some (.int .u64 (hiW p)) ∧ W.cell? ⟨w.heap.size, 1, none⟩ = some (.int .u64 (loW p)) ∧ W.cell? ⟨w.heap.size + 1, 0, none⟩ = some (.int .u64 (hiW q)) ∧ W.cell? ⟨w.heap.size + 1, 1, none⟩ = some (.int .u64 (loW q)) := by
  have hs : ((w.alloc (.cells #[.int .u64 (hiW p), .int .u64 (loW p)] 64)).alloc (.cells #[.int .u64 (hiW q), .int .u64 (loW q)] 64)).heap.size = w.heap.size + 2 := by rw [alz, alz]
  have k0 : ∀ i, W.cell? ⟨w.heap.size, i, none⟩ = (#[Value.int .u64 (hiW p), .int .u64 (loW p)])[i]? := fun i => by
    rw [h.cell (p := ⟨w.heap.size, i, none⟩) (by rw [hs]; show w.heap.size < _; omega), World.cell?_alloc_past _ _ _ (by rw [alz]; omega), World.cell?_alloc_at _ _ _ _ rfl]
  have k1 : ∀ i, W.cell? ⟨w.heap.size + 1, i, none⟩ = (#[Value.int .u64 (hiW q), .int .u64 (loW q)])[i]? := fun i => by
    rw [h.cell (p := ⟨w.heap.size + 1, i, none⟩) (by rw [hs]; show w.heap.size + 1 < _; omega), World.cell?_alloc_at _ _ _ _ (by rw [alz])]
  exact ⟨h, k0 0, k0 1, k1 0, k1 1⟩

theorem wpOp_one {P : Program} {ops : Array Oper} {Q : Exit → Act → World → Prop} {i : Nat} {K : Act → World → Prop} {a : Act} {w : World} {o : Oper} (ho : ops[i]? = some o) (hg : o.guard = none) (h : o.wp P a w K Q) : wpOp P ops Q i K a w := by
  unfold wpOp
  simp only [ho]
  rw [if_pos (by unfold Region.wanted; rw [hg])]
  exact .inl h
theorem dep_of {ops : Array Oper} {bs : List Bool} {i : Nat} {o o' : Oper} (ho : ops[i]? = some o) (hdep : ∀ e ∈ o.after, Region.binds .any e = true → bs.toArray.getD e.on false = true)
    (h' : ops[i]? = some o') (k : Nat) (e : Edge) (he : o'.after[k]? = some e) (hb : Region.binds .any e = true) : bs.toArray.getD e.on false = true := by
  obtain rfl : o = o' := Option.some.inj (ho.symm.trans h')
  exact hdep e (Array.mem_of_getElem? he) hb
theorem rdy {ops : Array Oper} {bs : List Bool} {i : Nat} {o : Oper} (hr : Region.ready .any ops bs.toArray = []) (ho : ops[i]? = some o) (hu : bs.toArray.getD i true = false)
    (hd : ∀ e ∈ o.after, bs.toArray.getD e.on false = true) : False := by
  have : i ∈ Region.ready .any ops bs.toArray := mem_ready.2 ⟨hu, o, ho, fun e he _ => hd e he⟩
  rw [hr] at this
  cases this
theorem Wds.drewN {W : World} {B : Nat} {v : Int} (h : Wds W B v) (n : Nat) : Wds (W.drewN n) B v := ⟨by simpa using h.c0, by simpa using h.c1, by simpa using h.c2, by simpa using h.c3⟩
theorem szA {w w2 : World} {a : Obj} (h : Below (w.alloc a).heap.size (w.alloc a) w2) : w.heap.size < w2.heap.size ∧ w.heap.size ≤ w2.heap.size := by
  have := h.size; rw [alz] at this; omega
theorem szD {w w2 : World} {a : Obj} (h : Below (w.alloc a).drew.heap.size (w.alloc a).drew w2) : w.heap.size < w2.heap.size ∧ w.heap.size ≤ w2.heap.size := by
  have : (w.alloc a).heap.size ≤ w2.heap.size := h.size
  rw [alz] at this; omega
theorem szAA {w w2 : World} {a b : Obj} (h : Below ((w.alloc a).alloc b).heap.size ((w.alloc a).alloc b) w2) : w.heap.size < w2.heap.size ∧ w.heap.size ≤ w2.heap.size ∧ w.heap.size + 1 < w2.heap.size ∧ w.heap.size + 1 ≤ w2.heap.size := by
  have := h.size; rw [alz, alz] at this; omega
theorem szDD {w w2 : World} {a b : Obj} (h : Below ((w.alloc a).alloc b).drew.heap.size ((w.alloc a).alloc b).drew w2) : w.heap.size < w2.heap.size ∧ w.heap.size ≤ w2.heap.size ∧ w.heap.size + 1 < w2.heap.size ∧ w.heap.size + 1 ≤ w2.heap.size := by
  have : ((w.alloc a).alloc b).heap.size ≤ w2.heap.size := h.size
  rw [alz, alz] at this; omega
set_option maxHeartbeats 4000000 in
theorem signOf_core (p q x y u v s t c : Int) (w : World) (hst : ¬ s = t) (r : Int) (hr : (0 < c ∧ r = s) ∨ (¬ 0 < c ∧ r = t))
    (S1 : ∀ w, Calls Tryd.prog 60 #[wd p] w fun e w' => e = .returned (.int .i64 s) ∧ Below w.heap.size w w')
    (S2 : ∀ w, Calls Tryd.prog 60 #[wd q] w fun e w' => e = .returned (.int .i64 t) ∧ Below w.heap.size w w')
    (Z1 : ∀ w, Calls Tryd.prog 67 #[wd p] w fun e w' => e = .returned (wd x) ∧ Below w.heap.size w w')
    (Z2 : ∀ w, Calls Tryd.prog 67 #[wd q] w fun e w' => e = .returned (wd y) ∧ Below w.heap.size w w')
    (Q1 : ∀ w, Calls Tryd.prog 71 #[wd x] w fun e w' => e = .returned (qd u) ∧ Below w.heap.size w w')
    (Q2 : ∀ w, Calls Tryd.prog 71 #[wd y] w fun e w' => e = .returned (qd v) ∧ Below w.heap.size w w')
    (T2 : ∀ w, Calls Tryd.prog 72 #[qd v] w fun e w' => e = .returned (qd (v * 2)) ∧ Below w.heap.size w w')
    (CC : ∀ (B C : Nat) (W : World), Wds W B u → Wds W C (v * 2) → Calls Tryd.prog 73 #[.slice (some ⟨B, 0, none⟩) 4 4, .slice (some ⟨C, 0, none⟩) 4 4] W fun e w' => e = .returned (.int .i64 c) ∧ w' = W) :
    Calls Tryd.prog 50 #[wd p, wd q] w fun e w' => e = .returned (.int .i64 r) ∧ Below w.heap.size w w' := by
  have l2 : ∀ n : Nat, n < n + 1 + 1 := fun n => by omega
  have d2 : ∀ n : Nat, ¬ n = n + 1 + 1 := fun n => by omega
  go_enter Tryd.func50, Tryd.ntmps50
  go_wp2
  go_region_held3 (fun w' => Below ((w.alloc (.cells #[.int .u64 (hiW p), .int .u64 (loW p)] 64)).alloc (.cells #[.int .u64 (hiW q), .int .u64 (loW q)] 64)).heap.size ((w.alloc (.cells #[.int .u64 (hiW p), .int .u64 (loW p)] 64)).alloc (.cells #[.int .u64 (hiW q), .int .u64 (loW q)] 64)) w' ∧ w'.cell? ⟨w.heap.size, 0, none⟩ = some (.int .u64 (hiW p)) ∧ w'.cell? ⟨w.heap.size, 1, none⟩ = some (.int .u64 (loW p)) ∧ w'.cell? ⟨w.heap.size + 1, 0, none⟩ = some (.int .u64 (hiW q)) ∧ w'.cell? ⟨w.heap.size + 1, 1, none⟩ = some (.int .u64 (loW q))) ((refine keep4 ?_; repeat (first | exact hK | exact And.left (by assumption) | exact below_drew (by assumption) | exact below_drew (Below.refl _ _) | exact bdr (And.left (by assumption)) _ | exact btr (And.left (by assumption)) hN | refine bal ?_ _ | refine bset ?_ _ _ _ (by first | exact Below.size (by assumption) | exact Below.size (And.left (by assumption)) | exact Nat.le_succ_of_le (Below.size (by assumption)) | exact Nat.le_succ_of_le (Below.size (And.left (by assumption)))) | refine below_drew ?_)))
        (first
          | (go_at_call 60; (with_reducible refine (S1 _).mono ?_); rintro e w2 ⟨rfl, hN⟩; have hK := btr (And.left (by assumption)) hN; (first | (replace hL := btr hL hN) | (have hL := hN)); obtain ⟨hc, hf⟩ := bcell hL; (first | (have sz := szAA hL; obtain ⟨sN, sM, sP, sQ⟩ := sz) | (have sz := szDD hL; obtain ⟨sN, sM, sP, sQ⟩ := sz) | (have sz := szA hL; obtain ⟨sN, sM⟩ := sz) | (have sz := szD hL; obtain ⟨sN, sM⟩ := sz) | skip))
          | (go_at_call 60; (with_reducible refine (S2 _).mono ?_); rintro e w2 ⟨rfl, hN⟩; have hK := btr (And.left (by assumption)) hN; (first | (replace hL := btr hL hN) | (have hL := hN)); obtain ⟨hc, hf⟩ := bcell hL; (first | (have sz := szAA hL; obtain ⟨sN, sM, sP, sQ⟩ := sz) | (have sz := szDD hL; obtain ⟨sN, sM, sP, sQ⟩ := sz) | (have sz := szA hL; obtain ⟨sN, sM⟩ := sz) | (have sz := szD hL; obtain ⟨sN, sM⟩ := sz) | skip)))
  have hB : Below ((w.alloc (.cells #[.int .u64 (hiW p), .int .u64 (loW p)] 64)).alloc (.cells #[.int .u64 (hiW q), .int .u64 (loW q)] 64)).heap.size ((w.alloc (.cells #[.int .u64 (hiW p), .int .u64 (loW p)] 64)).alloc (.cells #[.int .u64 (hiW q), .int .u64 (loW q)] 64)) w2 := hK
  go_upto_region 4 with (fail)
  refine wp_region_inv (by kernel_rfl) (fun bs a' W => match bs with
      | [b0, b1, b2, b3, b4, b5, b6, b7, b8, b9, b10] => ∃ v15 v7 v8 v17 v18 v19 v20 v21 v22 v23 : Value, a' = { tmps := #[wd p, wd q, .pointer (some ⟨w.heap.size, 0, none⟩), .pointer (some ⟨w.heap.size + 1, 0, none⟩), .int .i64 0, .int .i64 s, .int .i64 t, v7, v8, .agg #[.int .u64 (hiW p), .int .u64 (loW p)], .int .i64 s, .agg #[.int .u64 (hiW q), .int .u64 (loW q)], .int .i64 t, .int .i64 s, .int .i64 t, v15, undef, v17, v18, v19, v20, v21, v22, v23, undef, undef, undef, undef, undef, undef], defers := [] } ∧ Below ((w.alloc (.cells #[.int .u64 (hiW p), .int .u64 (loW p)] 64)).alloc (.cells #[.int .u64 (hiW q), .int .u64 (loW q)] 64)).heap.size ((w.alloc (.cells #[.int .u64 (hiW p), .int .u64 (loW p)] 64)).alloc (.cells #[.int .u64 (hiW q), .int .u64 (loW q)] 64)) W ∧
          ((b0 = true → v17 = wd p) ∧ (b1 = true → v18 = wd x) ∧ (b2 = true → v19 = qd u) ∧ (b3 = true → v20 = wd q) ∧ (b4 = true → v21 = wd y) ∧ (b5 = true → v22 = qd v) ∧ (b6 = true → v23 = qd (v * 2))) ∧
          (b7 = true → ∃ B, v7 = Value.pointer (some ⟨B, 0, none⟩) ∧ Own ((w.alloc (.cells #[.int .u64 (hiW p), .int .u64 (loW p)] 64)).alloc (.cells #[.int .u64 (hiW q), .int .u64 (loW q)] 64)).heap.size W B ∧ (b9 = true → Wds W B u)) ∧
          (b8 = true → ∃ C, v8 = Value.pointer (some ⟨C, 0, none⟩) ∧ Own ((w.alloc (.cells #[.int .u64 (hiW p), .int .u64 (loW p)] 64)).alloc (.cells #[.int .u64 (hiW q), .int .u64 (loW q)] 64)).heap.size W C ∧ (b10 = true → Wds W C (v * 2))) ∧
          (b7 = true → b8 = true → v7 ≠ v8) ∧ (b9 = true → b7 = true) ∧ (b10 = true → b8 = true)
      | _ => False) ?_ ?_ ?_
  · exact ⟨_, undef, undef, undef, undef, undef, undef, undef, undef, undef, rfl, below_drew hB, by simp, by simp, by simp, by simp, by simp, by simp⟩
  · intro bs a' W i hl hI hi
    match bs, hl, hI, hi with
    | [b0, b1, b2, b3, b4, b5, b6, b7, b8, b9, b10], _, hI, hi =>
      obtain ⟨v15, v7, v8, v17, v18, v19, v20, v21, v22, v23, rfl, hW, ⟨i0, i1, i2, i3, i4, i5, i6⟩, i7, i8, i78, i97, i108⟩ := hI
      obtain ⟨hun, o, ho, hdep⟩ := mem_ready.1 hi
      have hlt : i < 11 := by
        have := (Array.getElem?_eq_some_iff.1 ho).1
        simpa using this
      rcases (show i = 0 ∨ i = 1 ∨ i = 2 ∨ i = 3 ∨ i = 4 ∨ i = 5 ∨ i = 6 ∨ i = 7 ∨ i = 8 ∨ i = 9 ∨ i = 10 by omega) with rfl | rfl | rfl | rfl | rfl | rfl | rfl | rfl | rfl | rfl | rfl
      · obtain ⟨_, k0, k1, k2, k3⟩ := keep4 hW
        refine wpOp_one (o := _) rfl rfl ?_
        generalize hK : (fun (a' : Act) (W : World) => _) = K
        unfold Oper.wp
        go_simp
        subst hK
        exact ⟨_, _, _, _, _, _, _, _, _, _, rfl, hW, by refine ⟨?_, ?_, ?_, ?_, ?_, ?_, ?_⟩ <;> first | assumption | (intro _; rfl), i7, i8, i78, i97, i108⟩
      · obtain rfl : b0 = true := dep_of ho hdep rfl 0 _ rfl rfl
        obtain rfl := i0 rfl
        refine wpOp_one (o := _) rfl rfl ?_
        generalize hK : (fun (a' : Act) (W : World) => _) = K
        unfold Oper.wp
        go_simp
        refine (Z1 _).mono ?_
        rintro e w3 ⟨rfl, hN⟩
        subst hK
        exact ⟨_, _, _, _, _, _, _, _, _, _, rfl, btr hW hN, by refine ⟨?_, ?_, ?_, ?_, ?_, ?_, ?_⟩ <;> first | assumption | (intro _; rfl), fun h => (by obtain ⟨B, e1, e2, e3⟩ := i7 h; exact ⟨B, e1, e2.below hN, fun g => (e3 g).below hN⟩), fun h => (by obtain ⟨B, e1, e2, e3⟩ := i8 h; exact ⟨B, e1, e2.below hN, fun g => (e3 g).below hN⟩), i78, i97, i108⟩
      · obtain rfl : b1 = true := dep_of ho hdep rfl 0 _ rfl rfl
        obtain rfl := i1 rfl
        refine wpOp_one (o := _) rfl rfl ?_
        generalize hK : (fun (a' : Act) (W : World) => _) = K
        unfold Oper.wp
        go_simp
        refine (Q1 _).mono ?_
        rintro e w3 ⟨rfl, hN⟩
        subst hK
        exact ⟨_, _, _, _, _, _, _, _, _, _, rfl, btr hW hN, by refine ⟨?_, ?_, ?_, ?_, ?_, ?_, ?_⟩ <;> first | assumption | (intro _; rfl), fun h => (by obtain ⟨B, e1, e2, e3⟩ := i7 h; exact ⟨B, e1, e2.below hN, fun g => (e3 g).below hN⟩), fun h => (by obtain ⟨B, e1, e2, e3⟩ := i8 h; exact ⟨B, e1, e2.below hN, fun g => (e3 g).below hN⟩), i78, i97, i108⟩
      · obtain ⟨_, k0, k1, k2, k3⟩ := keep4 hW
        refine wpOp_one (o := _) rfl rfl ?_
        generalize hK : (fun (a' : Act) (W : World) => _) = K
        unfold Oper.wp
        go_simp
        subst hK
        exact ⟨_, _, _, _, _, _, _, _, _, _, rfl, hW, by refine ⟨?_, ?_, ?_, ?_, ?_, ?_, ?_⟩ <;> first | assumption | (intro _; rfl), i7, i8, i78, i97, i108⟩
      · obtain rfl : b3 = true := dep_of ho hdep rfl 0 _ rfl rfl
        obtain rfl := i3 rfl
        refine wpOp_one (o := _) rfl rfl ?_
        generalize hK : (fun (a' : Act) (W : World) => _) = K
        unfold Oper.wp
        go_simp
        refine (Z2 _).mono ?_
        rintro e w3 ⟨rfl, hN⟩
        subst hK
        exact ⟨_, _, _, _, _, _, _, _, _, _, rfl, btr hW hN, by refine ⟨?_, ?_, ?_, ?_, ?_, ?_, ?_⟩ <;> first | assumption | (intro _; rfl), fun h => (by obtain ⟨B, e1, e2, e3⟩ := i7 h; exact ⟨B, e1, e2.below hN, fun g => (e3 g).below hN⟩), fun h => (by obtain ⟨B, e1, e2, e3⟩ := i8 h; exact ⟨B, e1, e2.below hN, fun g => (e3 g).below hN⟩), i78, i97, i108⟩
      · obtain rfl : b4 = true := dep_of ho hdep rfl 0 _ rfl rfl
        obtain rfl := i4 rfl
        refine wpOp_one (o := _) rfl rfl ?_
        generalize hK : (fun (a' : Act) (W : World) => _) = K
        unfold Oper.wp
        go_simp
        refine (Q2 _).mono ?_
        rintro e w3 ⟨rfl, hN⟩
        subst hK
        exact ⟨_, _, _, _, _, _, _, _, _, _, rfl, btr hW hN, by refine ⟨?_, ?_, ?_, ?_, ?_, ?_, ?_⟩ <;> first | assumption | (intro _; rfl), fun h => (by obtain ⟨B, e1, e2, e3⟩ := i7 h; exact ⟨B, e1, e2.below hN, fun g => (e3 g).below hN⟩), fun h => (by obtain ⟨B, e1, e2, e3⟩ := i8 h; exact ⟨B, e1, e2.below hN, fun g => (e3 g).below hN⟩), i78, i97, i108⟩
      · obtain rfl : b5 = true := dep_of ho hdep rfl 0 _ rfl rfl
        obtain rfl := i5 rfl
        refine wpOp_one (o := _) rfl rfl ?_
        generalize hK : (fun (a' : Act) (W : World) => _) = K
        unfold Oper.wp
        go_simp
        refine (T2 _).mono ?_
        rintro e w3 ⟨rfl, hN⟩
        subst hK
        exact ⟨_, _, _, _, _, _, _, _, _, _, rfl, btr hW hN, by refine ⟨?_, ?_, ?_, ?_, ?_, ?_, ?_⟩ <;> first | assumption | (intro _; rfl), fun h => (by obtain ⟨B, e1, e2, e3⟩ := i7 h; exact ⟨B, e1, e2.below hN, fun g => (e3 g).below hN⟩), fun h => (by obtain ⟨B, e1, e2, e3⟩ := i8 h; exact ⟨B, e1, e2.below hN, fun g => (e3 g).below hN⟩), i78, i97, i108⟩
      · have hb : b7 = false := hun
        refine wpOp_one (o := _) rfl rfl ?_
        generalize hK : (fun (a' : Act) (W : World) => _) = K
        unfold Oper.wp
        go_simp
        subst hK
        exact ⟨_, _, _, _, _, _, _, _, _, _, rfl, bal hW _, by refine ⟨?_, ?_, ?_, ?_, ?_, ?_, ?_⟩ <;> first | assumption | (intro _; rfl), fun _ => ⟨_, rfl, Own.new _ _ _ _ _ hW.size, fun g => absurd (i97 g) (by rw [hb]; simp)⟩, fun h => (by obtain ⟨B, e1, e2, e3⟩ := i8 h; exact ⟨B, e1, e2.below (bal (Below.refl _ _) _), fun g => (e3 g).below (bal (Below.refl _ _) _)⟩), fun _ h => (by obtain ⟨B, e1, e2, e3⟩ := i8 h; rw [e1]; intro e; have := e2.lt; injection e with e; injection e with e; injection e with e; omega), fun _ => rfl, i108⟩
      · have hb : b8 = false := hun
        refine wpOp_one (o := _) rfl rfl ?_
        generalize hK : (fun (a' : Act) (W : World) => _) = K
        unfold Oper.wp
        go_simp
        subst hK
        exact ⟨_, _, _, _, _, _, _, _, _, _, rfl, bal hW _, by refine ⟨?_, ?_, ?_, ?_, ?_, ?_, ?_⟩ <;> first | assumption | (intro _; rfl), fun h => (by obtain ⟨B, e1, e2, e3⟩ := i7 h; exact ⟨B, e1, e2.below (bal (Below.refl _ _) _), fun g => (e3 g).below (bal (Below.refl _ _) _)⟩), fun _ => ⟨_, rfl, Own.new _ _ _ _ _ hW.size, fun g => absurd (i108 g) (by rw [hb]; simp)⟩, fun h _ => (by obtain ⟨B, e1, e2, e3⟩ := i7 h; rw [e1]; intro e; have := e2.lt; injection e with e; injection e with e; injection e with e; omega), i97, fun _ => rfl⟩
      · obtain rfl : b7 = true := dep_of ho hdep rfl 0 _ rfl rfl
        obtain rfl : b2 = true := dep_of ho hdep rfl 1 _ rfl rfl
        obtain rfl : b8 = true := dep_of ho hdep rfl 11 _ rfl rfl
        obtain rfl := i2 rfl
        obtain ⟨B, rfl, oB, wB⟩ := i7 rfl
        obtain ⟨C, rfl, oC, wC⟩ := i8 rfl
        have hne : B ≠ C := fun e => i78 rfl rfl (by rw [e])
        obtain ⟨z0, hz0⟩ := Option.isSome_iff_exists.1 oB.c0
        have hf0 := oB.fz 0
        obtain ⟨z1, hz1⟩ := Option.isSome_iff_exists.1 oB.c1
        have hf1 := oB.fz 1
        obtain ⟨z2, hz2⟩ := Option.isSome_iff_exists.1 oB.c2
        have hf2 := oB.fz 2
        obtain ⟨z3, hz3⟩ := Option.isSome_iff_exists.1 oB.c3
        have hf3 := oB.fz 3
        refine wpOp_one (o := _) rfl rfl ?_
        generalize hK : (fun (a' : Act) (W : World) => _) = K
        unfold Oper.wp
        go_simp
        subst hK
        exact ⟨_, _, _, _, _, _, _, _, _, _, rfl, below_st (v := u) hW oB.ge, by refine ⟨?_, ?_, ?_, ?_, ?_, ?_, ?_⟩ <;> first | assumption | (intro _; rfl), fun _ => ⟨B, rfl, Own.st (v := u) oB oB, fun _ => st4_same u oB⟩, fun _ => ⟨C, rfl, Own.st (v := u) oB oC, fun g => Wds.st (v := u) hne (wC g)⟩, i78, fun _ => rfl, i108⟩
      · obtain rfl : b8 = true := dep_of ho hdep rfl 0 _ rfl rfl
        obtain rfl : b6 = true := dep_of ho hdep rfl 1 _ rfl rfl
        obtain rfl : b7 = true := dep_of ho hdep rfl 10 _ rfl rfl
        obtain rfl := i6 rfl
        obtain ⟨B, rfl, oB, wB⟩ := i7 rfl
        obtain ⟨C, rfl, oC, wC⟩ := i8 rfl
        have hne : B ≠ C := fun e => i78 rfl rfl (by rw [e])
        obtain ⟨z0, hz0⟩ := Option.isSome_iff_exists.1 oC.c0
        have hf0 := oC.fz 0
        obtain ⟨z1, hz1⟩ := Option.isSome_iff_exists.1 oC.c1
        have hf1 := oC.fz 1
        obtain ⟨z2, hz2⟩ := Option.isSome_iff_exists.1 oC.c2
        have hf2 := oC.fz 2
        obtain ⟨z3, hz3⟩ := Option.isSome_iff_exists.1 oC.c3
        have hf3 := oC.fz 3
        refine wpOp_one (o := _) rfl rfl ?_
        generalize hK : (fun (a' : Act) (W : World) => _) = K
        unfold Oper.wp
        go_simp
        subst hK
        exact ⟨_, _, _, _, _, _, _, _, _, _, rfl, below_st (v := v * 2) hW oC.ge, by refine ⟨?_, ?_, ?_, ?_, ?_, ?_, ?_⟩ <;> first | assumption | (intro _; rfl), fun _ => ⟨B, rfl, Own.st (v := v * 2) oC oB, fun g => Wds.st (v := v * 2) (Ne.symm hne) (wB g)⟩, fun _ => ⟨C, rfl, Own.st (v := v * 2) oC oC, fun _ => st4_same (v * 2) oC⟩, i78, i97, fun _ => rfl⟩
  · intro bs a' W hl hI hre
    match bs, hl, hI, hre with
    | [b0, b1, b2, b3, b4, b5, b6, b7, b8, b9, b10], _, hI, hre =>
      have t0 : b0 = true := by cases b0 with | true => rfl | false => exact (rdy hre (i := 0) rfl rfl (by simp)).elim
      subst t0
      have t3 : b3 = true := by cases b3 with | true => rfl | false => exact (rdy hre (i := 3) rfl rfl (by simp)).elim
      subst t3
      have t7 : b7 = true := by cases b7 with | true => rfl | false => exact (rdy hre (i := 7) rfl rfl (by simp)).elim
      subst t7
      have t8 : b8 = true := by cases b8 with | true => rfl | false => exact (rdy hre (i := 8) rfl rfl (by simp)).elim
      subst t8
      have t1 : b1 = true := by cases b1 with | true => rfl | false => exact (rdy hre (i := 1) rfl rfl (by simp)).elim
      subst t1
      have t2 : b2 = true := by cases b2 with | true => rfl | false => exact (rdy hre (i := 2) rfl rfl (by simp)).elim
      subst t2
      have t4 : b4 = true := by cases b4 with | true => rfl | false => exact (rdy hre (i := 4) rfl rfl (by simp)).elim
      subst t4
      have t5 : b5 = true := by cases b5 with | true => rfl | false => exact (rdy hre (i := 5) rfl rfl (by simp)).elim
      subst t5
      have t6 : b6 = true := by cases b6 with | true => rfl | false => exact (rdy hre (i := 6) rfl rfl (by simp)).elim
      subst t6
      have t9 : b9 = true := by cases b9 with | true => rfl | false => exact (rdy hre (i := 9) rfl rfl (by simp)).elim
      subst t9
      have t10 : b10 = true := by cases b10 with | true => rfl | false => exact (rdy hre (i := 10) rfl rfl (by simp)).elim
      subst t10
      obtain ⟨v15, v7, v8, v17, v18, v19, v20, v21, v22, v23, rfl, hW, _, i7, i8, _⟩ := hI
      obtain ⟨B, rfl, oB, wB⟩ := i7 rfl
      obtain ⟨C, rfl, oC, wC⟩ := i8 rfl
      replace wB := wB rfl
      replace wC := wC rfl
      have c73 := fun n => CC B C (W.drewN n) (wB.drewN n) (wC.drewN n)
      clear i7 i8 hre
      rcases hr with ⟨hc, rfl⟩ | ⟨hc, rfl⟩
      all_goals
        go_wp2
        go_quiet ((go_at_call 73; exact Calls.quiet_of_same (c73 _)))
        go_wp2
        go_ret
        exact ⟨rfl, below_drewN (btr (bal (bal (Below.refl w.heap.size w) _) _) hW) _⟩
end Go.Proofs.YtalaacfoaelipaaDoor
