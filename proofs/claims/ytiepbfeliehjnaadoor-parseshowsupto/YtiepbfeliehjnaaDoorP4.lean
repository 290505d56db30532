/-
  The reader's call arguments, any number of them.
-/
import Derived.Test.YtiepbfeliehjnaaDoorP3
namespace Go.Proofs.YtiepbfeliehjnaaDoor
open Go.RowKit Go.Sort

set_option maxHeartbeats 4000000 in
set_option maxRecDepth 100000 in
theorem args_any_n (w W : World) (rb : Nat) (ts : Value) (l : List Tk) (n : Int) (i : Nat) (v : Value) (sa : Bool) (sc sd se : Bool) (H : RS0 w W rb ts l n i v)  :
    Calls Tryd.prog 62 #[.pointer (some ⟨rb, 0, none⟩), .agg #[.bool sa, .int .i64 (-1), .bool sc, .bool sd, .bool se]] W fun e W' => GB W W' rb ∧
      ((∃ q, argsP n ⟨sa, (-1), sc, sd, se⟩ ((l.drop i).length + 1) [] (l.drop i) = .error q ∧ e = .panicked [flt q]) ∨
        ∃ av aa j, argsP n ⟨sa, (-1), sc, sd, se⟩ ((l.drop i).length + 1) [] (l.drop i) = .ok (aa, l.drop j) ∧ e = .returned av ∧ RS0 w W' rb ts l n j v ∧ W'.ownsRow W.heap.size 61 2 av aa.length (ars aa)) := by
  obtain ⟨i6, hi6, hz6, hs6, hb6⟩ := info_parts Tryd.info61
  have hlt := H.blk.lt
  have hfb : W.heap.size ≠ rb := by omega
  have HR : Hid (RS0 w W rb ts l n i v) := H
  have hlen := H.len
  have hbx := bk_new W #[.bool sa, .int .i64 (-1), .bool sc, .bool sd, .bool se] 82
  have hA0 : Hid (AI w (W.alloc (.cells #[.bool sa, .int .i64 (-1), .bool sc, .bool sd, .bool se] 82)) (W.alloc (.cells #[.bool sa, .int .i64 (-1), .bool sc, .bool sd, .bool se] 82)) rb ts l n v (.slice none 0 0) [] i) :=
    ⟨by simp; omega, gb_refl _ _, H.on (bal (Below.refl _ _) _), World.ownsRow_nil _ _ _ _⟩
  have own_out : ∀ {W' : World} {av : Value} {aa : List Ar}, W'.ownsRow (W.alloc (.cells #[.bool sa, .int .i64 (-1), .bool sc, .bool sd, .bool se] 82)).heap.size 61 2 av aa.length (ars aa) → W'.ownsRow W.heap.size 61 2 av aa.length (ars aa) := fun h => ⟨h.1, by
    rcases h.2 with h | ⟨g, cap, cur, e, h1, r⟩
    · exact .inl h
    · exact .inr ⟨g, cap, cur, e, by simp at h1; omega, r⟩⟩
  have gb_out : ∀ {W' : World}, GB (W.alloc (.cells #[.bool sa, .int .i64 (-1), .bool sc, .bool sd, .bool se] 82)) W' rb → GB W W' rb := fun h => gb_trans (gb_alloc (gb_refl _ _) _) h
  generalize hsp : (⟨sa, (-1), sc, sd, se⟩ : Sh) = sp at *
  have LA : ∀ w, Calls Tryd.prog 65 #[.agg #[.bool sa, .int .i64 (-1), .bool sc, .bool sd, .bool se]] w fun e w' => e = .returned (.string (lastS sp)) ∧ Below w.heap.size w w' := fun w => by subst hsp; exact last_any ⟨sa, (-1), sc, sd, se⟩ w
  obtain ⟨lst, hlst⟩ : ∃ lst, lst = lastS sp := ⟨_, rfl⟩
  rw [← hlst] at LA
  have HL : Hid (lst = lastS sp) := hlst
  have HS : Hid (⟨sa, (-1), sc, sd, se⟩ = sp) := hsp
  obtain ⟨F, hF⟩ : ∃ F, F = (l.drop i).length + 1 := ⟨_, rfl⟩
  have HFF : Hid (F = (l.drop i).length + 1) := hF
  clear hlst hsp H
  rw [← hF]
  clear hF
  go_enter Tryd.func62, Tryd.ntmps62
  go_upto_region 2 with (fail)
  go_loopg [5] F (fun g v5 wr => ∃ (acc : List Ar) (j f0 : Nat), f0 = g ∧ acc.length + (l.drop j).length ≤ l.length ∧ (l.drop j).length < f0 ∧ Hid (argsP n sp F [] (l.drop i) = argsP n sp f0 acc (l.drop j)) ∧ Hid (AI w (W.alloc (.cells #[.bool sa, .int .i64 (-1), .bool sc, .bool sd, .bool se] 82)) wr rb ts l n v v5 acc j))
  case atStart => exact ⟨[], i, F, rfl, by simp, by rw [HFF.out]; omega, rfl, hA0⟩
  case round =>
    clear hA0
    obtain ⟨acc, j, f0, rfl, hcount, hfuel, hP, hH⟩ := hrel
    obtain ⟨ava, avc, rfl⟩ := own_shape hH.out.o
    obtain ⟨q0, q1, q2, q3, q4, q5⟩ := hH.out.form hbx hfb
    obtain ⟨f, rfl⟩ : ∃ f, f0 = f + 1 := ⟨f0 - 1, by omega⟩
    have EP : Hid (argsP n sp (f + 1) acc (l.drop j) = if moreB sp acc.length (l.drop j) = true then (match argP n sp.idx (l.drop j) with | .error e => .error e | .ok (a, r) => argsP n sp f (acc ++ [a]) r) else .ok (acc, l.drop j)) := rfl
    have EI : sp.idx = sc := by rw [← HS.out]
    have EA : sp.args = (-1) := by rw [← HS.out]
    have hcnt : ¬ ((acc.length : Int) < -1) := by omega
    have hmore : moreB sp acc.length (l.drop j) = !seesB lst (l.drop j) := by
      unfold moreB
      rw [EA, decide_eq_false hcnt, ← HL.out]
      simp
    have SE := fun W' h => sees_any w W' rb ts l n j v lst h
    generalize hsee : seesB lst (l.drop j) = sB at *
    cases sB with
    | true =>
      have EQ : Hid (argsP n sp F [] (l.drop i) = .ok (acc, l.drop j)) := by show _ = _; rw [hP.out, EP.out, hmore]; rfl
      clear hP EP hmore
      go_wp2_with (first
        | (go_at_call 65; (with_reducible refine (LA _).mono ?_); rintro e wA ⟨rfl, hNA⟩; have hA := hH.out.on hNA)
        | (go_at_call 75; (with_reducible refine (SE _ hA.r).mono ?_); rintro e wS ⟨rfl, mS, rfl⟩; have hM := hA.drewN mS))
      go_ret
      exact ⟨gb_out hM.g, .inr ⟨_, acc, j, EQ.out, rfl, hM.r, own_out hM.o⟩⟩
    | false =>
      have hmt : moreB sp acc.length (l.drop j) = true := by rw [hmore]; rfl
      clear hmore
      have EP2 : Hid (argsP n sp F [] (l.drop i) = (match argP n sc (l.drop j) with | .error e => .error e | .ok (a, r) => argsP n sp f (acc ++ [a]) r)) := by show _ = _; rw [hP.out, EP.out, if_pos hmt, EI]
      clear hP EP hmt
      cases hn : nameP n (l.drop j) with
      | error q =>
        have EQ : Hid (argsP n sp F [] (l.drop i) = .error q) := by show _ = _; rw [EP2.out]; unfold argP; rw [hn]
        have NM := fun W' (h : RS0 w W' rb ts l n j v) => told_err (by have := name_any w W' rb ts l n j v h; rwa [hn] at this)
        clear hn EP2
        go_wp2_with (first
          | (go_at_call 65; (with_reducible refine (LA _).mono ?_); rintro e wA ⟨rfl, hNA⟩; have hA := hH.out.on hNA; obtain ⟨q0, q1, q2, q3, q4, q5⟩ := hA.form hbx hfb) | (go_at_call 75; (with_reducible refine (SE _ hA.r).mono ?_); rintro e wS ⟨rfl, mS, rfl⟩; have hM := hA.drewN mS) | (go_at_call 61; (with_reducible refine (NM _ hM.r).mono ?_); rintro e wB ⟨rfl, hGB⟩))
        exact ⟨rfl, gb_out (gb_trans hM.g hGB), .inl ⟨q, EQ.out, rfl⟩⟩
      | ok y =>
        obtain ⟨a1, r1⟩ := y
        have NM := fun W' (h : RS0 w W' rb ts l n j v) => told_ok (by have := name_any w W' rb ts l n j v h; rwa [hn] at this)
        obtain ⟨t1, ht1, _, _⟩ := nameP_len hn
        have hlr1 : r1.length + 1 = (l.drop j).length := by rw [ht1]; rfl
        have SL : ∀ W' {j1}, RS0 w W' rb ts l n j1 v → r1 = l.drop j1 → Calls Tryd.prog 75 #[.pointer (some ⟨rb, 0, none⟩), .string ⟨#[91]⟩] W' fun e W'' => e = .returned (.bool (seesB wLeft r1)) ∧ ∃ m, W'' = W'.drewN m := fun W' j1 h e => by rw [e]; exact sees_any w W' rb ts l n j1 v wLeft h
        cases sc with
        | false =>
          have hr : argP n false (l.drop j) = .ok (⟨a1, -1⟩, r1) := by unfold argP; rw [hn]; simp
          have EQ : Hid (argsP n sp F [] (l.drop i) = argsP n sp f (acc ++ [⟨a1, -1⟩]) r1) := by show _ = _; rw [EP2.out, hr]
          clear EP2 hn hr ht1
          go_wp2_with (first
            | (go_at_call 65; (with_reducible refine (LA _).mono ?_); rintro e wA ⟨rfl, hNA⟩; have hA := hH.out.on hNA; obtain ⟨q0, q1, q2, q3, q4, q5⟩ := hA.form hbx hfb) | (go_at_call 75; (with_reducible refine (SE _ hA.r).mono ?_); rintro e wS ⟨rfl, mS, rfl⟩; have hM := hA.drewN mS) | (go_at_call 61; (with_reducible refine (NM _ hM.r).mono ?_); rintro e wB ⟨rfl, hGB, j1, hj1, hRB⟩; have hB := hM.gb hGB hRB; obtain ⟨q0, q1, q2, q3, q4, q5⟩ := hB.form hbx hfb; have hbw := hB.r.blk.lt) | (at_builtin; have hV := (hB.alloc (.cells #[.string a1, .int .i64 (-1)] 61)).alloc (.cells #[.string a1, .int .i64 (-1)] 61); refine wpList_append_own_at _ rfl _ _ 43 rfl _ 61 i6 zArg 2 24 Tryd.underlying43 hi6 hz6 hs6 hb6 rfl (by decide) _ acc.length (ars acc) rfl hV.o ⟨_, 0, none⟩ 1 1 (arc ⟨a1, (-1)⟩) rfl rfl (new_arg' _ _ (by simp) ⟨a1, (-1)⟩) (one_arg _) (by unfold maxLen; omega) (by omega) hV.g.size ?_; intro v6 w6 hown6 hgrow6 hnil6 hloc6; have hZ := hV.put hgrow6 hown6; clear hown6 hgrow6 hnil6 hloc6 hV))
          go_roundg f
          case measure => omega
          case rel => exact ⟨acc ++ [(⟨a1, -1⟩ : Ar)], j1, f, rfl, by rw [← hj1, List.length_append]; show acc.length + 1 + _ ≤ _; omega, by rw [← hj1]; omega, by rw [← hj1]; exact EQ, hZ⟩
        | true =>
          cases hse : seesB wLeft r1 with
          | false =>
            rw [hse] at SL
            have hr : argP n true (l.drop j) = .ok (⟨a1, -1⟩, r1) := by unfold argP; rw [hn]; simp [hse]
            have EQ : Hid (argsP n sp F [] (l.drop i) = argsP n sp f (acc ++ [⟨a1, -1⟩]) r1) := by show _ = _; rw [EP2.out, hr]
            clear EP2 hn hr ht1 hse
            go_wp2_with (first
              | (go_at_call 65; (with_reducible refine (LA _).mono ?_); rintro e wA ⟨rfl, hNA⟩; have hA := hH.out.on hNA; obtain ⟨q0, q1, q2, q3, q4, q5⟩ := hA.form hbx hfb) | (go_at_call 75; (with_reducible refine (SE _ hA.r).mono ?_); rintro e wS ⟨rfl, mS, rfl⟩; have hM := hA.drewN mS) | (go_at_call 61; (with_reducible refine (NM _ hM.r).mono ?_); rintro e wB ⟨rfl, hGB, j1, hj1, hRB⟩; have hB := hM.gb hGB hRB; obtain ⟨q0, q1, q2, q3, q4, q5⟩ := hB.form hbx hfb; have hbw := hB.r.blk.lt) | (go_at_call 75; (with_reducible refine (SL _ (hB.alloc (.cells #[.string a1, .int .i64 (-1)] 61)).r hj1).mono ?_); rintro e wT ⟨rfl, mT, rfl⟩; have hT := (hB.alloc (.cells #[.string a1, .int .i64 (-1)] 61)).drewN mT) | (at_builtin; have hV := (hT).alloc (.cells #[.string a1, .int .i64 (-1)] 61); refine wpList_append_own_at _ rfl _ _ 43 rfl _ 61 i6 zArg 2 24 Tryd.underlying43 hi6 hz6 hs6 hb6 rfl (by decide) _ acc.length (ars acc) rfl hV.o ⟨_, 0, none⟩ 1 1 (arc ⟨a1, (-1)⟩) rfl rfl (new_arg' _ _ (by simp) ⟨a1, (-1)⟩) (one_arg _) (by unfold maxLen; omega) (by omega) hV.g.size ?_; intro v6 w6 hown6 hgrow6 hnil6 hloc6; have hZ := hV.put hgrow6 hown6; clear hown6 hgrow6 hnil6 hloc6 hV))
            go_roundg f
            case measure => omega
            case rel => exact ⟨acc ++ [(⟨a1, -1⟩ : Ar)], j1, f, rfl, by rw [← hj1, List.length_append]; show acc.length + 1 + _ ≤ _; omega, by rw [← hj1]; omega, by rw [← hj1]; exact EQ, hZ⟩
          | true =>
            rw [hse] at SL
            obtain ⟨t2, r2, rfl, ht2⟩ := seesB_cons hse
            have SG : ∀ W' {j1}, RS0 w W' rb ts l n j1 v → t2 :: r2 = l.drop j1 → Calls Tryd.prog 64 #[.pointer (some ⟨rb, 0, none⟩), .string ⟨#[91]⟩] W' fun e W'' => e = .returned (tv t2) ∧ GB W' W'' rb ∧ ∃ j2, r2 = l.drop j2 ∧ RS0 w W'' rb ts l n j2 v := fun W' j1 h e => told_ok (by
              have := sign_any' w W' rb ts l n j1 v wLeft h
              have e2 : signP n wLeft (l.drop j1) = .ok (t2, r2) := by rw [← e]; simp only [signP, if_pos ht2]
              rwa [e2] at this)
            have hr : argP n true (l.drop j) = (match numP n r2 with | .error e => .error e | .ok (x, r3) => match signP n wRight r3 with | .error e => .error e | .ok (_, r4) => .ok (⟨a1, x⟩, r4)) := by
              unfold argP; rw [hn]; simp only [hse, and_self, if_true, List.tail_cons]; rfl
            have NUA := fun W' j2 h => number_any w W' rb ts l n j2 v h
            clear hse ht2
            cases hx : numP n r2 with
            | error q =>
              have EQ : Hid (argsP n sp F [] (l.drop i) = .error q) := by show _ = _; rw [EP2.out, hr, hx]
              have NU : ∀ W' {j2}, RS0 w W' rb ts l n j2 v → r2 = l.drop j2 → _ := fun W' j2 h e => told_err (by have := NUA W' j2 h; rw [← e, hx] at this; exact this)
              clear EP2 hn hr ht1 hx NUA
              go_wp2_with (first
                | (go_at_call 65; (with_reducible refine (LA _).mono ?_); rintro e wA ⟨rfl, hNA⟩; have hA := hH.out.on hNA; obtain ⟨q0, q1, q2, q3, q4, q5⟩ := hA.form hbx hfb) | (go_at_call 75; (with_reducible refine (SE _ hA.r).mono ?_); rintro e wS ⟨rfl, mS, rfl⟩; have hM := hA.drewN mS) | (go_at_call 61; (with_reducible refine (NM _ hM.r).mono ?_); rintro e wB ⟨rfl, hGB, j1, hj1, hRB⟩; have hB := hM.gb hGB hRB; obtain ⟨q0, q1, q2, q3, q4, q5⟩ := hB.form hbx hfb; have hbw := hB.r.blk.lt) | (go_at_call 75; (with_reducible refine (SL _ (hB.alloc (.cells #[.string a1, .int .i64 (-1)] 61)).r hj1).mono ?_); rintro e wT ⟨rfl, mT, rfl⟩; have hT := (hB.alloc (.cells #[.string a1, .int .i64 (-1)] 61)).drewN mT) | (go_at_call 64; (with_reducible refine (SG _ hT.r hj1).mono ?_); rintro e wC ⟨rfl, hGC, j2, hj2, hRC⟩; have hC := hT.gb hGC hRC; have bC := gb_bk hGC ((bk_new wB #[.string a1, .int .i64 (-1)] 61).drewN mT) (Nat.ne_of_gt hbw)) | (go_at_call 63; (with_reducible refine (NU _ hC.r hj2).mono ?_); rintro e wD ⟨rfl, hGD⟩))
              exact ⟨rfl, gb_out (gb_trans hC.g hGD), .inl ⟨q, EQ.out, rfl⟩⟩
            | ok y =>
              obtain ⟨x1, r3⟩ := y
              have NU : ∀ W' {j2}, RS0 w W' rb ts l n j2 v → r2 = l.drop j2 → _ := fun W' j2 h e => told_ok (by have := NUA W' j2 h; rw [← e, hx] at this; exact this)
              obtain ⟨t3, rfl, _⟩ := numP_len hx
              have SRA := fun W' j2 h => sign_any' w W' rb ts l n j2 v wRight h
              cases hy : signP n wRight r3 with
              | error q =>
                have EQ : Hid (argsP n sp F [] (l.drop i) = .error q) := by show _ = _; rw [EP2.out, hr, hx]; simp only [hy]
                have SR : ∀ W' {j3}, RS0 w W' rb ts l n j3 v → r3 = l.drop j3 → _ := fun W' j3 h e => told_err (by have := SRA W' j3 h; rw [← e, hy] at this; exact this)
                clear EP2 hn hr ht1 hx NUA SRA hy
                go_wp2_with (first
                  | (go_at_call 65; (with_reducible refine (LA _).mono ?_); rintro e wA ⟨rfl, hNA⟩; have hA := hH.out.on hNA; obtain ⟨q0, q1, q2, q3, q4, q5⟩ := hA.form hbx hfb) | (go_at_call 75; (with_reducible refine (SE _ hA.r).mono ?_); rintro e wS ⟨rfl, mS, rfl⟩; have hM := hA.drewN mS) | (go_at_call 61; (with_reducible refine (NM _ hM.r).mono ?_); rintro e wB ⟨rfl, hGB, j1, hj1, hRB⟩; have hB := hM.gb hGB hRB; obtain ⟨q0, q1, q2, q3, q4, q5⟩ := hB.form hbx hfb; have hbw := hB.r.blk.lt) | (go_at_call 75; (with_reducible refine (SL _ (hB.alloc (.cells #[.string a1, .int .i64 (-1)] 61)).r hj1).mono ?_); rintro e wT ⟨rfl, mT, rfl⟩; have hT := (hB.alloc (.cells #[.string a1, .int .i64 (-1)] 61)).drewN mT) | (go_at_call 64; (with_reducible refine (SG _ hT.r hj1).mono ?_); rintro e wC ⟨rfl, hGC, j2, hj2, hRC⟩; have hC := hT.gb hGC hRC; have bC := gb_bk hGC ((bk_new wB #[.string a1, .int .i64 (-1)] 61).drewN mT) (Nat.ne_of_gt hbw)) | (go_at_call 63; (with_reducible refine (NU _ hC.r hj2).mono ?_); rintro e wD ⟨rfl, hGD, j3, hj3, hRD⟩; have hD := hC.gb hGD hRD; have bD := gb_bk hGD bC (Nat.ne_of_gt hbw); have u0 : wD.cell? ⟨wB.heap.size, 0, none⟩ = some (.string a1) := bD.cell 0; have u1 : wD.cell? ⟨wB.heap.size, 1, none⟩ = some (.int .i64 (-1)) := bD.cell 1; have u2 := bD.free 1; have hE := hD.set (b := wB.heap.size) hB.g.size (fun g e e2 => (by have := hB.o.lt g e; omega)) 1 (.int .i64 x1)) | (go_at_call 64; (with_reducible refine (SR _ hE.r hj3).mono ?_); rintro e wE ⟨rfl, hGE⟩))
                exact ⟨rfl, gb_out (gb_trans hE.g hGE), .inl ⟨q, EQ.out, rfl⟩⟩
              | ok y =>
                obtain ⟨t4, r4⟩ := y
                have EQ : Hid (argsP n sp F [] (l.drop i) = argsP n sp f (acc ++ [⟨a1, x1⟩]) r4) := by show _ = _; rw [EP2.out, hr, hx]; simp only [hy]
                have SR : ∀ W' {j3}, RS0 w W' rb ts l n j3 v → r3 = l.drop j3 → _ := fun W' j3 h e => told_ok (by have := SRA W' j3 h; rw [← e, hy] at this; exact this)
                obtain ⟨rfl, _⟩ := signP_len hy
                have hlr4 : r4.length + 4 = (l.drop j).length := by simp only [List.length_cons] at hlr1; omega
                clear EP2 hn hr ht1 hx NUA SRA hy
                go_wp2_with (first
                  | (go_at_call 65; (with_reducible refine (LA _).mono ?_); rintro e wA ⟨rfl, hNA⟩; have hA := hH.out.on hNA; obtain ⟨q0, q1, q2, q3, q4, q5⟩ := hA.form hbx hfb) | (go_at_call 75; (with_reducible refine (SE _ hA.r).mono ?_); rintro e wS ⟨rfl, mS, rfl⟩; have hM := hA.drewN mS) | (go_at_call 61; (with_reducible refine (NM _ hM.r).mono ?_); rintro e wB ⟨rfl, hGB, j1, hj1, hRB⟩; have hB := hM.gb hGB hRB; obtain ⟨q0, q1, q2, q3, q4, q5⟩ := hB.form hbx hfb; have hbw := hB.r.blk.lt) | (go_at_call 75; (with_reducible refine (SL _ (hB.alloc (.cells #[.string a1, .int .i64 (-1)] 61)).r hj1).mono ?_); rintro e wT ⟨rfl, mT, rfl⟩; have hT := (hB.alloc (.cells #[.string a1, .int .i64 (-1)] 61)).drewN mT) | (go_at_call 64; (with_reducible refine (SG _ hT.r hj1).mono ?_); rintro e wC ⟨rfl, hGC, j2, hj2, hRC⟩; have hC := hT.gb hGC hRC; have bC := gb_bk hGC ((bk_new wB #[.string a1, .int .i64 (-1)] 61).drewN mT) (Nat.ne_of_gt hbw)) | (go_at_call 63; (with_reducible refine (NU _ hC.r hj2).mono ?_); rintro e wD ⟨rfl, hGD, j3, hj3, hRD⟩; have hD := hC.gb hGD hRD; have bD := gb_bk hGD bC (Nat.ne_of_gt hbw); have u0 : wD.cell? ⟨wB.heap.size, 0, none⟩ = some (.string a1) := bD.cell 0; have u1 : wD.cell? ⟨wB.heap.size, 1, none⟩ = some (.int .i64 (-1)) := bD.cell 1; have u2 := bD.free 1; have hE := hD.set (b := wB.heap.size) hB.g.size (fun g e e2 => (by have := hB.o.lt g e; omega)) 1 (.int .i64 x1)) | (go_at_call 64; (with_reducible refine (SR _ hE.r hj3).mono ?_); rintro e wE ⟨rfl, hGE, j4, hj4, hRE⟩; have hF := hE.gb hGE hRE; have bE := gb_bk hGE (bD.set 1 (.int .i64 x1)) (Nat.ne_of_gt hbw); have u3 : wE.cell? ⟨wB.heap.size, 0, none⟩ = some (.string a1) := bE.cell 0; have u4 : wE.cell? ⟨wB.heap.size, 1, none⟩ = some (.int .i64 x1) := bE.cell 1; have u5 := bE.lt) | (at_builtin; have hV := (hF).alloc (.cells #[.string a1, .int .i64 x1] 61); refine wpList_append_own_at _ rfl _ _ 43 rfl _ 61 i6 zArg 2 24 Tryd.underlying43 hi6 hz6 hs6 hb6 rfl (by decide) _ acc.length (ars acc) rfl hV.o ⟨_, 0, none⟩ 1 1 (arc ⟨a1, x1⟩) rfl rfl (new_arg' _ _ (by simp) ⟨a1, x1⟩) (one_arg _) (by unfold maxLen; omega) (by omega) hV.g.size ?_; intro v6 w6 hown6 hgrow6 hnil6 hloc6; have hZ := hV.put hgrow6 hown6; clear hown6 hgrow6 hnil6 hloc6 hV))
                go_roundg f
                case measure => omega
                case rel => exact ⟨acc ++ [(⟨a1, (x1 : Int)⟩ : Ar)], j4, f, rfl, by rw [← hj4, List.length_append]; show acc.length + 1 + _ ≤ _; omega, by rw [← hj4]; omega, by rw [← hj4]; exact EQ, hZ⟩
end Go.Proofs.YtiepbfeliehjnaaDoor
