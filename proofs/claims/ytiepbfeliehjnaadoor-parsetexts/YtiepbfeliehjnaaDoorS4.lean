/-
  The reference's Parse.
-/
import Derived.Test.YtiepbfeliehjnaaDoorS3
import Derived.Test.YtiepbfeliehjnaaDoorPA
import Derived.Test.YtiepbfeliehjnaaDoorA5
namespace Go.Proofs.YtiepbfeliehjnaaDoor
open Go.RowKit Go.Sort

set_option maxHeartbeats 8000000 in
set_option maxRecDepth 100000 in
theorem rparse_any (hST : RSt) (s : ByteArray) (rs : List Rw) (a : Int) (e : Nat) (w : World) (hs : s.size ≤ 9223372036854775807) (ho : POut s rs a e) :
    Calls Tryd.prog 9 #[.string s] w fun x w' => ∃ v, x = .returned (.tuple #[v, .int .i64 a, .int .i64 e]) ∧ (∃ B, OR w' B v rs) ∧ Below w.heap.size w w' := by
  obtain ⟨l, a0, e0, hOut, hcase⟩ := ho
  have CS := rscan_any s l a0 e0 w hs hOut
  rcases hcase with ⟨he, rfl, rfl, rfl⟩ | ⟨rfl, hcase⟩
  · have he2 : ((e : Int) == 0) = false := by simp; omega
    have he3 : ((e : Int) != 0) = true := by simp; omega
    clear hOut he
    go_enter Tryd.func9, Tryd.ntmps9
    go_wp2_with (go_at_call 18; (with_reducible refine CS.mono ?_); rintro x w1 ⟨v1, rfl, hI1⟩; obtain ⟨a1, c1, rfl⟩ := hI1.shape)
    exact bodyPost_ret (v := .tuple #[.slice none 0 0, .int .i64 a0, .int .i64 e]) (by simp [results, Tryd.results9, go_sem]) rfl ⟨_, rfl, ⟨0, OR.nil _ _⟩, hI1.below⟩
  have hsz : s.size ≤ 65536 ∧ Pre s s.size l ∧ a0 = 0 := by
    rcases hOut with ⟨_, _, _, h⟩ | ⟨h1, h2, h3, _⟩ | ⟨_, _, h, _⟩
    · cases h
    · exact ⟨h1, h2, h3⟩
    · cases h
  obtain ⟨hs6, hp, rfl⟩ := hsz
  have hcount := hp.count
  have hall := hp.right
  have hsize := hp.sz
  obtain ⟨F, hF⟩ : ∃ F, F = l.length + 1 := ⟨_, rfl⟩
  rw [← hF] at hcase
  obtain ⟨n, hn⟩ : ∃ n : Int, n = s.size := ⟨_, rfl⟩
  rw [← hn] at hcase
  have HQ : Hid (∀ q, progP n F l = .error q → rs = [] ∧ a = q.1 ∧ e = q.2) := fun q h => by
    rcases hcase with ⟨p, x, h2, h3, h4, h5⟩ | ⟨h2, _⟩
    · rw [h] at h2; cases h2; exact ⟨h3, h4, h5⟩
    · rw [h] at h2; cases h2
  have HO : Hid (∀ r, progP n F l = .ok r → rs = r ∧ a = 0 ∧ e = 0) := fun r h => by
    rcases hcase with ⟨p, x, h2, _⟩ | ⟨h2, h3, h4⟩
    · rw [h] at h2; cases h2
    · rw [h] at h2; cases h2; exact ⟨rfl, h3, h4⟩
  have HRV : Hid (∀ w1 a1 c1, SI w w1 (.slice a1 l.length c1) l → RV w1 (w1.alloc (.cells #[.slice a1 l.length c1, .int .i64 0, .int .i64 s.size, .int .i64 0, .int .i64 0, .slice none 0 0] 53)) w1.heap.size (.slice a1 l.length c1) l n 0 0 0 (.slice none 0 0)) := fun w1 a1 c1 hI =>
    ⟨(own_sl hI.own).form, bal (Below.refl _ _) _, Nat.le_refl _, by rw [hn]; exact bk_new w1 _ 53, Nat.zero_le _, by omega, hall, fun k hk => by have := hsize k hk; omega⟩
  clear hcase hall hsize hOut hp
  go_enter Tryd.func9, Tryd.ntmps9
  go_wp2_with (go_at_call 18; (with_reducible refine CS.mono ?_); rintro x w1 ⟨v1, rfl, hI1⟩; obtain ⟨a1, c1, rfl⟩ := hI1.shape)
  have HV0 := HRV.out w1 a1 c1 hI1
  have hBw := hI1.below
  clear HRV hI1 CS
  have hX0 : Hid (RX w1 (w1.alloc (.cells #[.slice a1 l.length c1, .int .i64 0, .int .i64 s.size, .int .i64 0, .int .i64 0, .slice none 0 0] 53)) w1.heap.size (.slice a1 l.length c1) l n (.slice none 0 0) (.ok l)) := .inl ⟨0, by simp, HV0⟩
  clear HV0
  go_loopg [] F (fun g wr => ∃ (s' : Except Fa (List Tk)) (v' : Value) (rs' : List Rw) (f0 : Nat), f0 = g ∧ f0 ≤ F ∧ mS s' ≤ f0 ∧ rs'.length ≤ 65536 ∧ Hid (RX w1 wr w1.heap.size (.slice a1 l.length c1) l n v' s') ∧ Hid (OR wr w1.heap.size v' rs') ∧ Hid (∀ j, s' = .ok (l.drop j) → j ≤ l.length → rs'.length ≤ j) ∧ Hid (∀ q, s' = .error q → progP n F l = .error q) ∧ Hid (∀ r, s' = .ok r → progP n F l = preQ rs' (progP n f0 r)))
  case atStart => exact ⟨.ok l, .slice none 0 0, [], F, rfl, Nat.le_refl _, by rw [hF]; exact Nat.le_refl _, Nat.zero_le _, hX0, OR.nil _ _, (fun j _ _ => Nat.zero_le _), (fun q e => by cases e), fun r e => by cases e; show _ = _; cases progP n F l <;> simp [preQ]⟩
  case round =>
    clear hX0
    obtain ⟨s', v', rs', f0, rfl, hfF, hmf, hr2, hRX, hOR, hcn, hdead, hal⟩ := hrel
    obtain ⟨va, vc, rfl⟩ := hOR.out.shape
    rcases hRX.out with ⟨j, es, HV⟩ | ⟨q, j, es, hq, HV⟩
    · obtain ⟨c0, c1', c2, c3, c4, c5⟩ := HV.cells
      have zl := HV.blk.lt
      have hjl := HV.le
      have hBl := HV.below
      have hlen := HV.len
      subst es
      have eq1 := hal.out _ rfl
      have hmf : (l.drop j).length + 1 ≤ f0 := hmf
      obtain ⟨f, rfl⟩ : ∃ f, f0 = f + 1 := ⟨f0 - 1, by omega⟩
      by_cases hj : j < l.length
      · have hB := rbody_any hST n f
        have ST : ∀ m, Calls Tryd.prog 19 #[.pointer (some ⟨w1.heap.size, 0, none⟩), .int .i64 0] (wr.drewN m) (SD w1 (wr.drewN m) w1.heap.size (.slice a1 l.length c1) l n (.slice va rs'.length vc) rs' (stmtP n (stmtsP n f) 0 (l.drop j))) := fun m => hST n (stmtsP n f) w1 (wr.drewN m) w1.heap.size _ l j _ rs' 0 (HV.drawn m) (hOR.out.below (below_drewN (Below.refl _ _) m)) (hcn.out j rfl hjl) f hB (by omega) (by omega)
        have ES : progP n (f + 1) (l.drop j) = match stmtP n (stmtsP n f) 0 (l.drop j) with | .error e => .error e | .ok (rs, r) => match progP n f r with | .error e => .error e | .ok rs2 => .ok (rs ++ rs2) := by
          rw [drop_at hj]
          rfl
        cases h1 : stmtP n (stmtsP n f) 0 (l.drop j) with
        | error q =>
          rw [h1] at ST ES
          have EY : Hid (progP n F l = .error q) := by show _ = _; rw [eq1, ES]; rfl
          clear eq1 hal ES h1 hB
          unfold SD at ST
          go_upto_region 0 with (fail)
          go_quiet (fail)
          go_wp2_with (go_at_call 19; (with_reducible refine (ST _).mono ?_); rintro e w5 ⟨rfl, v5, rs5, hF5, hR5, hO5, hl5, hb5, hv5⟩)
          go_roundg f
          case measure => omega
          case rel => exact ⟨.error q, v5, rs5, f, rfl, by omega, Nat.zero_le _, hb5, hR5, hO5, (fun j e => by cases e), (fun q' e => by cases e; exact EY), fun r e => by cases e⟩
        | ok z =>
          obtain ⟨rsA, r2⟩ := z
          rw [h1] at ST ES
          have hsh := stmt_short (fun d l r rs h => (stmts_short f d l r rs h).1) h1
          have hco := stmt_count (fun d l r rs h => stmts_count f d l r rs h) h1
          have EQ : Hid (progP n F l = preQ (rs' ++ rsA) (progP n f r2)) := by
            show _ = _
            rw [eq1, ES]
            dsimp only
            cases progP n f r2 with
            | error e => rfl
            | ok y => show Except.ok (rs' ++ (rsA ++ y)) = Except.ok (rs' ++ rsA ++ y); rw [List.append_assoc]
          have hcj := hcn.out j rfl hjl
          clear eq1 hal ES h1 hB
          unfold SD at ST
          go_upto_region 0 with (fail)
          go_quiet (fail)
          go_wp2_with (go_at_call 19; (with_reducible refine (ST _).mono ?_); rintro e w5 ⟨rfl, v5, rs5, hF5, hR5, hO5, hl5, hb5, hv5⟩)
          have hv6 := hv5 rsA r2 rfl
          have hdl : (l.drop j).length = l.length - j := List.length_drop
          go_roundg f
          case measure => omega
          case rel => exact ⟨.ok r2, v5, rs5, f, rfl, by omega, (show r2.length + 1 ≤ f by omega), hb5, hR5, hO5, (fun j' e hj' => by
              have e : r2 = l.drop j' := Except.ok.inj e
              have e9 : r2.length = l.length - j' := by rw [e, List.length_drop]
              have e8 := congrArg List.length hv6
              rw [List.length_append] at e8
              omega), (fun q' e => by cases e), fun r e => by cases e; rw [hv6]; exact EQ.out⟩
      · obtain rfl : j = l.length := by omega
        have EQ : progP n F l = .ok rs' := by rw [eq1, drop_out hj]; show Except.ok (rs' ++ []) = _; rw [List.append_nil]
        obtain ⟨rfl, rfl, rfl⟩ := HO.out _ EQ
        have h2 : decide (l.length < l.length) = false := decide_eq_false (by omega)
        clear eq1 hal EQ
        go_upto_region 0 with (fail)
        go_quiet (fail)
        go_wp2
        exact bodyPost_ret (v := .tuple #[.slice va rs.length vc, .int .i64 0, .int .i64 0]) (by simp [results, Tryd.results9, go_sem]) rfl ⟨_, rfl, ⟨_, hOR.out.below (below_drewN (Below.refl _ _) _)⟩, below_drewN (btr hBw hBl) _⟩
    · obtain ⟨c0, c1', c2, c3, c4, c5⟩ := HV.cells
      have zl := HV.blk.lt
      have hBl := HV.below
      subst es
      obtain ⟨rfl, rfl, rfl⟩ := HQ.out _ (hdead.out q rfl)
      have h1 : ((q.2 : Int) == 0) = false := by simp; omega
      have h2 : ((q.2 : Int) != 0) = true := by simp; omega
      go_upto_region 0 with (fail)
      go_quiet (fail)
      go_wp2
      go_quiet (fail)
      go_wp2
      exact bodyPost_ret (v := .tuple #[.slice none 0 0, .int .i64 q.1, .int .i64 (q.2 : Nat)]) (by simp [results, Tryd.results9, go_sem]) rfl ⟨_, rfl, ⟨0, OR.nil _ _⟩, below_drewN (below_drewN (btr hBw hBl) _) _⟩
end Go.Proofs.YtiepbfeliehjnaaDoor
