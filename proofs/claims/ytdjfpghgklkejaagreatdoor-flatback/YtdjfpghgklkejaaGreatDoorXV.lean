/-
  Put together of: HE HF HH.
-/
import Derived.Test.YtdjfpghgklkejaaGreatDoorXU
import Derived.Test.YtdjfpghgklkejaaGreatDoorXR
namespace Go.Proofs.YtdjfpghgklkejaaGreatDoor
open Go.RowKit Go.Sort
abbrev rgc (x : Rg) : List Value := [.string (nmC x.2), .int .i64 (x.1.1 : Nat), .int .i64 (x.1.2 : Nat)]
def rgs (R : List Rg) : List Value := R.flatMap rgc
abbrev rgv (x : Rg) : Value := .agg #[.string (nmC x.2), .int .i64 (x.1.1 : Nat), .int .i64 (x.1.2 : Nat)]
theorem rgs_len : ∀ R : List Rg, (rgs R).length = R.length * 3
 | [] => rfl
 | x :: R => by
  show (rgc x ++ rgs R).length = _
  rw [List.length_append, rgs_len R, List.length_cons]
  show 3 + R.length * 3 = (R.length + 1) * 3
  omega
theorem rgs_app (a b : List Rg) : rgs (a ++ b) = rgs a ++ rgs b := List.flatMap_append ..
theorem rgs_at : ∀ (R : List Rg) (j : Nat) (h : j < R.length), (rgs R)[j * 3]? = some (.string (nmC R[j].2)) ∧ (rgs R)[j * 3 + 1]? = some (.int .i64 (R[j].1.1 : Nat)) ∧ (rgs R)[j * 3 + 2]? = some (.int .i64 (R[j].1.2 : Nat))
 | [], j, h => absurd h (Nat.not_lt_zero _)
 | x :: R, 0, _ => ⟨rfl, rfl, rfl⟩
 | x :: R, j + 1, h => by
  have := rgs_at R j (by rw [List.length_cons] at h; omega)
  have e : rgs (x :: R) = rgc x ++ rgs R := rfl
  rw [e, show (j + 1) * 3 = j * 3 + 3 by omega]
  exact this
theorem rgs_one (R : List Rg) : ∀ u ∈ rgs R, u.oneCell' = true := fun u hu => by
 obtain ⟨x, _, h⟩ := List.mem_flatMap.1 hu
 simp only [rgc, List.mem_cons, List.not_mem_nil, or_false] at h
 rcases h with rfl | rfl | rfl <;> rfl
theorem rg_cells {W : World} {B : Nat} {v : Value} {R : List Rg} (h : W.ownsRow B 138 3 v R.length (rgs R)) {k : Nat} (hk : k < R.length) :
  ∃ g cap, v = .slice (some ⟨g, 0, none⟩) R.length cap ∧ R.length ≤ cap ∧ g < W.heap.size ∧ B ≤ g ∧ W.cell? ⟨g, k * 3, none⟩ = some (.string (nmC R[k].2)) ∧ W.cell? ⟨g, k * 3 + 1, none⟩ = some (.int .i64 (R[k].1.1 : Nat)) ∧ W.cell? ⟨g, k * 3 + 2, none⟩ = some (.int .i64 (R[k].1.2 : Nat)) ∧ ∀ j, W.frozen? ⟨g, j, none⟩ = false := by
 obtain ⟨g, cap, rfl, hc, hf, hcell, hb, hl⟩ := own_at h (by omega)
 obtain ⟨e0, e1, e2⟩ := rgs_at R k hk
 have hl3 := rgs_len R
 have get : ∀ j x, (rgs R)[j]? = some x → W.cell? ⟨g, j, none⟩ = some x := fun j x e => by
  have hj : j < (rgs R).length := (List.getElem?_eq_some_iff.1 e).1
  rw [List.getElem?_eq_getElem hj] at e
  rw [hcell j hj, Option.some.inj e]
 exact ⟨g, cap, rfl, hc, hl, hb, get _ _ e0, get _ _ e1, get _ _ e2, hf⟩
theorem Tryz.info138 : (Tryz.prog.info? 138).map (fun i => (i.zero, i.size, i.bytes)) = some (some (.agg #[.string ⟨#[]⟩, .int .i64 0, .int .i64 0]), 3, 32) := by kernel_rfl
theorem wrapU {x : Int} (h0 : 0 ≤ x) (h1 : x < 18446744073709551616) : IntKind.u64.wrap x = x := by
 rw [IntKind.wrap_u64]
 omega
set_option maxHeartbeats 400000 in
set_option maxRecDepth 100000 in
theorem mask_any (x : Rg) (w : World) (h : x.1.1 + x.1.2 ≤ 64) (hz : x.1.2 ≤ 32) : Calls Tryz.prog 66 #[rgv x] w fun e w' => e = .returned (.int .u64 (regM x.1 : Nat)) ∧ Below w.heap.size w w' := by
 obtain ⟨⟨f, z⟩, j⟩ := x
 simp only at *
 go_enter Tryz.func66, Tryz.ntmps66
 go_wp2
 go_quiet (fail)
 go_wp2
 have h2 : ((2 : Int) ^ z) = ((2 ^ z : Nat) : Int) := by simp
 have h3 : ((2 : Int) ^ f) = ((2 ^ f : Nat) : Int) := by simp
 have h4 : 2 ^ z ≤ 4294967296 := Nat.pow_le_pow_right (by decide : 0 < 2) hz
 have h5 : 0 < 2 ^ z := Nat.two_pow_pos z
 have h6 : regM (f, z) < 2 ^ 64 := Nat.lt_of_lt_of_le (regM_lt (f, z)) (Nat.pow_le_pow_right (by decide) h)
 have e1 : IntKind.u64.wrap (((2 ^ z : Nat) : Int)) = ((2 ^ z : Nat) : Int) := wrapU (by omega) (by omega)
 have e2 : IntKind.u64.wrap (((2 ^ z : Nat) : Int) - 1) = ((2 ^ z - 1 : Nat) : Int) := by
  rw [wrapU (by omega) (by omega)]
  omega
 have e3 : IntKind.u64.wrap (((2 ^ z - 1 : Nat) : Int) * ((2 ^ f : Nat) : Int)) = ((regM (f, z) : Nat) : Int) := by
  rw [← Int.natCast_mul]
  exact wrapU (by omega) (Int.ofNat_lt.2 h6)
 exact bodyPost_ret (v := .int .u64 (regM (f, z) : Nat)) (by simp only [h2, h3, e1, e2, e3]; simp [results, Tryz.results66, go_sem]) rfl ⟨rfl, below_drewN (bal (Below.refl _ _) _) _⟩
theorem below_own {w W W' : World} {T c n : Nat} {v : Value} {xs : List Value} (h : Below w.heap.size w W) (ho : W.ownsRow w.heap.size T c v n xs) (g : W.grownBy W' v.ownBlock) : Below w.heap.size w W' :=
 ⟨g.os.trans h.os, g.tape.trans h.tape, g.output.trans h.output, Nat.le_trans h.size g.size, fun k hk => (g.block k (Nat.lt_of_lt_of_le hk h.size) (fun e => by
  rcases ho.2 with ⟨rfl, _⟩ | ⟨b, cap, cur, rfl, hb, _⟩
  ·cases e
  ·have := Option.some.inj (show some k = some b from e)
   omega)).trans (h.block k hk)⟩
theorem bk_on {W W' : World} {b : Nat} {cs : Array Value} {T : TypeId} (h : BK W b cs T) (hb : Below W.heap.size W W') : BK W' b cs T := (hb.block _ h.lt).trans h
theorem new_rg (w4 : World) (x : Rg) : ∀ j u, (rgs [x])[j]? = some u → (w4.alloc (.cells #[.string (nmC x.2), .int .i64 (x.1.1 : Nat), .int .i64 (x.1.2 : Nat)] 138)).cell? ((⟨w4.heap.size, 0, none⟩ : Addr).add j) = some u := by
 intro j u hj
 have hj : (rgc x)[j]? = some u := hj
 rw [WideShapes.add_plain, Nat.zero_add, (bk_new w4 _ 138).cell j]
 simpa using hj
theorem askR_app (m : Nat) (a b : List Rg) : askR m (a ++ b) = askR m a ++ askR m b := List.filter_append ..
set_option maxHeartbeats 1000000 in
set_option maxRecDepth 100000 in
theorem under_any (m : Nat) (R : List Rg) (v : Value) (B : Nat) (w : World) (hm : m < 18446744073709551616) (ho : w.ownsRow B 138 3 v R.length (rgs R)) (hR : ∀ x ∈ R, x.1.1 + x.1.2 ≤ 64 ∧ x.1.2 ≤ 32) (hl : R.length ≤ 64) :
  Calls Tryz.prog 35 #[.int .u64 (m : Nat), v] w fun e w' => ∃ v', e = .returned v' ∧ w'.ownsRow w.heap.size 138 3 v' (askR m R).length (rgs (askR m R)) ∧ Below w.heap.size w w' := by
 obtain ⟨i7, hi7, hz7, hs7, hb7⟩ := info_parts Tryz.info138
 have HI7 := hid hi7
 clear hi7
 have HO := hid ho
 have HR := hid hR
 obtain ⟨a, c, rfl⟩ := own_shape ho
 clear ho hR
 go_enter Tryz.func35, Tryz.ntmps35
 go_wp2
 go_loopw [5, 10] (fun s5 s10 wx => ∃ k : Nat, k ≤ R.length ∧ s10 = .int .i64 (k : Nat) ∧ wx.ownsRow w.heap.size 138 3 s5 (askR m (R.take k)).length (rgs (askR m (R.take k))) ∧ Below w.heap.size w wx) (fun _ s10 _ => R.length - (intOf s10).toNat)
 case atStart => exact ⟨0, Nat.zero_le _, rfl, World.ownsRow_nil _ _ _ _, Below.refl _ _⟩
 case round =>
  obtain ⟨k, hk, rfl, hown, hB⟩ := hrel
  by_cases hlt : k < R.length
  case neg =>
   obtain rfl : k = R.length := by omega
   rw [List.take_length] at hown
   obtain ⟨a', c', rfl⟩ := own_shape hown
   go_wp2
   go_ret
   exact ⟨_, rfl, hown, hB⟩
  obtain ⟨g, cap, e1, hcap, hgl, hgB, m0, m1, m2, _⟩ := rg_cells (own_below HO.out hB) hlt
  cases e1
  have HMA := hid (mask_any R[k] · (HR.out _ (List.getElem_mem hlt)).1 (HR.out _ (List.getElem_mem hlt)).2)
  have HTK : Hid (askR m (R.take (k + 1)) = askR m (R.take k) ++ askR m [R[k]]) := by
   rw [List.take_succ_eq_append_getElem hlt]
   exact askR_app ..
  have HLE : Hid ((askR m (R.take k)).length ≤ 64) := Nat.le_trans (List.length_filter_le _ _) (by rw [List.length_take]; omega)
  obtain ⟨a', c', rfl⟩ := own_shape hown
  have HOW := hid hown
  clear hown
  have hrm : regM R[k].1 < 18446744073709551616 := Nat.lt_of_lt_of_le (regM_lt _) (Nat.pow_le_pow_right (by decide : 0 < 2) (HR.out _ (List.getElem_mem hlt)).1)
  generalize R[k] = x at *
  have hand : bits .and .u64 (m : Int) ((regM x.1 : Nat) : Int) = ((m &&& regM x.1 : Nat) : Int) := u64_and_nat _ _ hm hrm
  by_cases hne : m &&& regM x.1 ≠ 0
  ·have hq : (((m &&& regM x.1 : Nat) : Int) != 0) = true := by rw [bne_iff_ne]; omega
   have hyes : askR m [x] = [x] := by unfold askR; rw [List.filter_cons, if_pos (decide_eq_true hne)]; rfl
   go_wp2_with (first
    | (go_at_call 66; (with_reducible refine (HMA.out _).mono ?_); rintro e w1 ⟨rfl, hB1⟩; (have hbk := bk_on (bk_new wr _ 138) hB1); (have d1 := hbk.cell); (have l1 := hbk.lt); (have HBK := hid hbk); (have HB1 := hid hB1); clear hbk hB1)
    | (at_builtin; refine Hid.out ?_))
   refine hid ?_
   have hBw : Below w.heap.size w w1 := btr (bal hB _) HB1.out
   have hO1 := own_below (own_below HOW.out (bal (Below.refl wr.heap.size wr) _)) HB1.out
   refine wpList_append_own_at _ rfl _ _ 84 rfl w.heap.size 138 i7 _ 3 32 Tryz.underlying84 HI7.out hz7 hs7 hb7 rfl (by decide) _ _ _ rfl (own_below hO1 (bal (Below.refl _ _) _)) ⟨w1.heap.size, 0, none⟩ 1 1 (rgs [x]) rfl rfl (new_rg w1 x) (rgs_one [x]) (by have := HLE.out; unfold maxLen; omega) (by have := HLE.out; omega) (Nat.le_trans hBw.size (bal (Below.refl w1.heap.size w1) _).size) ?_
   intro v8 w8 hown8 hgrow8 hnil8 hloc8
   have hB8 : Below w.heap.size w w8 := below_own (bal hBw _) (own_below hO1 (bal (Below.refl _ _) _)) hgrow8
   go_wp2
   refine ⟨⟨k + 1, by omega, rfl, ?_, hB8⟩, by simp only [intOf]; omega⟩
   rw [HTK.out, hyes, List.length_append, rgs_app]
   exact hown8
  ·have hq : (((m &&& regM x.1 : Nat) : Int) != 0) = false := by rw [bne_eq_false_iff_eq]; omega
   have hno : askR m [x] = [] := by unfold askR; rw [List.filter_cons, if_neg (by simpa using hne)]; rfl
   go_wp2_with (go_at_call 66; (with_reducible refine (HMA.out _).mono ?_); rintro e w1 ⟨rfl, hB1⟩; (have hbk := bk_on (bk_new wr _ 138) hB1); (have d1 := hbk.cell); (have l1 := hbk.lt); (have HB1 := hid hB1); clear hB1)
   refine ⟨⟨k + 1, by omega, rfl, ?_, btr (bal hB _) HB1.out⟩, by simp only [intOf]; omega⟩
   rw [HTK.out, hno, List.append_nil]
   exact own_below (own_below HOW.out (bal (Below.refl wr.heap.size wr) _)) HB1.out
end Go.Proofs.YtdjfpghgklkejaaGreatDoor
namespace Go.Proofs.YtdjfpghgklkejaaGreatDoor
open Go.RowKit Go.Sort
structure TR (W : World) (B : Nat) (v : Value) (T : RVs) : Prop where
 own : W.ownsRow B 79 6 v T.length (rz T)
 sa : ∀ t ∈ T, W.ownsRow B 100 2 t.2 t.1.args.length (ars t.1.args)
theorem TR.below {W W' : World} {B : Nat} {v : Value} {T : RVs} (h : TR W B v T) (hb : Below W.heap.size W W') : TR W' B v T := ⟨own_below h.own hb, fun t ht => own_below (h.sa t ht) hb⟩
theorem TR.nil (W : World) (B : Nat) : TR W B (.slice none 0 0) [] := ⟨World.ownsRow_nil _ _ _ _, fun _ ht => absurd ht List.not_mem_nil⟩
theorem TR.mono {W : World} {B B' : Nat} {v : Value} {T : RVs} (h : TR W B v T) (hb : B' ≤ B) : TR W B' v T := ⟨own_mono h.own hb, fun t ht => own_mono (h.sa t ht) hb⟩
theorem TR.app {W W' : World} {B n m : Nat} {v v' : Value} {T N : RVs} (h : TR W B v T) (hg : W.grownBy W' v.ownBlock) (hn : n = T.length) (hm : m = N.length) (ho : W'.ownsRow B 79 6 v' (n + m) (rz T ++ rz N)) (hN : ∀ t ∈ N, W.ownsRow B 100 2 t.2 t.1.args.length (ars t.1.args)) : TR W' B v' (T ++ N) := by
 subst hn
 subst hm
 have key : ∀ {x : Value} {n xs}, W.ownsRow B 100 2 x n xs → W'.ownsRow B 100 2 x n xs := fun hx => own_kept hx hg (fun g e e2 => by
  obtain ⟨cs, h⟩ := own_ty h.own e2.symm
  exact own_ne hx (b := g) h (by decide) g e rfl)
 refine ⟨by rw [List.length_append, rz_app]; exact ho, fun t ht => key ?_⟩
 rcases List.mem_append.1 ht with ht | ht
 ·exact h.sa t ht
 ·exact hN t ht
theorem TR.sr {W : World} {B : Nat} {v : Value} {T : RVs} (h : TR W B v T) : SR W v (T.map Prod.fst) := own_rz h.own (fun t ht => own_sa (h.sa t ht))
abbrev n0 (r : Rw) : Rw × Value := (r, .slice none 0 0)
theorem n0_own {rs : List Rw} (h : ∀ r ∈ rs, r.args = []) (W : World) (B : Nat) : ∀ t ∈ rs.map n0, W.ownsRow B 100 2 t.2 t.1.args.length (ars t.1.args) := fun t ht => by
 obtain ⟨r, hr, rfl⟩ := List.mem_map.1 ht
 show W.ownsRow B 100 2 (.slice none 0 0) r.args.length (ars r.args)
 rw [h r hr]
 exact World.ownsRow_nil _ _ _ _
theorem rz_news (w4 : World) (b : Nat) (hb : b = w4.heap.size) (r : Rw) (v : Value) : ∀ j u, (rz [(r, v)])[j]? = some u → (w4.alloc (.cells #[.string r.kind, .string r.name, v, .int .i64 r.num, .int .i64 r.rows, .int .i64 r.place] 79)).cell? ((⟨b, 0, none⟩ : Addr).add j) = some u := new_row w4 b hb r v
theorem TR.shape {W : World} {B : Nat} {v : Value} {T : RVs} (h : TR W B v T) : ∃ a c, v = .slice a T.length c := own_shape h.own
def qRows (q : Int) : List Rw := if 0 < q then [⟨wQubits, nmQ, [], q, 0, 0⟩] else []
set_option maxHeartbeats 1000000 in
set_option maxRecDepth 100000 in
theorem declarations_any (q : Int) (R : List Rg) (v : Value) (B : Nat) (w : World) (ho : w.ownsRow B 138 3 v R.length (rgs R)) (hl : R.length ≤ 64) :
  Calls Tryz.prog 34 #[.int .i64 q, v] w fun e w' => ∃ v', e = .returned v' ∧ TR w' w.heap.size v' ((declRows q R).map n0) ∧ Below w.heap.size w w' := by
 obtain ⟨i7, hi7, hz7, hs7, hb7⟩ := info_parts Tryz.info79
 have HI7 := hid hi7
 clear hi7
 have HO := hid ho
 obtain ⟨a, c, rfl⟩ := own_shape ho
 clear ho
 by_cases hq : 0 < q
 ·have hq0 : qRows q = [⟨wQubits, nmQ, [], q, 0, 0⟩] := if_pos hq
  go_enter Tryz.func34, Tryz.ntmps34
  go_wp2_with (at_builtin; refine Hid.out ?_)
  refine hid ?_
  have hT0 := (TR.nil w w.heap.size).below (bal (Below.refl _ _) (.cells #[.string wQubits, .string nmQ, .slice none 0 0, .int .i64 q, .int .i64 0, .int .i64 0] 79))
  refine wpList_append_own_at _ rfl _ _ 22 rfl w.heap.size 79 i7 _ 6 80 Tryz.underlying22 HI7.out hz7 hs7 hb7 rfl (by decide) _ _ _ rfl hT0.own ⟨_, 0, none⟩ 1 1 (rz [n0 ⟨wQubits, nmQ, [], q, 0, 0⟩]) rfl rfl (rz_news w _ rfl ⟨wQubits, nmQ, [], q, 0, 0⟩ (.slice none 0 0)) (rz_one _ (fun t ht => by rw [List.mem_singleton] at ht; subst ht; exact ⟨_, _, _, rfl⟩)) (by unfold maxLen; simp) (by simp) (bal (Below.refl w.heap.size w) _).size ?_
  intro v8 w8 hown8 hgrow8 hnil8 hloc8
  have hB8 := below_own (bal (Below.refl w.heap.size w) _) hT0.own hgrow8
  have hT8 := hT0.app hgrow8 rfl rfl hown8 (n0_own (rs := [⟨wQubits, nmQ, [], q, 0, 0⟩]) (fun r hr => by rw [List.mem_singleton] at hr; subst hr; rfl) _ _)
  have HT8 : Hid (TR w8 w.heap.size v8 ((qRows q ++ (R.take 0).map bitRow).map n0)) := by
   rw [hq0]
   exact hT8
  have HB8 := hid hB8
  clear hown8 hgrow8 hnil8 hloc8 hT8 hT0 hB8
  go_wp2
  go_loopw [5, 17] (fun s5 s17 wx => ∃ k : Nat, k ≤ R.length ∧ s17 = .int .i64 (k : Nat) ∧ TR wx w.heap.size s5 ((qRows q ++ (R.take k).map bitRow).map n0) ∧ Below w.heap.size w wx) (fun _ s17 _ => R.length - (intOf s17).toNat)
  case atStart => exact ⟨0, Nat.zero_le _, rfl, HT8.out, HB8.out⟩
  case round =>
   obtain ⟨k, hk, rfl, hown, hB⟩ := hrel
   by_cases hlt : k < R.length
   case neg =>
    obtain rfl : k = R.length := by omega
    rw [List.take_length] at hown
    obtain ⟨a', c', rfl⟩ := hown.shape
    go_wp2
    go_ret
    exact ⟨_, rfl, hown, hB⟩
   obtain ⟨g, cap, e1, hcap, hgl, hgB, m0, m1, m2, _⟩ := rg_cells (own_below HO.out hB) hlt
   cases e1
   have HTK : Hid ((qRows q ++ (R.take (k + 1)).map bitRow).map n0 = (qRows q ++ (R.take k).map bitRow).map n0 ++ [n0 (bitRow R[k])]) := by
    rw [List.take_succ_eq_append_getElem hlt]
    show _ = _
    simp only [List.map_append, List.map_cons, List.map_nil, List.append_assoc]
   have HLE : Hid (((qRows q ++ (R.take k).map bitRow).map n0).length ≤ 65) := by
    rw [List.length_map, List.length_append, List.length_map, List.length_take]
    have : (qRows q).length ≤ 1 := by unfold qRows; split <;> simp
    show _ ≤ _
    omega
   obtain ⟨a', c', rfl⟩ := hown.shape
   have HOW := hid hown
   clear hown
   generalize R[k] = x at *
   generalize (qRows q ++ (R.take k).map bitRow).map n0 = T at *
   go_wp2_with (at_builtin; refine Hid.out ?_)
   refine hid ?_
   have hB0 : Below wr.heap.size wr (wr.alloc (.cells #[.string (nmC x.2), .int .i64 (x.1.1 : Nat), .int .i64 (x.1.2 : Nat)] 138)) := bal (Below.refl _ _) _
   have hT1 := (HOW.out.below hB0).below (bal (Below.refl _ _) (.cells #[.string wBits, .string (nmC x.2), .slice none 0 0, .int .i64 (x.1.2 : Nat), .int .i64 0, .int .i64 0] 79))
   refine wpList_append_own_at _ rfl _ _ 22 rfl w.heap.size 79 i7 _ 6 80 Tryz.underlying22 HI7.out hz7 hs7 hb7 rfl (by decide) _ _ _ rfl hT1.own ⟨_, 0, none⟩ 1 1 (rz [n0 (bitRow x)]) rfl rfl (rz_news (wr.alloc (.cells #[.string (nmC x.2), .int .i64 (x.1.1 : Nat), .int .i64 (x.1.2 : Nat)] 138)) _ (by simp) (bitRow x) (.slice none 0 0)) (rz_one _ (fun t ht => by rw [List.mem_singleton] at ht; subst ht; exact ⟨_, _, _, rfl⟩)) (by have := HLE.out; unfold maxLen; omega) (by have := HLE.out; omega) (bal (btr hB hB0) _).size ?_
   intro v8 w8 hown8 hgrow8 hnil8 hloc8
   have hB8 := below_own (bal (btr hB hB0) _) hT1.own hgrow8
   have hT8 := hT1.app hgrow8 rfl rfl hown8 (n0_own (rs := [bitRow x]) (fun r hr => by rw [List.mem_singleton] at hr; subst hr; rfl) _ _)
   clear hown8 hgrow8 hnil8 hloc8
   go_wp2
   refine ⟨⟨k + 1, by omega, rfl, ?_, hB8⟩, by simp only [intOf]; omega⟩
   rw [HTK.out]
   exact hT8
 ·have hq0 : qRows q = [] := if_neg hq
  go_enter Tryz.func34, Tryz.ntmps34
  go_wp2
  go_loopw [5, 17] (fun s5 s17 wx => ∃ k : Nat, k ≤ R.length ∧ s17 = .int .i64 (k : Nat) ∧ TR wx w.heap.size s5 ((qRows q ++ (R.take k).map bitRow).map n0) ∧ Below w.heap.size w wx) (fun _ s17 _ => R.length - (intOf s17).toNat)
  case atStart => exact ⟨0, Nat.zero_le _, rfl, by rw [hq0]; exact TR.nil _ _, Below.refl _ _⟩
  case round =>
   obtain ⟨k, hk, rfl, hown, hB⟩ := hrel
   by_cases hlt : k < R.length
   case neg =>
    obtain rfl : k = R.length := by omega
    rw [List.take_length] at hown
    obtain ⟨a', c', rfl⟩ := hown.shape
    go_wp2
    go_ret
    exact ⟨_, rfl, hown, hB⟩
   obtain ⟨g, cap, e1, hcap, hgl, hgB, m0, m1, m2, _⟩ := rg_cells (own_below HO.out hB) hlt
   cases e1
   have HTK : Hid ((qRows q ++ (R.take (k + 1)).map bitRow).map n0 = (qRows q ++ (R.take k).map bitRow).map n0 ++ [n0 (bitRow R[k])]) := by
    rw [List.take_succ_eq_append_getElem hlt]
    show _ = _
    simp only [List.map_append, List.map_cons, List.map_nil, List.append_assoc]
   have HLE : Hid (((qRows q ++ (R.take k).map bitRow).map n0).length ≤ 65) := by
    rw [List.length_map, List.length_append, List.length_map, List.length_take]
    have : (qRows q).length ≤ 1 := by unfold qRows; split <;> simp
    show _ ≤ _
    omega
   obtain ⟨a', c', rfl⟩ := hown.shape
   have HOW := hid hown
   clear hown
   generalize R[k] = x at *
   generalize (qRows q ++ (R.take k).map bitRow).map n0 = T at *
   go_wp2_with (at_builtin; refine Hid.out ?_)
   refine hid ?_
   have hB0 : Below wr.heap.size wr (wr.alloc (.cells #[.string (nmC x.2), .int .i64 (x.1.1 : Nat), .int .i64 (x.1.2 : Nat)] 138)) := bal (Below.refl _ _) _
   have hT1 := (HOW.out.below hB0).below (bal (Below.refl _ _) (.cells #[.string wBits, .string (nmC x.2), .slice none 0 0, .int .i64 (x.1.2 : Nat), .int .i64 0, .int .i64 0] 79))
   refine wpList_append_own_at _ rfl _ _ 22 rfl w.heap.size 79 i7 _ 6 80 Tryz.underlying22 HI7.out hz7 hs7 hb7 rfl (by decide) _ _ _ rfl hT1.own ⟨_, 0, none⟩ 1 1 (rz [n0 (bitRow x)]) rfl rfl (rz_news (wr.alloc (.cells #[.string (nmC x.2), .int .i64 (x.1.1 : Nat), .int .i64 (x.1.2 : Nat)] 138)) _ (by simp) (bitRow x) (.slice none 0 0)) (rz_one _ (fun t ht => by rw [List.mem_singleton] at ht; subst ht; exact ⟨_, _, _, rfl⟩)) (by have := HLE.out; unfold maxLen; omega) (by have := HLE.out; omega) (bal (btr hB hB0) _).size ?_
   intro v8 w8 hown8 hgrow8 hnil8 hloc8
   have hB8 := below_own (bal (btr hB hB0) _) hT1.own hgrow8
   have hT8 := hT1.app hgrow8 rfl rfl hown8 (n0_own (rs := [bitRow x]) (fun r hr => by rw [List.mem_singleton] at hr; subst hr; rfl) _ _)
   clear hown8 hgrow8 hnil8 hloc8
   go_wp2
   refine ⟨⟨k + 1, by omega, rfl, ?_, hB8⟩, by simp only [intOf]; omega⟩
   rw [HTK.out]
   exact hT8
end Go.Proofs.YtdjfpghgklkejaaGreatDoor
namespace Go.Proofs.YtdjfpghgklkejaaGreatDoor
open Go.RowKit Go.Sort
theorem ifRows_at (v : Nat) : ∀ (A : List Rg) (k : Nat) (h : k < A.length), (ifRows v A)[k]? = some (ifRow A[k] v (A.length - k))
 | [], k, h => absurd h (Nat.not_lt_zero _)
 | x :: A, 0, _ => rfl
 | x :: A, k + 1, h => by
  have := ifRows_at v A k (by rw [List.length_cons] at h; omega)
  show (ifRows v A)[k]? = _
  rw [this]
  have e : (x :: A).length - (k + 1) = A.length - k := Nat.add_sub_add_right _ _ _
  simp only [e, List.getElem_cons_succ]
theorem ifRows_take (v : Nat) (A : List Rg) (k : Nat) (h : k < A.length) : (ifRows v A).take (k + 1) = (ifRows v A).take k ++ [ifRow A[k] v (A.length - k)] := by
 have hl : k < (ifRows v A).length := by rw [ifRows_len]; exact h
 rw [List.take_succ_eq_append_getElem hl]
 have := ifRows_at v A k h
 rw [List.getElem?_eq_getElem hl] at this
 rw [Option.some.inj this]
set_option maxHeartbeats 1000000 in
set_option maxRecDepth 100000 in
theorem conditions_any (o : Oq) (oa : Option Addr) (oc : Nat) (A : List Rg) (v : Value) (B : Nat) (w : World) (ho : w.ownsRow B 138 3 v A.length (rgs A)) (hA : ∀ x ∈ A, x.1.1 + x.1.2 ≤ 64 ∧ x.1.2 ≤ 32) (hl : A.length ≤ 64) (hv : 0 ≤ o.v ∧ o.v ≤ 18446744073709551615) :
  Calls Tryz.prog 36 #[opv o oa oc, v] w fun e w' => ∃ v', e = .returned v' ∧ TR w' w.heap.size v' ((ifRows o.v.toNat A).map n0) ∧ Below w.heap.size w w' := by
 obtain ⟨i7, hi7, hz7, hs7, hb7⟩ := info_parts Tryz.info79
 have HI7 := hid hi7
 clear hi7
 have HO := hid ho
 have HA := hid hA
 obtain ⟨a, c, rfl⟩ := own_shape ho
 clear ho hA
 obtain ⟨ok, on, oq, ob, of, om, ov⟩ := o
 simp only at *
 obtain ⟨vv, rfl⟩ := Int.eq_ofNat_of_zero_le hv.1
 rw [Int.toNat_natCast]
 go_enter Tryz.func36, Tryz.ntmps36
 go_wp2
 go_loopw [5, 11] (fun s5 s11 wx => ∃ k : Nat, k ≤ A.length ∧ s11 = .int .i64 (k : Nat) ∧ TR wx w.heap.size s5 (((ifRows vv A).take k).map n0) ∧ BK wx w.heap.size #[.int .i64 ok, .string on, .slice oa oq.length oc, .int .i64 ob, .bool of, .int .u64 om, .int .u64 (vv : Int)] 49 ∧ Below w.heap.size w wx) (fun _ s11 _ => A.length - (intOf s11).toNat)
 case atStart => exact ⟨0, Nat.zero_le _, rfl, TR.nil _ _, bk_new _ _ _, bal (Below.refl _ _) _⟩
 case round =>
  obtain ⟨k, hk, rfl, hown, hbk, hB⟩ := hrel
  by_cases hlt : k < A.length
  case neg =>
   obtain rfl : k = A.length := by omega
   rw [List.take_of_length_le (by rw [ifRows_len]; omega)] at hown
   obtain ⟨a', c', rfl⟩ := hown.shape
   go_wp2
   go_ret
   exact ⟨_, rfl, hown, hB⟩
  obtain ⟨g, cap, e1, hcap, hgl, hgB, m0, m1, m2, _⟩ := rg_cells (own_below HO.out hB) hlt
  cases e1
  have HMA := hid (mask_any A[k] · (HA.out _ (List.getElem_mem hlt)).1 (HA.out _ (List.getElem_mem hlt)).2)
  have HTK : Hid (((ifRows vv A).take (k + 1)).map n0 = ((ifRows vv A).take k).map n0 ++ [n0 (ifRow A[k] vv (A.length - k))]) := by
   rw [ifRows_take vv A k hlt]
   show _ = _
   simp only [List.map_append, List.map_cons, List.map_nil]
  have HLE : Hid ((((ifRows vv A).take k).map n0).length ≤ 64) := by
   show _ ≤ _
   rw [List.length_map, List.length_take, ifRows_len]
   omega
  obtain ⟨a', c', rfl⟩ := hown.shape
  have HOW := hid hown
  clear hown
  have hrm : regM A[k].1 < 18446744073709551616 := Nat.lt_of_lt_of_le (regM_lt _) (Nat.pow_le_pow_right (by decide : 0 < 2) (HA.out _ (List.getElem_mem hlt)).1)
  have hzb := HA.out _ (List.getElem_mem hlt)
  have hpl : (vv &&& regM A[k].1) >>> A[k].1.1 < 4294967296 := Nat.lt_of_lt_of_le (part_lt vv A[k].1) (Nat.pow_le_pow_right (by decide : 0 < 2) hzb.2)
  generalize A[k] = x at *
  generalize ((ifRows vv A).take k).map n0 = T at *
  have hand : bits .and .u64 (vv : Int) ((regM x.1 : Nat) : Int) = ((vv &&& regM x.1 : Nat) : Int) := u64_and_nat _ _ (by omega) hrm
  obtain ⟨y, hy⟩ : ∃ y, y = (vv &&& regM x.1) >>> x.1.1 := ⟨_, rfl⟩
  have hshr : ((vv &&& regM x.1 : Nat) : Int) / 2 ^ x.1.1 = (y : Int) := by
   rw [hy, Nat.shiftRight_eq_div_pow, Int.natCast_ediv]
   simp
  have hrow : ifRow x vv (A.length - k) = ⟨wIf, nmC x.2, [], (y : Int), ((A.length - k : Nat) : Int), 0⟩ := by rw [hy]; rfl
  rw [hrow] at HTK
  rw [← hy] at hpl
  clear hy hrow
  have hsub : ((A.length : Nat) : Int) - (k : Int) = ((A.length - k : Nat) : Int) := by omega
  have d0 := hbk.cell
  have l0 := hbk.lt
  have HBK := hid hbk
  clear hbk
  go_wp2
  obtain ⟨V, hV⟩ : ∃ V, V = wr.alloc (.cells #[.string (nmC x.2), .int .i64 (x.1.1 : Nat), .int .i64 (x.1.2 : Nat)] 138) := ⟨_, rfl⟩
  have bV : BK V wr.heap.size #[.string (nmC x.2), .int .i64 (x.1.1 : Nat), .int .i64 (x.1.2 : Nat)] 138 := by rw [hV]; exact bk_new _ _ _
  have bO : BK V w.heap.size #[.int .i64 ok, .string on, .slice oa oq.length oc, .int .i64 ob, .bool of, .int .u64 om, .int .u64 (vv : Int)] 49 := by rw [hV]; exact HBK.out.alloc _
  have hWV : Below wr.heap.size wr V := by rw [hV]; exact bal (Below.refl _ _) _
  have SK : Hid (∀ w', Below V.heap.size V w' → Below V.heap.size V w' ∧ (w'.cell? ⟨w.heap.size, 6, none⟩ = some (.int .u64 (vv : Int)) ∧ w.heap.size < w'.heap.size) ∧ w'.cell? ⟨wr.heap.size, 0, none⟩ = some (.string (nmC x.2)) ∧ w'.cell? ⟨wr.heap.size, 1, none⟩ = some (.int .i64 (x.1.1 : Nat)) ∧ w'.cell? ⟨wr.heap.size, 2, none⟩ = some (.int .i64 (x.1.2 : Nat)) ∧ wr.heap.size < w'.heap.size) := fun w' hb =>
   ⟨hb, ⟨(bk_on bO hb).cell 6, (bk_on bO hb).lt⟩, (bk_on bV hb).cell 0, (bk_on bV hb).cell 1, (bk_on bV hb).cell 2, (bk_on bV hb).lt⟩
  rw [← hV]
  have HWV := hid hWV
  have HbV := hid bV
  clear hV d0 l0 bV bO hWV
  go_region_held3 (fun w' => Below V.heap.size V w' ∧ (w'.cell? ⟨w.heap.size, 6, none⟩ = some (.int .u64 (vv : Int)) ∧ w.heap.size < w'.heap.size) ∧ w'.cell? ⟨wr.heap.size, 0, none⟩ = some (.string (nmC x.2)) ∧ w'.cell? ⟨wr.heap.size, 1, none⟩ = some (.int .i64 (x.1.1 : Nat)) ∧ w'.cell? ⟨wr.heap.size, 2, none⟩ = some (.int .i64 (x.1.2 : Nat)) ∧ wr.heap.size < w'.heap.size)
   ((refine SK.out _ ?_; first | exact below_drew (Below.refl _ _) | exact hK | exact And.left (by assumption)))
   ((go_at_call 66; (with_reducible refine (HMA.out _).mono ?_); rintro e w2 ⟨rfl, hN⟩; have hK := btr (And.left (by assumption)) hN))
  all_goals
   go_wp2_with (at_builtin; refine Hid.out ?_)
   refine hid ?_
   have hT0 := (HOW.out.below HWV.out).below hK
   have hB2 := btr (btr hB HWV.out) hK
   have hT1 := hT0.below (bal (Below.refl _ _) (.cells #[.string wIf, .string (nmC x.2), .slice none 0 0, .int .i64 (y : Int), .int .i64 ((A.length - k : Nat) : Int), .int .i64 0] 79))
   refine wpList_append_own_at _ rfl _ _ 22 rfl w.heap.size 79 i7 _ 6 80 Tryz.underlying22 HI7.out hz7 hs7 hb7 rfl (by decide) _ _ _ rfl hT1.own ⟨_, 0, none⟩ 1 1 (rz [n0 ⟨wIf, nmC x.2, [], (y : Int), ((A.length - k : Nat) : Int), 0⟩]) rfl rfl (rz_news w2 _ rfl ⟨wIf, nmC x.2, [], (y : Int), ((A.length - k : Nat) : Int), 0⟩ (.slice none 0 0)) (rz_one _ (fun t ht => by rw [List.mem_singleton] at ht; subst ht; exact ⟨_, _, _, rfl⟩)) (by have := HLE.out; unfold maxLen; omega) (by have := HLE.out; omega) (bal hB2 _).size ?_
   intro v8 w8 hown8 hgrow8 hnil8 hloc8
   have hB8 := below_own (bal hB2 _) hT1.own hgrow8
   have hBK2 := (bk_on (bk_on HBK.out HWV.out) hK).alloc (.cells #[.string wIf, .string (nmC x.2), .slice none 0 0, .int .i64 (y : Int), .int .i64 ((A.length - k : Nat) : Int), .int .i64 0] 79)
   have hBK8 := (hgrow8.block _ hBK2.lt (fun e => own_ne hT1.own hBK2 (by decide) _ e.symm rfl)).trans hBK2
   have hT8 := hT1.app hgrow8 rfl rfl hown8 (n0_own (rs := [⟨wIf, nmC x.2, [], (y : Int), ((A.length - k : Nat) : Int), 0⟩]) (fun r hr => by rw [List.mem_singleton] at hr; subst hr; rfl) _ _)
   clear hown8 hgrow8 hnil8 hloc8
   go_wp2
   refine ⟨⟨k + 1, by omega, rfl, ?_, hBK8, hB8⟩, by simp only [intOf]; omega⟩
   rw [HTK.out]
   exact hT8
end Go.Proofs.YtdjfpghgklkejaaGreatDoor
