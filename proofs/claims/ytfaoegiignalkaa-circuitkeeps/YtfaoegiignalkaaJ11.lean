/-
  The reference's Then where it joins.
-/
import Derived.Test.YtfaoegiignalkaaJ9
import Derived.Test.YtfaoegiignalkaaJ7
namespace Go.Proofs.Ytfaoegiignalkaa
open Go.RowKit Go.Shelf

theorem OO.mono {W : World} {B B' : Nat} {v : Value} {os : List Oq} {vs : List (Option Addr × Nat)} (h : OO W B v os vs) (hb : B' ≤ B) : OO W B' v os vs :=
  ⟨h.len, own_mono h.own hb, fun k h1 h2 => own_mono (h.qs k h1 h2) hb, h.fit⟩
theorem OO.sets {W : World} {B X : Nat} {v : Value} {os : List Oq} {vs : List (Option Addr × Nat)} {cs : Array Value} (h : OO W B v os vs) (hb : BK W X cs 24) (u0 u1 u2 : Value) :
    OO (((W.setCell ⟨X, 0, none⟩ u0).setCell ⟨X, 1, none⟩ u1).setCell ⟨X, 2, none⟩ u2) B v os vs :=
  h.other hb (by decide) (by decide) (gb_set (gb_set (gb_set (gb_refl W X) _ _ _ (.inl rfl)) _ _ _ (.inl rfl)) _ _ _ (.inl rfl))
theorem bk_sets_far {W : World} {X b : Nat} {cs : Array Value} {T : TypeId} (h : BK W b cs T) (hne : X ≠ b) (u0 u1 u2 : Value) :
    BK (((W.setCell ⟨X, 0, none⟩ u0).setCell ⟨X, 1, none⟩ u1).setCell ⟨X, 2, none⟩ u2) b cs T := ((h.far hne 0 u0).far hne 1 u1).far hne 2 u2
theorem below_sets {w W : World} (h : Below w.heap.size w W) {X : Nat} (hX : w.heap.size ≤ X) (u0 u1 u2 : Value) : Below w.heap.size w (((W.setCell ⟨X, 0, none⟩ u0).setCell ⟨X, 1, none⟩ u1).setCell ⟨X, 2, none⟩ u2) :=
  bset (bset (bset h _ _ _ hX) _ _ _ hX) _ _ _ hX
theorem OO.alloc {W : World} {B : Nat} {v : Value} {os : List Oq} {vs : List (Option Addr × Nat)} (h : OO W B v os vs) (o : Obj) : OO (W.alloc o) B v os vs := h.below (bal (Below.refl _ _) o)
/-- Two circuits that are owned, and where they lie: what stands ahead of joining them. -/
structure SF (w W : World) (u5 u7 : Value) (os5 os7 : List Oq) (vs5 vs7 : List (Option Addr × Nat)) : Prop where
  below : Below w.heap.size w W
  b3 : BK W (w.heap.size + 1 + 1) #[.int .i64 0, .int .i64 0, .slice none 0 0] 24
  o5 : OO W w.heap.size u5 os5 vs5
  o7 : OO W w.heap.size u7 os7 vs7
section
variable {w W : World} {u5 u7 : Value} {os5 os7 : List Oq} {vs5 vs7 : List (Option Addr × Nat)}
theorem SF.alloc (h : SF w W u5 u7 os5 os7 vs5 vs7) (o : Obj) : SF w (W.alloc o) u5 u7 os5 os7 vs5 vs7 := ⟨bal h.below o, h.b3.alloc o, h.o5.alloc o, h.o7.alloc o⟩
theorem SF.sets (h : SF w W u5 u7 os5 os7 vs5 vs7) {X : Nat} {cs : Array Value} (hb : BK W X cs 24) (hX : w.heap.size + 1 + 1 < X) (x0 x1 x2 : Value) :
    SF w (((W.setCell ⟨X, 0, none⟩ x0).setCell ⟨X, 1, none⟩ x1).setCell ⟨X, 2, none⟩ x2) u5 u7 os5 os7 vs5 vs7 :=
  ⟨below_sets h.below (by omega) _ _ _, bk_sets_far h.b3 (by omega) _ _ _, h.o5.sets hb _ _ _, h.o7.sets hb _ _ _⟩
end
/-- The same, with the boxes in which they lie. -/
structure SG (w W : World) (X Y : Nat) (x y : Array Value) (u5 u7 : Value) (os5 os7 : List Oq) (vs5 vs7 : List (Option Addr × Nat)) : Prop where
  sf : SF w W u5 u7 os5 os7 vs5 vs7
  bx : BK W X x 24
  by_ : BK W Y y 24
  hx : w.heap.size + 1 + 1 < X
section
variable {w W : World} {X Y : Nat} {u5 u7 x0 x1 x2 y0 y1 y2 z0 z1 z2 t0 t1 t2 : Value} {os5 os7 : List Oq} {vs5 vs7 : List (Option Addr × Nat)}
theorem sg1 (h : SF w W u5 u7 os5 os7 vs5 vs7) (hX : X = W.heap.size) (hY : Y = W.heap.size + 1) : SG w ((W.alloc (.cells #[x0, x1, x2] 24)).alloc (.cells #[y0, y1, y2] 24)) X Y #[x0, x1, x2] #[y0, y1, y2] u5 u7 os5 os7 vs5 vs7 :=
  ⟨(h.alloc _).alloc _, (bk_at _ _ hX).alloc _, bk_at _ _ (by simpa using hY), by have := h.b3.lt; omega⟩
theorem sg2 (h : SF w W u5 u7 os5 os7 vs5 vs7) (hX : X = W.heap.size + 1) (hY : Y = W.heap.size) : SG w ((W.alloc (.cells #[y0, y1, y2] 24)).alloc (.cells #[x0, x1, x2] 24)) X Y #[x0, x1, x2] #[y0, y1, y2] u5 u7 os5 os7 vs5 vs7 :=
  ⟨(h.alloc _).alloc _, bk_at _ _ (by simpa using hX), (bk_at _ _ hY).alloc _, by have := h.b3.lt; omega⟩
theorem sg3 (h : SF w W u5 u7 os5 os7 vs5 vs7) (hb : BK W X #[z0, z1, z2] 24) (hX : w.heap.size + 1 + 1 < X) (hY : Y = W.heap.size) :
    SG w ((((W.setCell ⟨X, 0, none⟩ x0).setCell ⟨X, 1, none⟩ x1).setCell ⟨X, 2, none⟩ x2).alloc (.cells #[y0, y1, y2] 24)) X Y #[x0, x1, x2] #[y0, y1, y2] u5 u7 os5 os7 vs5 vs7 :=
  ⟨(h.sets hb hX _ _ _).alloc _, (bk_sets hb _ _ _).alloc _, bk_at _ _ (by simpa [World.setCell] using hY), hX⟩
theorem sg4 (h : SF w W u5 u7 os5 os7 vs5 vs7) (hb : BK W Y #[z0, z1, z2] 24) (hY : w.heap.size + 1 + 1 < Y) (hX : X = W.heap.size) :
    SG w ((((W.setCell ⟨Y, 0, none⟩ y0).setCell ⟨Y, 1, none⟩ y1).setCell ⟨Y, 2, none⟩ y2).alloc (.cells #[x0, x1, x2] 24)) X Y #[x0, x1, x2] #[y0, y1, y2] u5 u7 os5 os7 vs5 vs7 :=
  ⟨(h.sets hb hY _ _ _).alloc _, bk_at _ _ (by simpa [World.setCell] using hX), (bk_sets hb _ _ _).alloc _, by have := h.b3.lt; omega⟩
theorem sg5 (h : SF w W u5 u7 os5 os7 vs5 vs7) (hb : BK W X #[z0, z1, z2] 24) (hc : BK W Y #[t0, t1, t2] 24) (hX : w.heap.size + 1 + 1 < X) (hY : w.heap.size + 1 + 1 < Y) (hne : X ≠ Y) :
    SG w ((((((W.setCell ⟨X, 0, none⟩ x0).setCell ⟨X, 1, none⟩ x1).setCell ⟨X, 2, none⟩ x2).setCell ⟨Y, 0, none⟩ y0).setCell ⟨Y, 1, none⟩ y1).setCell ⟨Y, 2, none⟩ y2) X Y #[x0, x1, x2] #[y0, y1, y2] u5 u7 os5 os7 vs5 vs7 :=
  have c1 := bk_sets_far hc hne x0 x1 x2
  ⟨(h.sets hb hX _ _ _).sets c1 hY _ _ _, bk_sets_far (bk_sets hb _ _ _) (Ne.symm hne) _ _ _, bk_sets c1 _ _ _, hX⟩
end

/-- The box of the joined circuit, behind the store. -/
theorem sg_fin {w W1 : World} {X : Nat} {q b : Int} {z v : Value} {os : List Oq} {vs : List (Option Addr × Nat)} (hB : Below w.heap.size w W1) (b3 : BK W1 (w.heap.size + 1 + 1) #[.int .i64 0, .int .i64 0, .slice none 0 0] 24) (bx : BK W1 X #[.int .i64 q, .int .i64 b, z] 24) (hX : w.heap.size + 1 + 1 < X) (ho : OO W1 w.heap.size v os vs) :
    Below w.heap.size w (W1.setCell ⟨X, 2, none⟩ v) ∧ BK (W1.setCell ⟨X, 2, none⟩ v) (w.heap.size + 1 + 1) #[.int .i64 0, .int .i64 0, .slice none 0 0] 24 ∧ BK (W1.setCell ⟨X, 2, none⟩ v) X #[.int .i64 q, .int .i64 b, v] 24 ∧ OO (W1.setCell ⟨X, 2, none⟩ v) w.heap.size v os vs :=
  ⟨bset hB _ _ _ (by omega), b3.far (by omega) _ _, bx.set 2 v, ho.other bx (by decide) (by decide) (gb_set (gb_refl W1 X) _ _ _ (.inl rfl))⟩
theorem oo_cells {W : World} {B : Nat} {a : Option Addr} {n c : Nat} {os : List Oq} {vs : List (Option Addr × Nat)} (h : OO W B (.slice a n c) os vs) (h0 : 0 < os.length) : ∃ g, a = some ⟨g, 0, none⟩ ∧ ∀ j u, (opw os vs)[j]? = some u → W.cell? ((⟨g, 0, none⟩ : Addr).add j) = some u := by
  obtain ⟨g, cap, e, _, _, hc, _, _⟩ := own_at h.own h0
  cases e
  refine ⟨g, rfl, fun j u hu => ?_⟩
  obtain ⟨hj, e⟩ := List.getElem?_eq_some_iff.1 hu
  rw [WideShapes.add_plain, Nat.zero_add, hc j hj, e]
section
variable (c d : Ci) (a1 a2 : Option Addr) (c1 c2 : Nat) (A1 A2 : Nat → Option Addr) (C1 C2 : Nat → Nat) (w : World)
set_option maxHeartbeats 4000000 in
set_option maxRecDepth 100000 in
theorem rthen_yes (H1 : OS w a1 c1 c.ops A1 C1) (H2 : OS w a2 c2 d.ops A2 C2) (h1 : (lk c).2.2 = 0) (h2 : (lk d).2.2 = 0) (hq : c.q = d.q) (hb : c.b = d.b) :
    Calls Try.prog 19 #[civ c a1 c1, civ d a2 c2] w fun e w' => ThR c d w e w' := by
  have F1 := fun w1 h => rcheck_any c a1 c1 A1 C1 w1 h
  have F2 := fun w1 h => rcheck_any d a2 c2 A2 C2 w1 h
  have hn1 : c.ops.length ≤ 4096 := (lk_ok h1).2.1
  have hn2 : d.ops.length ≤ 4096 := (lk_ok h2).2.1
  have CC := fun w1 g1 => copy_any c a1 c1 A1 C1 w1 g1 hn1 (fun k hk => (ok_sizes h1 H1.fit k hk).1)
  have CD := fun w1 g1 => copy_any d a2 c2 A2 C2 w1 g1 hn2 (fun k hk => (ok_sizes h2 H2.fit k hk).1)
  have HO1 := hid H1
  have HO2 := hid H2
  have hE : thE c d = (lk (both c d)).2.2 := by unfold thE; rw [if_neg (by rw [h1]; simp), if_neg (by rw [h2]; simp), if_neg (by rw [hq, hb]; simp)]
  rw [h1] at F1
  rw [h2] at F2
  have d1 : (c.q != d.q) = false := by rw [hq]; simp
  have d2 : (c.b != d.b) = false := by rw [hb]; simp
  have TH := fun e w' => th_no c d w (e := e) (w' := w')
  have HT := hid TH
  have FB := fun a3 c3 A3 C3 w1 h => rcheck_any (both c d) a3 c3 A3 C3 w1 h
  have YE : thE c d = 0 → ∀ a' c' vs w', OO w' w.heap.size (.slice a' (c.ops ++ d.ops).length c') (c.ops ++ d.ops) vs → Below w.heap.size w w' → ThR c d w (.returned (.tuple #[.agg #[.int .i64 c.q, .int .i64 c.b, .slice a' (c.ops ++ d.ops).length c'], .int .i64 0])) w' := fun e0 a' c' vs w' h1 h2 => by
    have e2 : thR c d = both c d := by unfold thR; rw [if_pos e0]
    unfold ThR
    rw [e2, e0]
    exact ⟨a', c', vs, rfl, h1, h2⟩
  have HY := hid YE
  rw [hE] at HT HY
  clear H1 H2 hE h1 h2 hq hb TH YE
  generalize (lk c).1 = P at *
  generalize (lk d).1 = P2 at *
  generalize hQ : ThR c d w = Q at *
  generalize (lk (both c d)).2.2 = E at *
  generalize (lk (both c d)).1 = P3 at *
  go_enter Try.func19, Try.ntmps19
  go_upto_region 9 with (first
      | (go_at_call 10; (with_reducible refine (F1 _ (HO1.out.below (bal (bal (bal (Below.refl _ _) _) _) _))).mono ?_); rintro e w1 ⟨rfl, hB⟩; obtain ⟨k1, k2, k3⟩ := three_box hB; have q1 : ∀ j, w1.cell? ⟨w.heap.size, j, none⟩ = _ := k1.cell; have q2 : ∀ j, w1.cell? ⟨w.heap.size + 1, j, none⟩ = _ := k2.cell; have z3 := k3.lt; clear F1)
      | (go_at_call 10; (with_reducible refine (F2 _ (HO2.out.below (below3 hB))).mono ?_); rintro e w2 ⟨rfl, hB2⟩; have e1 : BK w2 w.heap.size _ 24 := (hB2.block _ k1.lt).trans k1; have e2 : BK w2 (w.heap.size + 1) _ 24 := (hB2.block _ k2.lt).trans k2; have e3 : BK w2 (w.heap.size + 1 + 1) _ 24 := (hB2.block _ k3.lt).trans k3; have r1 : ∀ j, w2.cell? ⟨w.heap.size, j, none⟩ = _ := e1.cell; have r2 : ∀ j, w2.cell? ⟨w.heap.size + 1, j, none⟩ = _ := e2.cell))
  have hBw := btr (below3 hB) hB2
  have HBW := hid hBw
  have HE3 := hid e3
  have y3 := e3.lt
  have hT : Hid (T3 w2 w2 w.heap.size c.q c.b d.q d.b a1 a2 c.ops.length d.ops.length c1 c2) := ⟨Below.refl _ _, r1, r2⟩
  have hV := Below.refl w2.heap.size w2
  have hszz := HBW.out.size
  clear q1 q2 r1 r2 k1 k2 k3 e1 e2 e3 hB hB2 hBw F2 z3
  rename_i Q0 K0 hK0
  have CONT : ∀ (X Y : Nat) (W : World) (a5 : Option Addr) (c5 : Nat) (v5 : List (Option Addr × Nat)) (a7 : Option Addr) (c7 : Nat) (v7 : List (Option Addr × Nat)),
      SG w W X Y #[.int .i64 c.q, .int .i64 c.b, .slice a5 c.ops.length c5] #[.int .i64 d.q, .int .i64 d.b, .slice a7 d.ops.length c7] (.slice a5 c.ops.length c5) (.slice a7 d.ops.length c7) c.ops d.ops v5 v7 →
      Exit.then K0 Q0 Exit.normal { tmps := #[civ c a1 c1, civ d a2 c2, .pointer (some ⟨w.heap.size, 0, none⟩), .pointer (some ⟨w.heap.size + 1, 0, none⟩), .pointer (some ⟨w.heap.size + 1 + 1, 0, none⟩), .int .i64 0,
          .int .i64 (P : Nat), .int .i64 0, .int .i64 (P2 : Nat), .int .i64 0, .pointer (some ⟨X, 0, none⟩), .pointer (some ⟨Y, 0, none⟩), undef, undef,
          .tuple #[.int .i64 (P : Nat), .int .i64 0], .agg #[.int .i64 c.q, .int .i64 c.b, .slice a1 c.ops.length c1], .tuple #[.int .i64 (P : Nat), .int .i64 0], .int .i64 (P : Nat),
          .int .i64 0, .int .i64 0, .bool false, undef, undef, .tuple #[.int .i64 (P2 : Nat), .int .i64 0], .agg #[.int .i64 d.q, .int .i64 d.b, .slice a2 d.ops.length c2],
          .tuple #[.int .i64 (P2 : Nat), .int .i64 0], .int .i64 (P2 : Nat), .int .i64 0, .int .i64 0, .bool false, undef, undef,
          .pointer (some ⟨w.heap.size, 0, none⟩), .int .i64 c.q, .pointer (some ⟨w.heap.size + 1, 0, none⟩), .int .i64 d.q, .bool false, .bool false, .pointer (some ⟨w.heap.size, 1, none⟩), .int .i64 c.b,
          .pointer (some ⟨w.heap.size + 1, 1, none⟩), .int .i64 d.b, .bool false, .bool false, undef, .agg #[.int .i64 c.q, .int .i64 c.b, .slice a1 c.ops.length c1], civ c a5 c5,
          .agg #[.int .i64 d.q, .int .i64 d.b, .slice a2 d.ops.length c2], civ d a7 c7, undef, undef, undef, undef, undef, undef, undef, undef, undef, undef, undef, undef, undef, undef, undef, undef], defers := [] } W := by
    intro X Y W a5 c5 v5 a7 c7 v7 hg
    clear CC CD HO1 HO2 hT hV HE3 HBW y3 hszz
    obtain ⟨hsf, hbx, hby, hX⟩ := hg
    obtain ⟨hB, b3, o5, o7⟩ := hsf
    have x1 : ∀ j, W.cell? ⟨X, j, none⟩ = _ := hbx.cell
    have f1 : ∀ j, W.frozen? ⟨X, j, none⟩ = _ := hbx.free
    have y1 : ∀ j, W.cell? ⟨Y, j, none⟩ = _ := hby.cell
    have zx := hbx.lt
    obtain ⟨ax, cx, ex, hcx⟩ := own_cap o5.own
    cases ex
    have FC : ∀ a3 c3 A3 C3 w1, OS w1 a3 c3 (c.ops ++ d.ops) A3 C3 → Calls Try.prog 10 #[.agg #[.int .i64 c.q, .int .i64 c.b, .slice a3 (c.ops ++ d.ops).length c3]] w1 fun e w' => e = .returned (.tuple #[.int .i64 (P3 : Nat), .int .i64 (E : Nat)]) ∧ Below w1.heap.size w1 w' := FB
    clear FB
    have hE2 : E = 0 ∨ ((E : Int) != 0) = true := by by_cases h : E = 0; exact .inl h; exact .inr (bne_iff_ne.2 (by omega))
    obtain ⟨i0, hi0, hz0, hz1, hz2⟩ := info_parts Try.info57
    have HI0 := hid hi0
    have HI1 := hid hz0
    have HI2 := hid hz1
    have HI4 := hid hz2
    clear hi0 hz0 hz1 hz2
    by_cases h0 : d.ops.length = 0
    · have HE : d.ops = [] := List.length_eq_zero_iff.1 h0
      have en : c.ops.length = (c.ops ++ d.ops).length := by rw [HE, List.append_nil]
      have AP : ∀ ty, (Builtin.append_ #[22, 22] ty #[.slice a5 c.ops.length c5, .slice a7 d.ops.length c7]).run Try.prog W = .ok (.slice a5 (c.ops ++ d.ops).length c5) W := fun ty => by rw [h0, ← en]; exact append_nought a5 a7 c.ops.length c5 c7 hcx ty W
      have HAP := hid AP
      have O8 : OO W w.heap.size (.slice a5 (c.ops ++ d.ops).length c5) (c.ops ++ d.ops) v5 := by rw [HE, List.append_nil]; exact o5
      obtain ⟨r1, r2, r3, r4⟩ := sg_fin hB b3 hbx hX O8
      obtain ⟨a9, c9, e9, hS⟩ := r4.read
      cases e9
      have HS := hid hS
      have HR := hid (show _ ∧ _ ∧ _ ∧ _ from ⟨r1, r2, r3, r4⟩)
      clear AP O8 r1 r2 r3 r4 hS HE en o5 o7 hbx hby b3 hcx h0 HI0 HI1 HI2 HI4
      generalize c.ops ++ d.ops = os at *
      obtain rfl | hE1 := hE2
      · go_wp2_with (first | (at_builtin; refine Lib.wpList_append_run _ rfl _ _ _ _ rfl _ _ rfl rfl _ _ (HAP.out _) ?_) | (go_at_call 10; (with_reducible refine (FC _ _ _ _ _ HS.out).mono ?_); rintro e w9 ⟨rfl, hB9⟩; have p3 : BK w9 _ _ 24 := (hB9.block _ HR.out.2.1.lt).trans HR.out.2.1; have px : BK w9 _ _ 24 := (hB9.block _ HR.out.2.2.1.lt).trans HR.out.2.2.1; have HC9 := hid (bk_sets p3 (.int .i64 c.q) (.int .i64 c.b) (.slice a5 os.length c5)).cell; have HO9 := hid ((HR.out.2.2.2.below hB9).sets p3 (.int .i64 c.q) (.int .i64 c.b) (.slice a5 os.length c5)); have HB9 := hid (btr HR.out.1 hB9); have p3c : ∀ j, w9.cell? ⟨w.heap.size + 1 + 1, j, none⟩ = _ := p3.cell; have p3f : ∀ j, w9.frozen? ⟨w.heap.size + 1 + 1, j, none⟩ = _ := p3.free; have pxc : ∀ j, w9.cell? ⟨X, j, none⟩ = _ := px.cell; have p3l := p3.lt; have pxl := px.lt))
        refine bodyPost_ret (v := .tuple #[.agg #[.int .i64 c.q, .int .i64 c.b, .slice a5 os.length c5], .int .i64 0]) (by simp [results, Try.results19, go_sem, HC9.out]) rfl (HY.out (by trivial) a5 c5 _ _ HO9.out ?_)
        exact below_sets HB9.out (by omega) _ _ _
      · go_wp2_with (first | (at_builtin; refine Lib.wpList_append_run _ rfl _ _ _ _ rfl _ _ rfl rfl _ _ (HAP.out _) ?_) | (go_at_call 10; (with_reducible refine (FC _ _ _ _ _ HS.out).mono ?_); rintro e w9 ⟨rfl, hB9⟩; have p3 : BK w9 _ _ 24 := (hB9.block _ HR.out.2.1.lt).trans HR.out.2.1; have px : BK w9 _ _ 24 := (hB9.block _ HR.out.2.2.1.lt).trans HR.out.2.2.1; have HC9 := hid (bk_sets p3 (.int .i64 c.q) (.int .i64 c.b) (.slice a5 os.length c5)).cell; have HO9 := hid ((HR.out.2.2.2.below hB9).sets p3 (.int .i64 c.q) (.int .i64 c.b) (.slice a5 os.length c5)); have HB9 := hid (btr HR.out.1 hB9); have p3c : ∀ j, w9.cell? ⟨w.heap.size + 1 + 1, j, none⟩ = _ := p3.cell; have p3f : ∀ j, w9.frozen? ⟨w.heap.size + 1 + 1, j, none⟩ = _ := p3.free; have pxc : ∀ j, w9.cell? ⟨X, j, none⟩ = _ := px.cell; have p3l := p3.lt; have pxl := px.lt))
        refine bodyPost_ret (v := .tuple #[civ noCi none 0, .int .i64 (E : Nat)]) (by simp [results, Try.results19, go_sem, *]) rfl (HT.out E _ (by rintro rfl; simp at hE1) rfl ?_)
        exact below_sets HB9.out (by omega) _ _ _
    · obtain ⟨g7, rfl, hc7⟩ := oo_cells o7 (by omega)
      have HC := hid hc7
      have HB0 := hid hB
      have HOW := hid o5.own
      have hbl := hB.size
      have HJ : Hid (∀ v' W', W.grownBy W' (Value.slice a5 c.ops.length c5).ownBlock → W'.ownsRow w.heap.size 57 7 v' (c.ops.length + d.ops.length) (opw c.ops v5 ++ opw d.ops v7) → ∃ a8 c8, v' = .slice a8 (c.ops ++ d.ops).length c8 ∧ ∃ A C, OS (W'.setCell ⟨X, 2, none⟩ v') a8 c8 (c.ops ++ d.ops) A C ∧ (∀ j, W'.cell? ⟨X, j, none⟩ = #[Value.int .i64 c.q, .int .i64 c.b, .slice a5 c.ops.length c5][j]?) ∧ (∀ j, W'.frozen? ⟨X, j, none⟩ = false) ∧ X < W'.heap.size ∧ Below w.heap.size w (W'.setCell ⟨X, 2, none⟩ v') ∧ BK (W'.setCell ⟨X, 2, none⟩ v') (w.heap.size + 1 + 1) #[.int .i64 0, .int .i64 0, .slice none 0 0] 24 ∧ BK (W'.setCell ⟨X, 2, none⟩ v') X #[.int .i64 c.q, .int .i64 c.b, v'] 24 ∧ OO (W'.setCell ⟨X, 2, none⟩ v') w.heap.size v' (c.ops ++ d.ops) (v5 ++ v7)) := fun v' W' hg ho => by
        have key : ∀ {b cs}, BK W b cs 24 → BK W' b cs 24 := fun h => (hg.block _ h.lt (fun e => own_ne o5.own h (by decide) _ e.symm rfl)).trans h
        have O8 : OO W' w.heap.size v' (c.ops ++ d.ops) (v5 ++ v7) := o5.join o7 hg ho
        obtain ⟨r1, r2, r3, r4⟩ := sg_fin (hB.grown hg hbl (fun g e => (o5.own.lt g e).1)) (key b3) (key hbx) hX O8
        obtain ⟨a9, c9, e9, hS⟩ := r4.read
        exact ⟨a9, c9, e9, _, _, hS, (key hbx).cell, (key hbx).free, (key hbx).lt, r1, r2, r3, r4⟩
      have hl7 := opw_length d.ops v7 o7.len
      have HL7 := hid hl7
      clear o5 o7 hbx hby b3 hcx hB hc7 hl7
      generalize c.ops ++ d.ops = os at *
      obtain rfl | hE1 := hE2
      · go_wp2_with (first | (at_builtin; refine wpList_append_own_at _ rfl _ _ 22 rfl w.heap.size 57 i0 _ 7 80 Try.underlying22 HI0.out HI1.out HI2.out HI4.out rfl (by decide) _ _ _ rfl HOW.out ⟨g7, 0, none⟩ d.ops.length c7 (opw d.ops v7) rfl HL7.out HC.out (opw_one _ _) (by unfold maxLen; omega) (by omega) hbl ?_; intro v8 w8 hown8 hgrow8 _ _; obtain ⟨a8, c8, rfl, A8, C8, s1, s2, s3, s4, s5⟩ := HJ.out v8 w8 hgrow8 hown8; have HS := hid s1; have HR := hid s5; clear s1 s5 hown8 hgrow8 x1 f1 y1 zx) | (go_at_call 10; (with_reducible refine (FC _ _ _ _ _ HS.out).mono ?_); rintro e w9 ⟨rfl, hB9⟩; have p3 : BK w9 _ _ 24 := (hB9.block _ HR.out.2.1.lt).trans HR.out.2.1; have px : BK w9 _ _ 24 := (hB9.block _ HR.out.2.2.1.lt).trans HR.out.2.2.1; have HC9 := hid (bk_sets p3 (.int .i64 c.q) (.int .i64 c.b) (.slice a8 os.length c8)).cell; have HO9 := hid ((HR.out.2.2.2.below hB9).sets p3 (.int .i64 c.q) (.int .i64 c.b) (.slice a8 os.length c8)); have HB9 := hid (btr HR.out.1 hB9); have p3c : ∀ j, w9.cell? ⟨w.heap.size + 1 + 1, j, none⟩ = _ := p3.cell; have p3f : ∀ j, w9.frozen? ⟨w.heap.size + 1 + 1, j, none⟩ = _ := p3.free; have pxc : ∀ j, w9.cell? ⟨X, j, none⟩ = _ := px.cell; have p3l := p3.lt; have pxl := px.lt))
        refine bodyPost_ret (v := .tuple #[.agg #[.int .i64 c.q, .int .i64 c.b, .slice a8 os.length c8], .int .i64 0]) (by simp [results, Try.results19, go_sem, HC9.out]) rfl (HY.out (by trivial) a8 c8 _ _ HO9.out ?_)
        exact below_sets HB9.out (by omega) _ _ _
      · go_wp2_with (first | (at_builtin; refine wpList_append_own_at _ rfl _ _ 22 rfl w.heap.size 57 i0 _ 7 80 Try.underlying22 HI0.out HI1.out HI2.out HI4.out rfl (by decide) _ _ _ rfl HOW.out ⟨g7, 0, none⟩ d.ops.length c7 (opw d.ops v7) rfl HL7.out HC.out (opw_one _ _) (by unfold maxLen; omega) (by omega) hbl ?_; intro v8 w8 hown8 hgrow8 _ _; obtain ⟨a8, c8, rfl, A8, C8, s1, s2, s3, s4, s5⟩ := HJ.out v8 w8 hgrow8 hown8; have HS := hid s1; have HR := hid s5; clear s1 s5 hown8 hgrow8 x1 f1 y1 zx) | (go_at_call 10; (with_reducible refine (FC _ _ _ _ _ HS.out).mono ?_); rintro e w9 ⟨rfl, hB9⟩; have p3 : BK w9 _ _ 24 := (hB9.block _ HR.out.2.1.lt).trans HR.out.2.1; have px : BK w9 _ _ 24 := (hB9.block _ HR.out.2.2.1.lt).trans HR.out.2.2.1; have HC9 := hid (bk_sets p3 (.int .i64 c.q) (.int .i64 c.b) (.slice a8 os.length c8)).cell; have HO9 := hid ((HR.out.2.2.2.below hB9).sets p3 (.int .i64 c.q) (.int .i64 c.b) (.slice a8 os.length c8)); have HB9 := hid (btr HR.out.1 hB9); have p3c : ∀ j, w9.cell? ⟨w.heap.size + 1 + 1, j, none⟩ = _ := p3.cell; have p3f : ∀ j, w9.frozen? ⟨w.heap.size + 1 + 1, j, none⟩ = _ := p3.free; have pxc : ∀ j, w9.cell? ⟨X, j, none⟩ = _ := px.cell; have p3l := p3.lt; have pxl := px.lt))
        refine bodyPost_ret (v := .tuple #[civ noCi none 0, .int .i64 (E : Nat)]) (by simp [results, Try.results19, go_sem, *]) rfl (HT.out E _ (by rintro rfl; simp at hE1) rfl ?_)
        exact below_sets HB9.out (by omega) _ _ _
  go_region_held3 (fun w' => T3 w2 w' w.heap.size c.q c.b d.q d.b a1 a2 c.ops.length d.ops.length c1 c2)
    ((refine t3_keep hT.out (by omega) ?_; repeat (first | (with_reducible refine bset ?_ _ _ _ (by omega)) | (with_reducible refine bal ?_ _) | (with_reducible exact hL7) | (with_reducible exact hL5) | (with_reducible exact hV) | (with_reducible refine below_drew ?_))))
    (first
      | (go_at_call 29; (with_reducible refine (CC _ (HO1.out.below (btr HBW.out (And.left (by assumption))))).mono ?_); rintro e w5 ⟨a5, c5, v5, rfl, hO5, hN5⟩; have hL5 : Below w2.heap.size w2 w5 := btr (And.left (by assumption)) hN5; have s5 := hL5.size; have t5 := hN5.size; (try simp at t5); have K1 : BK w5 (w2.heap.size) #[.int .i64 0, .int .i64 0, .slice none 0 0] 24 := (hN5.block _ (by simp <;> omega)).trans ((bk_at _ _ (by simp)).alloc _).drew; have K2 : BK w5 (w2.heap.size + 1) #[.int .i64 0, .int .i64 0, .slice none 0 0] 24 := (hN5.block _ (by simp)).trans (bk_at _ _ (by simp)).drew; have K1c : ∀ j, w5.cell? ⟨w2.heap.size, j, none⟩ = _ := K1.cell; have K1f : ∀ j, w5.frozen? ⟨w2.heap.size, j, none⟩ = _ := K1.free; have K1l := K1.lt; have K2c : ∀ j, w5.cell? ⟨w2.heap.size + 1, j, none⟩ = _ := K2.cell; have K2f : ∀ j, w5.frozen? ⟨w2.heap.size + 1, j, none⟩ = _ := K2.free; have K2l := K2.lt)
      | (go_at_call 29; (with_reducible refine (CC _ (HO1.out.below (btr HBW.out (And.left (by assumption))))).mono ?_); rintro e w5 ⟨a5, c5, v5, rfl, hO5, hN5⟩; have hL5 : Below w2.heap.size w2 w5 := btr (And.left (by assumption)) hN5; have s5 := hL5.size; have t5 := hN5.size; (try simp at t5); have K1 : BK w5 (w2.heap.size) #[.int .i64 0, .int .i64 0, .slice none 0 0] 24 := (hN5.block _ (by simp)).trans (bk_at _ _ (by simp)).drew; have K1c : ∀ j, w5.cell? ⟨w2.heap.size, j, none⟩ = _ := K1.cell; have K1f : ∀ j, w5.frozen? ⟨w2.heap.size, j, none⟩ = _ := K1.free; have K1l := K1.lt)
      | (go_at_call 29; (with_reducible refine (CC _ (HO1.out.below (btr HBW.out (And.left (by assumption))))).mono ?_); rintro e w5 ⟨a5, c5, v5, rfl, hO5, hN5⟩; have hL5 : Below w2.heap.size w2 w5 := btr (And.left (by assumption)) hN5; have s5 := hL5.size; have t5 := hN5.size; (try simp at t5); skip)
      | (go_at_call 29; (with_reducible refine (CD _ (HO2.out.below (btr HBW.out (And.left (by assumption))))).mono ?_); rintro e w7 ⟨a7, c7, v7, rfl, hO7, hN7⟩; have hL7 : Below w2.heap.size w2 w7 := btr (And.left (by assumption)) hN7; have s7 := hL7.size; have t7 := hN7.size; (try simp at t7); have L1 : BK w7 (w2.heap.size) #[.int .i64 0, .int .i64 0, .slice none 0 0] 24 := (hN7.block _ K1.lt).trans K1; have L2 : BK w7 (w2.heap.size + 1) #[.int .i64 0, .int .i64 0, .slice none 0 0] 24 := (hN7.block _ K2.lt).trans K2; clear K1c K1f K1l K2c K2f K2l; have L1c : ∀ j, w7.cell? ⟨w2.heap.size, j, none⟩ = _ := L1.cell; have L1f : ∀ j, w7.frozen? ⟨w2.heap.size, j, none⟩ = _ := L1.free; have L1l := L1.lt; have L2c : ∀ j, w7.cell? ⟨w2.heap.size + 1, j, none⟩ = _ := L2.cell; have L2f : ∀ j, w7.frozen? ⟨w2.heap.size + 1, j, none⟩ = _ := L2.free; have L2l := L2.lt)
      | (go_at_call 29; (with_reducible refine (CD _ (HO2.out.below (btr HBW.out (And.left (by assumption))))).mono ?_); rintro e w7 ⟨a7, c7, v7, rfl, hO7, hN7⟩; have hL7 : Below w2.heap.size w2 w7 := btr (And.left (by assumption)) hN7; have s7 := hL7.size; have t7 := hN7.size; (try simp at t7); have L1 : BK w7 (w2.heap.size) #[.int .i64 0, .int .i64 0, .slice none 0 0] 24 := (hN7.block _ (K1.alloc _).lt).trans (K1.alloc _); have L2 : BK w7 (w5.heap.size) #[.int .i64 0, .int .i64 0, .slice none 0 0] 24 := (hN7.block _ (by simp)).trans (bk_at _ _ (by simp)); have L12 := K1.lt; clear K1c K1f K1l; have L1c : ∀ j, w7.cell? ⟨w2.heap.size, j, none⟩ = _ := L1.cell; have L1f : ∀ j, w7.frozen? ⟨w2.heap.size, j, none⟩ = _ := L1.free; have L1l := L1.lt; have L2c : ∀ j, w7.cell? ⟨w5.heap.size, j, none⟩ = _ := L2.cell; have L2f : ∀ j, w7.frozen? ⟨w5.heap.size, j, none⟩ = _ := L2.free; have L2l := L2.lt)
      | (go_at_call 29; (with_reducible refine (CD _ (HO2.out.below (btr HBW.out (And.left (by assumption))))).mono ?_); rintro e w7 ⟨a7, c7, v7, rfl, hO7, hN7⟩; have hL7 : Below w2.heap.size w2 w7 := btr (And.left (by assumption)) hN7; have s7 := hL7.size; have t7 := hN7.size; (try simp at t7); have L1 : BK w7 (w2.heap.size) #[.int .i64 0, .int .i64 0, .slice none 0 0] 24 := (hN7.block _ K1.lt).trans K1; clear K1c K1f K1l; have L1c : ∀ j, w7.cell? ⟨w2.heap.size, j, none⟩ = _ := L1.cell; have L1f : ∀ j, w7.frozen? ⟨w2.heap.size, j, none⟩ = _ := L1.free; have L1l := L1.lt)
      | (go_at_call 29; (with_reducible refine (CD _ (HO2.out.below (btr HBW.out (And.left (by assumption))))).mono ?_); rintro e w7 ⟨a7, c7, v7, rfl, hO7, hN7⟩; have hL7 : Below w2.heap.size w2 w7 := btr (And.left (by assumption)) hN7; have s7 := hL7.size; have t7 := hN7.size; (try simp at t7); have L1 : BK w7 (w5.heap.size) #[.int .i64 0, .int .i64 0, .slice none 0 0] 24 := (hN7.block _ (by simp; omega)).trans ((bk_at _ _ (by simp)).alloc _); have L2 : BK w7 (w5.heap.size + 1) #[.int .i64 0, .int .i64 0, .slice none 0 0] 24 := (hN7.block _ (by simp)).trans (bk_at _ _ (by simp)); have L1c : ∀ j, w7.cell? ⟨w5.heap.size, j, none⟩ = _ := L1.cell; have L1f : ∀ j, w7.frozen? ⟨w5.heap.size, j, none⟩ = _ := L1.free; have L1l := L1.lt; have L2c : ∀ j, w7.cell? ⟨w5.heap.size + 1, j, none⟩ = _ := L2.cell; have L2f : ∀ j, w7.frozen? ⟨w5.heap.size + 1, j, none⟩ = _ := L2.free; have L2l := L2.lt)
      | (go_at_call 29; (with_reducible refine (CD _ (HO2.out.below (btr HBW.out (And.left (by assumption))))).mono ?_); rintro e w7 ⟨a7, c7, v7, rfl, hO7, hN7⟩; have hL7 : Below w2.heap.size w2 w7 := btr (And.left (by assumption)) hN7; have s7 := hL7.size; have t7 := hN7.size; (try simp at t7); have L1 : BK w7 (w5.heap.size) #[.int .i64 0, .int .i64 0, .slice none 0 0] 24 := (hN7.block _ (by simp)).trans (bk_at _ _ (by simp)); have L1c : ∀ j, w7.cell? ⟨w5.heap.size, j, none⟩ = _ := L1.cell; have L1f : ∀ j, w7.frozen? ⟨w5.heap.size, j, none⟩ = _ := L1.free; have L1l := L1.lt)
      | (go_at_call 29; (with_reducible refine (CD _ (HO2.out.below (btr HBW.out (And.left (by assumption))))).mono ?_); rintro e w7 ⟨a7, c7, v7, rfl, hO7, hN7⟩; have hL7 : Below w2.heap.size w2 w7 := btr (And.left (by assumption)) hN7; have s7 := hL7.size; have t7 := hN7.size; (try simp at t7); skip))
  all_goals (have base : SF w w7 (.slice a5 c.ops.length c5) (.slice a7 d.ops.length c7) c.ops d.ops v5 v7 := ⟨btr HBW.out hL7, (hL7.block _ y3).trans HE3.out, OO.mono (hO5.below (by first | with_reducible exact hN7 | exact btr (bal (Below.refl _ _) _) hN7 | exact btr (bal (bal (Below.refl _ _) _) _) hN7)) (by first | omega | (simp; omega)), OO.mono hO7 (by first | omega | (simp; omega))⟩)
  all_goals (refine CONT _ _ _ a5 c5 v5 a7 c7 v7 ?_)
  all_goals first
    | (with_reducible exact sg1 base rfl rfl)
    | (with_reducible exact sg2 base rfl rfl)
    | (with_reducible exact sg3 base L1 (by omega) rfl)
    | (with_reducible exact sg4 base L1 (by omega) rfl)
    | (with_reducible exact sg5 base L1 L2 (by omega) (by omega) (by omega))
    | (with_reducible exact sg5 base L2 L1 (by omega) (by omega) (by omega))
end
end Go.Proofs.Ytfaoegiignalkaa
