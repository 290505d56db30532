/-
  Then of the code.
-/
import Derived.Test.YtfaoegiignalkaaJ8
namespace Go.Proofs.Ytfaoegiignalkaa
open Go.RowKit Go.Shelf

abbrev T3 (V W : World) (s : Nat) (q b q' b' : Int) (a1 a2 : Option Addr) (n1 n2 c1 c2 : Nat) : Prop :=
  Below V.heap.size V W ∧ (∀ j, W.cell? ⟨s, j, none⟩ = #[Value.int .i64 q, .int .i64 b, .slice a1 n1 c1][j]?) ∧ (∀ j, W.cell? ⟨s + 1, j, none⟩ = #[Value.int .i64 q', .int .i64 b', .slice a2 n2 c2][j]?)
theorem t3_keep {V W : World} {s : Nat} {q b q' b' : Int} {a1 a2 : Option Addr} {n1 n2 c1 c2 : Nat} (H : T3 V V s q b q' b' a1 a2 n1 n2 c1 c2) (h1 : s + 1 < V.heap.size) (hb : Below V.heap.size V W) : T3 V W s q b q' b' a1 a2 n1 n2 c1 c2 :=
  ⟨hb, fun j => (hb.cell (p := ⟨s, j, none⟩) (Nat.lt_of_succ_lt h1)).trans (H.2.1 j), fun j => (hb.cell (p := ⟨s + 1, j, none⟩) h1).trans (H.2.2 j)⟩
theorem rest0 {w : World} {os1 os2 : List Oq} {a1 a2 : Option Addr} {c1 c2 : Nat} {A1 A2 : Nat → Option Addr} {C1 C2 : Nat → Nat} (h1 : OS w a1 c1 os1 A1 C1) (h2 : OS w a2 c2 os2 A2 C2) :
    ∀ j (h : j < (os1 ++ os2).length), QS w (vA (pvs os1.length A1 C1 ++ pvs os2.length A2 C2) j) (vC (pvs os1.length A1 C1 ++ pvs os2.length A2 C2) j) (os1 ++ os2)[j].qs ∧ Fit (os1 ++ os2)[j] := by
  intro j h
  unfold vA vC
  rw [List.getD_eq_getElem?_getD]
  by_cases e : j < os1.length
  · rw [List.getElem?_append_left (by rw [pvs_len]; exact e), List.getElem_append_left e, List.getElem?_eq_getElem (by rw [pvs_len]; exact e)]
    have : (pvs os1.length A1 C1)[j]'(by rw [pvs_len]; exact e) = (A1 j, C1 j) := by simp [pvs]
    rw [this]
    exact ⟨h1.qs j e, h1.fit j e⟩
  · rw [List.length_append] at h
    rw [List.getElem?_append_right (by rw [pvs_len]; omega), List.getElem_append_right (by omega), pvs_len, List.getElem?_eq_getElem (by rw [pvs_len]; omega)]
    have : (pvs os2.length A2 C2)[j - os1.length]'(by rw [pvs_len]; omega) = (A2 (j - os1.length), C2 (j - os1.length)) := by simp [pvs]
    rw [this]
    exact ⟨h2.qs _ (by omega), h2.fit _ (by omega)⟩
theorem ok_sizes {c : Ci} (hz : (lk c).2.2 = 0) (hf : ∀ k (h : k < c.ops.length), Fit c.ops[k]) : ∀ k (hk : k < c.ops.length), (0 < c.ops[k].qs.length ∧ c.ops[k].qs.length ≤ 100) ∧ c.ops[k].n.size ≤ 281474976710656 := by
  intro k hk
  obtain ⟨_, h2⟩ := lk_okay hz hf k hk
  obtain ⟨g1, _, h3, h4, _, _⟩ := opE_ok h2
  have h5 : opN c.ops[k] ≤ 3 := by unfold opN; have := gar_le c.ops[k].n; split <;> omega
  refine ⟨by omega, ?_⟩
  by_cases hk1 : c.ops[k].k = 1
  · exact (op_gate h2 hk1).2.2.2
  · generalize c.ops[k] = o at *
    unfold rfB at g1
    rw [if_neg (by simpa using hk1)] at g1
    have e : emB o.n = true := by
      split at g1
      · exact g1
      · split at g1
        · rw [Bool.and_eq_true] at g1; exact g1.1
        · cases g1
    unfold emB at e
    rw [of_decide_eq_true e]
    decide
/-- The box of the joined circuit, and the box of an operation. -/
abbrev U2 (W : World) (X h : Nat) (q b : Int) (v : Value) (o : Oq) (ak : Option Addr) (ck : Nat) : Prop :=
  (BK W X #[.int .i64 q, .int .i64 b, v] 24 ∧ BK W h (opc o ak ck).toArray 57) ∧ (∀ j, W.cell? ⟨X, j, none⟩ = #[Value.int .i64 q, .int .i64 b, v][j]?) ∧ (∀ j, W.cell? ⟨h, j, none⟩ = #[Value.int .i64 o.k, .string o.n, .slice ak o.qs.length ck, .int .i64 o.b, .bool o.f, .int .u64 o.m, .int .u64 o.v][j]?)
theorem u2 {W : World} {X h : Nat} {q b : Int} {v : Value} {o : Oq} {ak : Option Addr} {ck : Nat} (h1 : BK W X #[.int .i64 q, .int .i64 b, v] 24) (h2 : BK W h (opc o ak ck).toArray 57) : U2 W X h q b v o ak ck := ⟨⟨h1, h2⟩, h1.cell, h2.cell⟩
theorem u2_set {W : World} {X h g i : Nat} {q b : Int} {v : Value} {o o' : Oq} {ak a : Option Addr} {ck c : Nat} (H : U2 W X h q b v o ak ck) (n1 : X ≠ g) (n2 : h ≠ g) : U2 (setw W g i o' a c) X h q b v o ak ck := by
  have hg : GB W (setw W g i o' a c) g := gb_set (gb_set (gb_set (gb_set (gb_set (gb_set (gb_set (gb_refl W g) _ _ _ (.inl rfl)) _ _ _ (.inl rfl)) _ _ _ (.inl rfl)) _ _ _ (.inl rfl)) _ _ _ (.inl rfl)) _ _ _ (.inl rfl)) _ _ _ (.inl rfl)
  exact u2 (gb_bk hg H.1.1 n1) (gb_bk hg H.1.2 n2)
theorem u2_on {W W' : World} {X h : Nat} {q b : Int} {v : Value} {o : Oq} {ak : Option Addr} {ck : Nat} (H : U2 W X h q b v o ak ck) (hB : Below W.heap.size W W') : U2 W' X h q b v o ak ck := u2 ((hB.block _ H.1.1.lt).trans H.1.1) ((hB.block _ H.1.2.lt).trans H.1.2)
theorem bk_sets {W : World} {X : Nat} {z0 z1 z2 : Value} (h : BK W X #[z0, z1, z2] 24) (u0 u1 u2 : Value) : BK (((W.setCell ⟨X, 0, none⟩ u0).setCell ⟨X, 1, none⟩ u1).setCell ⟨X, 2, none⟩ u2) X #[u0, u1, u2] 24 := ((h.set 0 u0).set 1 u1).set 2 u2
section
variable (c d : Ci) (a1 a2 : Option Addr) (c1 c2 : Nat) (A1 A2 : Nat → Option Addr) (C1 C2 : Nat → Nat) (w : World)
set_option maxHeartbeats 4000000 in
set_option maxRecDepth 100000 in
theorem then_yes (H1 : OS w a1 c1 c.ops A1 C1) (H2 : OS w a2 c2 d.ops A2 C2) (h1 : (lk c).2.2 = 0) (h2 : (lk d).2.2 = 0) (hq : c.q = d.q) (hb : c.b = d.b) :
    Calls Try.prog 21 #[civ c a1 c1, civ d a2 c2] w fun e w' => ThR c d w e w' := by
  have F1 := fun w1 h => check_any c a1 c1 A1 C1 w1 h
  have F2 := fun w1 h => check_any d a2 c2 A2 C2 w1 h
  have hn1 : c.ops.length ≤ 4096 := (lk_ok h1).2.1
  have hn2 : d.ops.length ≤ 4096 := (lk_ok h2).2.1
  have CC := fun x w1 g1 g2 g3 => concat_any c.ops d.ops a1 a2 c1 c2 A1 A2 C1 C2 x w1 g1 g2 hn1 hn2 g3
  have HO1 := hid H1
  have HO2 := hid H2
  have hE : thE c d = (lk (both c d)).2.2 := by unfold thE; rw [if_neg (by rw [h1]; simp), if_neg (by rw [h2]; simp), if_neg (by rw [hq, hb]; simp)]
  rw [h1] at F1
  rw [h2] at F2
  have d1 : (c.q != d.q) = false := by rw [hq]; simp
  have d2 : (c.b != d.b) = false := by rw [hb]; simp
  generalize (lk c).1 = P at *
  generalize (lk d).1 = P2 at *
  have TH := fun e w' => th_no c d w (e := e) (w' := w')
  have HT := hid TH
  have hlo : (both c d).ops = c.ops ++ d.ops := rfl
  have FB := fun a3 c3 A3 C3 w1 h => check_any (both c d) a3 c3 A3 C3 w1 h
  have YE : thE c d = 0 → ∀ a' c' vs w', OO w' w.heap.size (.slice a' (c.ops ++ d.ops).length c') (c.ops ++ d.ops) vs → Below w.heap.size w w' → ThR c d w (.returned (.tuple #[.agg #[.int .i64 c.q, .int .i64 c.b, .slice a' (c.ops ++ d.ops).length c'], .int .i64 0])) w' := fun e0 a' c' vs w' h1 h2 => by
    have e2 : thR c d = both c d := by unfold thR; rw [if_pos e0]
    unfold ThR
    rw [e2, e0]
    exact ⟨a', c', vs, rfl, h1, h2⟩
  have HY := hid YE
  rw [hE] at HT HY
  have HNM : Hid ((lk (both c d)).2.2 = 0 → ∀ k (hk : k < (c.ops ++ d.ops).length), (0 < (c.ops ++ d.ops)[k].qs.length ∧ (c.ops ++ d.ops)[k].qs.length ≤ 100) ∧ (c.ops ++ d.ops)[k].n.size ≤ 281474976710656) := fun hz => ok_sizes (c := both c d) hz (fun k h => (rest0 H1 H2 k h).2)
  have HR0 := hid (rest0 H1 H2)
  clear H1 H2 hE h1 h2 hq hb TH YE hlo
  generalize hQ : ThR c d w = Q at *
  generalize (lk (both c d)).2.2 = E at *
  generalize (lk (both c d)).1 = P3 at *
  go_enter Try.func21, Try.ntmps21
  go_upto_region 9 with (first
      | (go_at_call 14; (with_reducible refine (F1 _ (HO1.out.below (bal (bal (bal (Below.refl _ _) _) _) _))).mono ?_); rintro e w1 ⟨rfl, hB⟩; obtain ⟨k1, k2, k3⟩ := three_box hB; have q1 : ∀ j, w1.cell? ⟨w.heap.size, j, none⟩ = _ := k1.cell; have q2 : ∀ j, w1.cell? ⟨w.heap.size + 1, j, none⟩ = _ := k2.cell; have z3 := k3.lt; clear F1)
      | (go_at_call 14; (with_reducible refine (F2 _ (HO2.out.below (below3 hB))).mono ?_); rintro e w2 ⟨rfl, hB2⟩; have e1 : BK w2 w.heap.size _ 24 := (hB2.block _ k1.lt).trans k1; have e2 : BK w2 (w.heap.size + 1) _ 24 := (hB2.block _ k2.lt).trans k2; have e3 : BK w2 (w.heap.size + 1 + 1) _ 24 := (hB2.block _ k3.lt).trans k3; have r1 : ∀ j, w2.cell? ⟨w.heap.size, j, none⟩ = _ := e1.cell; have r2 : ∀ j, w2.cell? ⟨w.heap.size + 1, j, none⟩ = _ := e2.cell))
  have hBw := btr (below3 hB) hB2
  have HBW := hid hBw
  have HE3 := hid e3
  have y3 := e3.lt
  have hT : Hid (T3 w2 w2 w.heap.size c.q c.b d.q d.b a1 a2 c.ops.length d.ops.length c1 c2) := ⟨Below.refl _ _, r1, r2⟩
  have hV := Below.refl w2.heap.size w2
  have hszz := HBW.out.size
  clear q1 q2 r1 r2 k1 k2 k3 e1 e2 e3 hB hB2 hBw F2 z3
  go_region_held3 (fun w' => T3 w2 w' w.heap.size c.q c.b d.q d.b a1 a2 c.ops.length d.ops.length c1 c2)
    ((refine t3_keep hT.out (by omega) ?_; first | exact below_drew hV | exact hB5 | exact bal hB5 _ | exact bset (bset (bset hB5 _ _ _ (by omega)) _ _ _ (by omega)) _ _ _ (by omega) | exact bal (And.left (by assumption)) _ | exact btr (bal (bal (And.left (by assumption)) _) _) hN | exact btr (bal (And.left (by assumption)) _) hN | exact btr (And.left (by assumption)) hN))
    (first | (go_at_call 41; (with_reducible refine (CC _ _ (HO1.out.below (btr HBW.out (And.left (by assumption)))) (HO2.out.below (btr HBW.out (And.left (by assumption)))) ?_).mono ?_); (first | exact bk_at _ _ (by simp) | exact (bk_at _ _ (by simp)).alloc _); rintro e w5 ⟨v5, rfl, ho5, hN⟩; obtain ⟨a5, c5, rfl⟩ := own_shape ho5; have hB5 : Below w2.heap.size w2 w5 := btr (And.left (by assumption)) hN; have kk1 : ∀ j, w2.heap.size < _ → w5.cell? ⟨w2.heap.size, j, none⟩ = _ := fun j h => hN.cell (p := ⟨w2.heap.size, j, none⟩) h; have kf1 : ∀ j, w2.heap.size < _ → w5.frozen? ⟨w2.heap.size, j, none⟩ = _ := fun j h => hN.frozen (p := ⟨w2.heap.size, j, none⟩) h; have kk2 : ∀ j, w2.heap.size + 1 < _ → w5.cell? ⟨w2.heap.size + 1, j, none⟩ = _ := fun j h => hN.cell (p := ⟨w2.heap.size + 1, j, none⟩) h; have kf2 : ∀ j, w2.heap.size + 1 < _ → w5.frozen? ⟨w2.heap.size + 1, j, none⟩ = _ := fun j h => hN.frozen (p := ⟨w2.heap.size + 1, j, none⟩) h))
  all_goals (rw [show c.ops.length + d.ops.length = (c.ops ++ d.ops).length from List.length_append.symm] at ho5 ⊢)
  all_goals (have hBw5 : Below w.heap.size w w5 := btr HBW.out hB5)
  all_goals (have b35 : BK w5 (w.heap.size + 1 + 1) #[.int .i64 0, .int .i64 0, .slice none 0 0] 24 := (hB5.block _ y3).trans HE3.out)
  all_goals (have own5 : w5.ownsRow w.heap.size 57 7 (.slice a5 (c.ops ++ d.ops).length c5) (c.ops ++ d.ops).length (opw (c.ops ++ d.ops) (pvs c.ops.length A1 C1 ++ pvs d.ops.length A2 C2)) := (by rw [opw_append _ _ _ _ (pvs_len _ _ _).symm]; exact own_mono ho5 (by simp; omega)))
  all_goals (have hl0 : (c.ops ++ d.ops).length = (pvs c.ops.length A1 C1 ++ pvs d.ops.length A2 C2).length := (by simp [pvs_len]))
  · have M0 : MX w (w5.alloc (.cells #[.int .i64 c.q, .int .i64 c.b, .slice a5 (c.ops ++ d.ops).length c5] 24)) c.q c.b w5.heap.size (c.ops ++ d.ops) (.slice a5 (c.ops ++ d.ops).length c5) (pvs c.ops.length A1 C1 ++ pvs d.ops.length A2 C2) 0 :=
      ⟨bal hBw5 _, b35.alloc _, bk_at _ _ rfl, hl0, own_below own5 (bal (Below.refl _ _) _), fun j hj => absurd hj (Nat.not_lt_zero _), fun j _ h => (HR0.out j h).1, fun j h => (HR0.out j h).2⟩
    obtain ⟨W6, hW6⟩ : ∃ W6, w5.alloc (.cells #[.int .i64 c.q, .int .i64 c.b, .slice a5 (c.ops ++ d.ops).length c5] 24) = W6 := ⟨_, rfl⟩
    obtain ⟨X, hX⟩ : ∃ X, X = w5.heap.size := ⟨_, rfl⟩
    have hXs : w.heap.size + 1 + 1 < X := by have := hB5.size; omega
    rw [hW6] at M0 ⊢
    rw [← hX] at M0 ⊢
    obtain ⟨a', c', ea, hS⟩ := os_of_own M0.len M0.own (fun k h => (M0.rest k (Nat.zero_le _) h).below M0.below) M0.fit
    cases ea
    have F6 : ∀ w1, OS w1 a5 c5 (c.ops ++ d.ops) (vA (pvs c.ops.length A1 C1 ++ pvs d.ops.length A2 C2)) (vC (pvs c.ops.length A1 C1 ++ pvs d.ops.length A2 C2)) → Calls Try.prog 14 #[.agg #[.int .i64 c.q, .int .i64 c.b, .slice a5 (c.ops ++ d.ops).length c5]] w1 fun e w' => e = .returned (.tuple #[.int .i64 (P3 : Nat), .int .i64 (E : Nat)]) ∧ Below w1.heap.size w1 w' := fun w1 h => FB a5 c5 _ _ w1 h
    have HS := hid hS
    have HM := hid M0
    have l1 : ∀ j, W6.cell? ⟨X, j, none⟩ = _ := M0.bx.cell
    have l3 := M0.bx.lt
    have hlen : (c.ops ++ d.ops).length ≤ 8192 := by rw [List.length_append]; omega
    clear hX hW6 hN hB5 ho5 kk1 kf1 kk2 kf2 own5 b35 hBw5 hl0 CC FB HR0 HO1 HO2 hT hV HE3 HBW M0 hS
    generalize pvs c.ops.length A1 C1 ++ pvs d.ops.length A2 C2 = v0 at *
    generalize c.ops ++ d.ops = os at *
    by_cases hE0 : E = 0
    case neg =>
      have hE1 : ((E : Int) != 0) = true := bne_iff_ne.2 (by omega)
      have HE0 := hid hE0
      clear hE0
      go_wp2_with (go_at_call 14; (with_reducible refine (F6 _ HS.out).mono ?_); rintro e w7 ⟨rfl, hB7⟩; have i7 := HM.out.blw hB7; have x3 : ∀ j, w7.cell? ⟨w.heap.size + 1 + 1, j, none⟩ = _ := i7.b3.cell; have f3 : ∀ j, w7.frozen? ⟨w.heap.size + 1 + 1, j, none⟩ = _ := i7.b3.free; have z7 := i7.b3.lt)
      refine bodyPost_ret (v := .tuple #[civ noCi none 0, .int .i64 (E : Nat)]) (by simp [results, Try.results21, go_sem, *]) rfl (HT.out E _ HE0.out rfl ?_)
      exact bset (bset (bset i7.below _ _ _ (by omega)) _ _ _ (by omega)) _ _ _ (by omega)
    subst hE0
    go_wp2_with (go_at_call 14; (with_reducible refine (F6 _ HS.out).mono ?_); rintro e w7 ⟨rfl, hB7⟩; have i7 := HM.out.blw hB7; have x1 : ∀ j, w7.cell? ⟨X, j, none⟩ = _ := i7.bx.cell; have z7 := i7.bx.lt)
    have HI7 := hid i7
    clear i7 hB7 x1 z7 l1 l3 F6 HS HM
    go_loopw [69] (fun s wr => ∃ k : Nat, k ≤ os.length ∧ s = .int .i64 (k : Nat) ∧ ∃ vs, MX w wr c.q c.b X os (.slice a5 os.length c5) vs k) (fun s _ => os.length - (intOf s).toNat)
    case atStart => exact ⟨0, Nat.zero_le _, rfl, _, HI7.out⟩
    case round =>
      clear HI7
      obtain ⟨k, hk, rfl, vs, hi⟩ := hrel
      have x1 : ∀ j, wr.cell? ⟨X, j, none⟩ = _ := hi.bx.cell
      have x3 : ∀ j, wr.cell? ⟨w.heap.size + 1 + 1, j, none⟩ = _ := hi.b3.cell
      have f3 : ∀ j, wr.frozen? ⟨w.heap.size + 1 + 1, j, none⟩ = _ := hi.b3.free
      have z1 := hi.bx.lt
      have z3 := hi.b3.lt
      have HI := hid hi
      by_cases hlt : k < os.length
      case neg =>
        obtain rfl : k = os.length := by omega
        have O2 := hi.done.other hi.b3 (by decide) (by decide) (gb_set (gb_set (gb_set (gb_refl wr (w.heap.size + 1 + 1)) (w.heap.size + 1 + 1) 0 (.int .i64 c.q) (.inl rfl)) (w.heap.size + 1 + 1) 1 (.int .i64 c.b) (.inl rfl)) (w.heap.size + 1 + 1) 2 (.slice a5 os.length c5) (.inl rfl))
        have c2 := (bk_sets hi.b3 (.int .i64 c.q) (.int .i64 c.b) (.slice a5 os.length c5)).cell
        have HC2 := hid c2
        have HO2 := hid O2
        clear hi O2 c2
        go_wp2
        refine bodyPost_ret (v := .tuple #[.agg #[.int .i64 c.q, .int .i64 c.b, .slice a5 os.length c5], .int .i64 0]) (by simp [results, Try.results21, go_sem, HC2.out]) rfl (HY.out (by trivial) a5 c5 vs _ HO2.out ?_)
        exact bset (bset (bset HI.out.below _ _ _ (by omega)) _ _ _ (by omega)) _ _ _ (by omega)
      obtain ⟨g, cap, e, hcc, hfz, hcell, hBg, hgl⟩ := own_at hi.own (by omega)
      cases e
      obtain ⟨a9, c9, ea, hS2⟩ := os_of_own hi.len hi.own (fun j h => by
        by_cases hj : j < k
        · have hr := hi.qs j hj h (by have := hi.len; omega)
          rw [vs_at vs j (by have := hi.len; omega)] at hr
          obtain ⟨a, c, e, q⟩ := own_qs hr
          cases e
          exact q
        · exact (hi.rest j (by omega) h).below hi.below) hi.fit
      cases ea
      obtain ⟨b', o', e, r⟩ := hS2.at_ k hlt
      cases e
      have m0 := r.c0 k hlt
      rw [Nat.zero_add] at m0
      have m1 := r.c1 k hlt
      rw [Nat.zero_add] at m1
      have m2 := r.c2 k hlt
      rw [Nat.zero_add] at m2
      have m3 := r.c3 k hlt
      rw [Nat.zero_add] at m3
      have m4 := r.c4 k hlt
      rw [Nat.zero_add] at m4
      have m5 := r.c5 k hlt
      rw [Nat.zero_add] at m5
      have m6 := r.c6 k hlt
      rw [Nat.zero_add] at m6
      have HQ := hid (hi.rest k (Nat.le_refl _) hlt)
      obtain ⟨⟨hq0, hq1⟩, hns⟩ := HNM.out (by trivial) k hlt
      have OW := fun (w1 : World) (hqq : QS w1 (vA vs k) (vC vs k) (os[k]'hlt).qs) => own_any (os[k]'hlt) (vA vs k) (vC vs k) w1 hqq hq0 hq1 hns
      have nX : X ≠ g := fun e => own_ne hi.own hi.bx (by decide) g rfl (by rw [e])
      have HNX : Hid (∀ W2 aa cc, MX w W2 c.q c.b X os (.slice (some ⟨g, 0, none⟩) os.length c5) vs k → W2.ownsRow w.heap.size 3 1 (.slice aa os[k].qs.length cc) os[k].qs.length (zl os[k].qs) → MX w (setw W2 g (k * 7) os[k] aa cc) c.q c.b X os (.slice (some ⟨g, 0, none⟩) os.length c5) (vs.set k (aa, cc)) (k + 1)) := fun W2 aa cc h hq => h.next hlt hq
      clear hi r hS2 hcell hfz x3 f3
      generalize os[k] = o at *
      generalize vA vs k = ak at *
      generalize vC vs k = ck at *
      go_upto_region 16 with (fail)
      have M1 := HI.out.blw (bal (Below.refl _ _) (.cells #[.int .i64 o.k, .string o.n, .slice ak o.qs.length ck, .int .i64 o.b, .bool o.f, .int .u64 o.m, .int .u64 o.v] 57))
      have kh := bk_new wr #[.int .i64 o.k, .string o.n, .slice ak o.qs.length ck, .int .i64 o.b, .bool o.f, .int .u64 o.m, .int .u64 o.v] 57
      obtain ⟨W1, hW1⟩ : ∃ W1, wr.alloc (.cells #[.int .i64 o.k, .string o.n, .slice ak o.qs.length ck, .int .i64 o.b, .bool o.f, .int .u64 o.m, .int .u64 o.v] 57) = W1 := ⟨_, rfl⟩
      have nh : wr.heap.size ≠ g := by omega
      have hsz1 : W1.heap.size = wr.heap.size + 1 := by rw [← hW1]; simp
      rw [hW1] at M1 kh ⊢
      have hBa : Below wr.heap.size wr W1 := by rw [← hW1]; exact bal (Below.refl _ _) _
      replace m0 := (hBa.cell (p := ⟨g, _, none⟩) hgl).trans m0
      replace m1 := (hBa.cell (p := ⟨g, _, none⟩) hgl).trans m1
      replace m2 := (hBa.cell (p := ⟨g, _, none⟩) hgl).trans m2
      replace m3 := (hBa.cell (p := ⟨g, _, none⟩) hgl).trans m3
      replace m4 := (hBa.cell (p := ⟨g, _, none⟩) hgl).trans m4
      replace m5 := (hBa.cell (p := ⟨g, _, none⟩) hgl).trans m5
      replace m6 := (hBa.cell (p := ⟨g, _, none⟩) hgl).trans m6
      obtain ⟨g', cap', e, _, hfz, _, _, _⟩ := own_at M1.own (by omega)
      cases e
      have HMS := hid (show _ ∧ _ ∧ _ ∧ _ ∧ _ ∧ _ ∧ _ from ⟨m0, m1, m2, m3, m4, m5, m6⟩)
      have HFZ := hid hfz
      clear hW1 m0 m1 m2 m3 m4 m5 m6 x1 hBa hfz
      generalize wr.heap.size = h at *
      have bX := M1.bx
      have hU : Hid (U2 W1 X h c.q c.b (.slice (some ⟨g, 0, none⟩) os.length c5) o ak ck) := u2 bX kh
      have HM1 := hid M1
      have gl1 : g < W1.heap.size := by omega
      clear M1 bX
      obtain ⟨_, u1, u2'⟩ := hU.out
      go_region_with
        (first | (go_at_call 39; (with_reducible refine (OW _ (HQ.out.below (below_drew HM1.out.below))).mono ?_); rintro e w8 ⟨a8, c8, rfl, hO8, hN8⟩; have n0 := (hN8.cell (p := ⟨g, k * 7, none⟩) gl1).trans HMS.out.1; have n1 := (hN8.cell (p := ⟨g, k * 7 + 1, none⟩) gl1).trans HMS.out.2.1; have n2 := (hN8.cell (p := ⟨g, k * 7 + 2, none⟩) gl1).trans HMS.out.2.2.1; have n3 := (hN8.cell (p := ⟨g, k * 7 + 3, none⟩) gl1).trans HMS.out.2.2.2.1; have n4 := (hN8.cell (p := ⟨g, k * 7 + 4, none⟩) gl1).trans HMS.out.2.2.2.2.1; have n5 := (hN8.cell (p := ⟨g, k * 7 + 5, none⟩) gl1).trans HMS.out.2.2.2.2.2.1; have n6 := (hN8.cell (p := ⟨g, k * 7 + 6, none⟩) gl1).trans HMS.out.2.2.2.2.2.2; have fz8 : ∀ j, w8.frozen? ⟨g, j, none⟩ = false := fun j => (hN8.frozen (p := ⟨g, j, none⟩) gl1).trans (HFZ.out j); have gl8 : g < w8.heap.size := Nat.lt_of_lt_of_le gl1 hN8.size; have ux8 := (u2_on (u2_on hU.out (below_drew (Below.refl _ _))) hN8).2.1; have uh8 := (u2_on (u2_on hU.out (below_drew (Below.refl _ _))) hN8).2.2))
      all_goals (have HNN := hid (HNX.out w8 a8 c8 (HM1.out.blw (btr (below_drew (Below.refl _ W1)) hN8)) (own_mono hO8 HM1.out.below.size)))
      all_goals (clear n0 n1 n2 n3 n4 n5 n6 fz8 ux8 uh8 hN8 hO8 OW u1 u2')
      all_goals go_wp2
      all_goals go_roundw
      all_goals first | exact ⟨k + 1, by omega, by simp, _, HNN.out⟩ | (simp [intOf]; done) | (simp [intOf]; omega)
  · have kX : BK w5 (w2.heap.size + 1) #[.int .i64 0, .int .i64 0, .slice none 0 0] 24 := (hN.block _ (by simp)).trans ((bk_at _ _ (by simp)).drew)
    have gX : GB w5 (((w5.setCell ⟨w2.heap.size + 1, 0, none⟩ (.int .i64 c.q)).setCell ⟨w2.heap.size + 1, 1, none⟩ (.int .i64 c.b)).setCell ⟨w2.heap.size + 1, 2, none⟩ (.slice a5 (c.ops ++ d.ops).length c5)) (w2.heap.size + 1) := gb_set (gb_set (gb_set (gb_refl w5 _) _ _ _ (.inl rfl)) _ _ _ (.inl rfl)) _ _ _ (.inl rfl)
    have M0 : MX w (((w5.setCell ⟨w2.heap.size + 1, 0, none⟩ (.int .i64 c.q)).setCell ⟨w2.heap.size + 1, 1, none⟩ (.int .i64 c.b)).setCell ⟨w2.heap.size + 1, 2, none⟩ (.slice a5 (c.ops ++ d.ops).length c5)) c.q c.b (w2.heap.size + 1) (c.ops ++ d.ops) (.slice a5 (c.ops ++ d.ops).length c5) (pvs c.ops.length A1 C1 ++ pvs d.ops.length A2 C2) 0 :=
      ⟨bset (bset (bset hBw5 _ _ _ (by omega)) _ _ _ (by omega)) _ _ _ (by omega), gb_bk gX b35 (by omega), bk_sets kX _ _ _, hl0, own_kept own5 gX (own_ne own5 kX (by decide)), fun j hj => absurd hj (Nat.not_lt_zero _), fun j _ h => (HR0.out j h).1, fun j h => (HR0.out j h).2⟩
    obtain ⟨W6, hW6⟩ : ∃ W6, ((w5.setCell ⟨w2.heap.size + 1, 0, none⟩ (.int .i64 c.q)).setCell ⟨w2.heap.size + 1, 1, none⟩ (.int .i64 c.b)).setCell ⟨w2.heap.size + 1, 2, none⟩ (.slice a5 (c.ops ++ d.ops).length c5) = W6 := ⟨_, rfl⟩
    obtain ⟨X, hX⟩ : ∃ X, X = w2.heap.size + 1 := ⟨_, rfl⟩
    have hXs : w.heap.size + 1 + 1 < X := by omega
    rw [hW6] at M0 ⊢
    rw [← hX] at M0 ⊢
    obtain ⟨a', c', ea, hS⟩ := os_of_own M0.len M0.own (fun k h => (M0.rest k (Nat.zero_le _) h).below M0.below) M0.fit
    cases ea
    have F6 : ∀ w1, OS w1 a5 c5 (c.ops ++ d.ops) (vA (pvs c.ops.length A1 C1 ++ pvs d.ops.length A2 C2)) (vC (pvs c.ops.length A1 C1 ++ pvs d.ops.length A2 C2)) → Calls Try.prog 14 #[.agg #[.int .i64 c.q, .int .i64 c.b, .slice a5 (c.ops ++ d.ops).length c5]] w1 fun e w' => e = .returned (.tuple #[.int .i64 (P3 : Nat), .int .i64 (E : Nat)]) ∧ Below w1.heap.size w1 w' := fun w1 h => FB a5 c5 _ _ w1 h
    have HS := hid hS
    have HM := hid M0
    have l1 : ∀ j, W6.cell? ⟨X, j, none⟩ = _ := M0.bx.cell
    have l3 := M0.bx.lt
    have hlen : (c.ops ++ d.ops).length ≤ 8192 := by rw [List.length_append]; omega
    clear hX hW6 hN hB5 ho5 kk1 kf1 kk2 kf2 own5 b35 hBw5 hl0 CC FB HR0 HO1 HO2 hT hV HE3 HBW M0 hS
    generalize pvs c.ops.length A1 C1 ++ pvs d.ops.length A2 C2 = v0 at *
    generalize c.ops ++ d.ops = os at *
    by_cases hE0 : E = 0
    case neg =>
      have hE1 : ((E : Int) != 0) = true := bne_iff_ne.2 (by omega)
      have HE0 := hid hE0
      clear hE0
      go_wp2_with (go_at_call 14; (with_reducible refine (F6 _ HS.out).mono ?_); rintro e w7 ⟨rfl, hB7⟩; have i7 := HM.out.blw hB7; have x3 : ∀ j, w7.cell? ⟨w.heap.size + 1 + 1, j, none⟩ = _ := i7.b3.cell; have f3 : ∀ j, w7.frozen? ⟨w.heap.size + 1 + 1, j, none⟩ = _ := i7.b3.free; have z7 := i7.b3.lt)
      refine bodyPost_ret (v := .tuple #[civ noCi none 0, .int .i64 (E : Nat)]) (by simp [results, Try.results21, go_sem, *]) rfl (HT.out E _ HE0.out rfl ?_)
      exact bset (bset (bset i7.below _ _ _ (by omega)) _ _ _ (by omega)) _ _ _ (by omega)
    subst hE0
    go_wp2_with (go_at_call 14; (with_reducible refine (F6 _ HS.out).mono ?_); rintro e w7 ⟨rfl, hB7⟩; have i7 := HM.out.blw hB7; have x1 : ∀ j, w7.cell? ⟨X, j, none⟩ = _ := i7.bx.cell; have z7 := i7.bx.lt)
    have HI7 := hid i7
    clear i7 hB7 x1 z7 l1 l3 F6 HS HM
    go_loopw [69] (fun s wr => ∃ k : Nat, k ≤ os.length ∧ s = .int .i64 (k : Nat) ∧ ∃ vs, MX w wr c.q c.b X os (.slice a5 os.length c5) vs k) (fun s _ => os.length - (intOf s).toNat)
    case atStart => exact ⟨0, Nat.zero_le _, rfl, _, HI7.out⟩
    case round =>
      clear HI7
      obtain ⟨k, hk, rfl, vs, hi⟩ := hrel
      have x1 : ∀ j, wr.cell? ⟨X, j, none⟩ = _ := hi.bx.cell
      have x3 : ∀ j, wr.cell? ⟨w.heap.size + 1 + 1, j, none⟩ = _ := hi.b3.cell
      have f3 : ∀ j, wr.frozen? ⟨w.heap.size + 1 + 1, j, none⟩ = _ := hi.b3.free
      have z1 := hi.bx.lt
      have z3 := hi.b3.lt
      have HI := hid hi
      by_cases hlt : k < os.length
      case neg =>
        obtain rfl : k = os.length := by omega
        have O2 := hi.done.other hi.b3 (by decide) (by decide) (gb_set (gb_set (gb_set (gb_refl wr (w.heap.size + 1 + 1)) (w.heap.size + 1 + 1) 0 (.int .i64 c.q) (.inl rfl)) (w.heap.size + 1 + 1) 1 (.int .i64 c.b) (.inl rfl)) (w.heap.size + 1 + 1) 2 (.slice a5 os.length c5) (.inl rfl))
        have c2 := (bk_sets hi.b3 (.int .i64 c.q) (.int .i64 c.b) (.slice a5 os.length c5)).cell
        have HC2 := hid c2
        have HO2 := hid O2
        clear hi O2 c2
        go_wp2
        refine bodyPost_ret (v := .tuple #[.agg #[.int .i64 c.q, .int .i64 c.b, .slice a5 os.length c5], .int .i64 0]) (by simp [results, Try.results21, go_sem, HC2.out]) rfl (HY.out (by trivial) a5 c5 vs _ HO2.out ?_)
        exact bset (bset (bset HI.out.below _ _ _ (by omega)) _ _ _ (by omega)) _ _ _ (by omega)
      obtain ⟨g, cap, e, hcc, hfz, hcell, hBg, hgl⟩ := own_at hi.own (by omega)
      cases e
      obtain ⟨a9, c9, ea, hS2⟩ := os_of_own hi.len hi.own (fun j h => by
        by_cases hj : j < k
        · have hr := hi.qs j hj h (by have := hi.len; omega)
          rw [vs_at vs j (by have := hi.len; omega)] at hr
          obtain ⟨a, c, e, q⟩ := own_qs hr
          cases e
          exact q
        · exact (hi.rest j (by omega) h).below hi.below) hi.fit
      cases ea
      obtain ⟨b', o', e, r⟩ := hS2.at_ k hlt
      cases e
      have m0 := r.c0 k hlt
      rw [Nat.zero_add] at m0
      have m1 := r.c1 k hlt
      rw [Nat.zero_add] at m1
      have m2 := r.c2 k hlt
      rw [Nat.zero_add] at m2
      have m3 := r.c3 k hlt
      rw [Nat.zero_add] at m3
      have m4 := r.c4 k hlt
      rw [Nat.zero_add] at m4
      have m5 := r.c5 k hlt
      rw [Nat.zero_add] at m5
      have m6 := r.c6 k hlt
      rw [Nat.zero_add] at m6
      have HQ := hid (hi.rest k (Nat.le_refl _) hlt)
      obtain ⟨⟨hq0, hq1⟩, hns⟩ := HNM.out (by trivial) k hlt
      have OW := fun (w1 : World) (hqq : QS w1 (vA vs k) (vC vs k) (os[k]'hlt).qs) => own_any (os[k]'hlt) (vA vs k) (vC vs k) w1 hqq hq0 hq1 hns
      have nX : X ≠ g := fun e => own_ne hi.own hi.bx (by decide) g rfl (by rw [e])
      have HNX : Hid (∀ W2 aa cc, MX w W2 c.q c.b X os (.slice (some ⟨g, 0, none⟩) os.length c5) vs k → W2.ownsRow w.heap.size 3 1 (.slice aa os[k].qs.length cc) os[k].qs.length (zl os[k].qs) → MX w (setw W2 g (k * 7) os[k] aa cc) c.q c.b X os (.slice (some ⟨g, 0, none⟩) os.length c5) (vs.set k (aa, cc)) (k + 1)) := fun W2 aa cc h hq => h.next hlt hq
      clear hi r hS2 hcell hfz x3 f3
      generalize os[k] = o at *
      generalize vA vs k = ak at *
      generalize vC vs k = ck at *
      go_upto_region 16 with (fail)
      have M1 := HI.out.blw (bal (Below.refl _ _) (.cells #[.int .i64 o.k, .string o.n, .slice ak o.qs.length ck, .int .i64 o.b, .bool o.f, .int .u64 o.m, .int .u64 o.v] 57))
      have kh := bk_new wr #[.int .i64 o.k, .string o.n, .slice ak o.qs.length ck, .int .i64 o.b, .bool o.f, .int .u64 o.m, .int .u64 o.v] 57
      obtain ⟨W1, hW1⟩ : ∃ W1, wr.alloc (.cells #[.int .i64 o.k, .string o.n, .slice ak o.qs.length ck, .int .i64 o.b, .bool o.f, .int .u64 o.m, .int .u64 o.v] 57) = W1 := ⟨_, rfl⟩
      have nh : wr.heap.size ≠ g := by omega
      have hsz1 : W1.heap.size = wr.heap.size + 1 := by rw [← hW1]; simp
      rw [hW1] at M1 kh ⊢
      have hBa : Below wr.heap.size wr W1 := by rw [← hW1]; exact bal (Below.refl _ _) _
      replace m0 := (hBa.cell (p := ⟨g, _, none⟩) hgl).trans m0
      replace m1 := (hBa.cell (p := ⟨g, _, none⟩) hgl).trans m1
      replace m2 := (hBa.cell (p := ⟨g, _, none⟩) hgl).trans m2
      replace m3 := (hBa.cell (p := ⟨g, _, none⟩) hgl).trans m3
      replace m4 := (hBa.cell (p := ⟨g, _, none⟩) hgl).trans m4
      replace m5 := (hBa.cell (p := ⟨g, _, none⟩) hgl).trans m5
      replace m6 := (hBa.cell (p := ⟨g, _, none⟩) hgl).trans m6
      obtain ⟨g', cap', e, _, hfz, _, _, _⟩ := own_at M1.own (by omega)
      cases e
      have HMS := hid (show _ ∧ _ ∧ _ ∧ _ ∧ _ ∧ _ ∧ _ from ⟨m0, m1, m2, m3, m4, m5, m6⟩)
      have HFZ := hid hfz
      clear hW1 m0 m1 m2 m3 m4 m5 m6 x1 hBa hfz
      generalize wr.heap.size = h at *
      have bX := M1.bx
      have hU : Hid (U2 W1 X h c.q c.b (.slice (some ⟨g, 0, none⟩) os.length c5) o ak ck) := u2 bX kh
      have HM1 := hid M1
      have gl1 : g < W1.heap.size := by omega
      clear M1 bX
      obtain ⟨_, u1, u2'⟩ := hU.out
      go_region_with
        (first | (go_at_call 39; (with_reducible refine (OW _ (HQ.out.below (below_drew HM1.out.below))).mono ?_); rintro e w8 ⟨a8, c8, rfl, hO8, hN8⟩; have n0 := (hN8.cell (p := ⟨g, k * 7, none⟩) gl1).trans HMS.out.1; have n1 := (hN8.cell (p := ⟨g, k * 7 + 1, none⟩) gl1).trans HMS.out.2.1; have n2 := (hN8.cell (p := ⟨g, k * 7 + 2, none⟩) gl1).trans HMS.out.2.2.1; have n3 := (hN8.cell (p := ⟨g, k * 7 + 3, none⟩) gl1).trans HMS.out.2.2.2.1; have n4 := (hN8.cell (p := ⟨g, k * 7 + 4, none⟩) gl1).trans HMS.out.2.2.2.2.1; have n5 := (hN8.cell (p := ⟨g, k * 7 + 5, none⟩) gl1).trans HMS.out.2.2.2.2.2.1; have n6 := (hN8.cell (p := ⟨g, k * 7 + 6, none⟩) gl1).trans HMS.out.2.2.2.2.2.2; have fz8 : ∀ j, w8.frozen? ⟨g, j, none⟩ = false := fun j => (hN8.frozen (p := ⟨g, j, none⟩) gl1).trans (HFZ.out j); have gl8 : g < w8.heap.size := Nat.lt_of_lt_of_le gl1 hN8.size; have ux8 := (u2_on (u2_on hU.out (below_drew (Below.refl _ _))) hN8).2.1; have uh8 := (u2_on (u2_on hU.out (below_drew (Below.refl _ _))) hN8).2.2))
      all_goals (have HNN := hid (HNX.out w8 a8 c8 (HM1.out.blw (btr (below_drew (Below.refl _ W1)) hN8)) (own_mono hO8 HM1.out.below.size)))
      all_goals (clear n0 n1 n2 n3 n4 n5 n6 fz8 ux8 uh8 hN8 hO8 OW u1 u2')
      all_goals go_wp2
      all_goals go_roundw
      all_goals first | exact ⟨k + 1, by omega, by simp, _, HNN.out⟩ | (simp [intOf]; done) | (simp [intOf]; omega)
  · have kX : BK w5 (w2.heap.size) #[.int .i64 0, .int .i64 0, .slice none 0 0] 24 := (hN.block _ (by simp; omega)).trans (((bk_at _ _ (by simp)).alloc _).drew)
    have gX : GB w5 (((w5.setCell ⟨w2.heap.size, 0, none⟩ (.int .i64 c.q)).setCell ⟨w2.heap.size, 1, none⟩ (.int .i64 c.b)).setCell ⟨w2.heap.size, 2, none⟩ (.slice a5 (c.ops ++ d.ops).length c5)) (w2.heap.size) := gb_set (gb_set (gb_set (gb_refl w5 _) _ _ _ (.inl rfl)) _ _ _ (.inl rfl)) _ _ _ (.inl rfl)
    have M0 : MX w (((w5.setCell ⟨w2.heap.size, 0, none⟩ (.int .i64 c.q)).setCell ⟨w2.heap.size, 1, none⟩ (.int .i64 c.b)).setCell ⟨w2.heap.size, 2, none⟩ (.slice a5 (c.ops ++ d.ops).length c5)) c.q c.b (w2.heap.size) (c.ops ++ d.ops) (.slice a5 (c.ops ++ d.ops).length c5) (pvs c.ops.length A1 C1 ++ pvs d.ops.length A2 C2) 0 :=
      ⟨bset (bset (bset hBw5 _ _ _ (by omega)) _ _ _ (by omega)) _ _ _ (by omega), gb_bk gX b35 (by omega), bk_sets kX _ _ _, hl0, own_kept own5 gX (own_ne own5 kX (by decide)), fun j hj => absurd hj (Nat.not_lt_zero _), fun j _ h => (HR0.out j h).1, fun j h => (HR0.out j h).2⟩
    obtain ⟨W6, hW6⟩ : ∃ W6, ((w5.setCell ⟨w2.heap.size, 0, none⟩ (.int .i64 c.q)).setCell ⟨w2.heap.size, 1, none⟩ (.int .i64 c.b)).setCell ⟨w2.heap.size, 2, none⟩ (.slice a5 (c.ops ++ d.ops).length c5) = W6 := ⟨_, rfl⟩
    obtain ⟨X, hX⟩ : ∃ X, X = w2.heap.size := ⟨_, rfl⟩
    have hXs : w.heap.size + 1 + 1 < X := by omega
    rw [hW6] at M0 ⊢
    rw [← hX] at M0 ⊢
    obtain ⟨a', c', ea, hS⟩ := os_of_own M0.len M0.own (fun k h => (M0.rest k (Nat.zero_le _) h).below M0.below) M0.fit
    cases ea
    have F6 : ∀ w1, OS w1 a5 c5 (c.ops ++ d.ops) (vA (pvs c.ops.length A1 C1 ++ pvs d.ops.length A2 C2)) (vC (pvs c.ops.length A1 C1 ++ pvs d.ops.length A2 C2)) → Calls Try.prog 14 #[.agg #[.int .i64 c.q, .int .i64 c.b, .slice a5 (c.ops ++ d.ops).length c5]] w1 fun e w' => e = .returned (.tuple #[.int .i64 (P3 : Nat), .int .i64 (E : Nat)]) ∧ Below w1.heap.size w1 w' := fun w1 h => FB a5 c5 _ _ w1 h
    have HS := hid hS
    have HM := hid M0
    have l1 : ∀ j, W6.cell? ⟨X, j, none⟩ = _ := M0.bx.cell
    have l3 := M0.bx.lt
    have hlen : (c.ops ++ d.ops).length ≤ 8192 := by rw [List.length_append]; omega
    clear hX hW6 hN hB5 ho5 kk1 kf1 kk2 kf2 own5 b35 hBw5 hl0 CC FB HR0 HO1 HO2 hT hV HE3 HBW M0 hS
    generalize pvs c.ops.length A1 C1 ++ pvs d.ops.length A2 C2 = v0 at *
    generalize c.ops ++ d.ops = os at *
    by_cases hE0 : E = 0
    case neg =>
      have hE1 : ((E : Int) != 0) = true := bne_iff_ne.2 (by omega)
      have HE0 := hid hE0
      clear hE0
      go_wp2_with (go_at_call 14; (with_reducible refine (F6 _ HS.out).mono ?_); rintro e w7 ⟨rfl, hB7⟩; have i7 := HM.out.blw hB7; have x3 : ∀ j, w7.cell? ⟨w.heap.size + 1 + 1, j, none⟩ = _ := i7.b3.cell; have f3 : ∀ j, w7.frozen? ⟨w.heap.size + 1 + 1, j, none⟩ = _ := i7.b3.free; have z7 := i7.b3.lt)
      refine bodyPost_ret (v := .tuple #[civ noCi none 0, .int .i64 (E : Nat)]) (by simp [results, Try.results21, go_sem, *]) rfl (HT.out E _ HE0.out rfl ?_)
      exact bset (bset (bset i7.below _ _ _ (by omega)) _ _ _ (by omega)) _ _ _ (by omega)
    subst hE0
    go_wp2_with (go_at_call 14; (with_reducible refine (F6 _ HS.out).mono ?_); rintro e w7 ⟨rfl, hB7⟩; have i7 := HM.out.blw hB7; have x1 : ∀ j, w7.cell? ⟨X, j, none⟩ = _ := i7.bx.cell; have z7 := i7.bx.lt)
    have HI7 := hid i7
    clear i7 hB7 x1 z7 l1 l3 F6 HS HM
    go_loopw [69] (fun s wr => ∃ k : Nat, k ≤ os.length ∧ s = .int .i64 (k : Nat) ∧ ∃ vs, MX w wr c.q c.b X os (.slice a5 os.length c5) vs k) (fun s _ => os.length - (intOf s).toNat)
    case atStart => exact ⟨0, Nat.zero_le _, rfl, _, HI7.out⟩
    case round =>
      clear HI7
      obtain ⟨k, hk, rfl, vs, hi⟩ := hrel
      have x1 : ∀ j, wr.cell? ⟨X, j, none⟩ = _ := hi.bx.cell
      have x3 : ∀ j, wr.cell? ⟨w.heap.size + 1 + 1, j, none⟩ = _ := hi.b3.cell
      have f3 : ∀ j, wr.frozen? ⟨w.heap.size + 1 + 1, j, none⟩ = _ := hi.b3.free
      have z1 := hi.bx.lt
      have z3 := hi.b3.lt
      have HI := hid hi
      by_cases hlt : k < os.length
      case neg =>
        obtain rfl : k = os.length := by omega
        have O2 := hi.done.other hi.b3 (by decide) (by decide) (gb_set (gb_set (gb_set (gb_refl wr (w.heap.size + 1 + 1)) (w.heap.size + 1 + 1) 0 (.int .i64 c.q) (.inl rfl)) (w.heap.size + 1 + 1) 1 (.int .i64 c.b) (.inl rfl)) (w.heap.size + 1 + 1) 2 (.slice a5 os.length c5) (.inl rfl))
        have c2 := (bk_sets hi.b3 (.int .i64 c.q) (.int .i64 c.b) (.slice a5 os.length c5)).cell
        have HC2 := hid c2
        have HO2 := hid O2
        clear hi O2 c2
        go_wp2
        refine bodyPost_ret (v := .tuple #[.agg #[.int .i64 c.q, .int .i64 c.b, .slice a5 os.length c5], .int .i64 0]) (by simp [results, Try.results21, go_sem, HC2.out]) rfl (HY.out (by trivial) a5 c5 vs _ HO2.out ?_)
        exact bset (bset (bset HI.out.below _ _ _ (by omega)) _ _ _ (by omega)) _ _ _ (by omega)
      obtain ⟨g, cap, e, hcc, hfz, hcell, hBg, hgl⟩ := own_at hi.own (by omega)
      cases e
      obtain ⟨a9, c9, ea, hS2⟩ := os_of_own hi.len hi.own (fun j h => by
        by_cases hj : j < k
        · have hr := hi.qs j hj h (by have := hi.len; omega)
          rw [vs_at vs j (by have := hi.len; omega)] at hr
          obtain ⟨a, c, e, q⟩ := own_qs hr
          cases e
          exact q
        · exact (hi.rest j (by omega) h).below hi.below) hi.fit
      cases ea
      obtain ⟨b', o', e, r⟩ := hS2.at_ k hlt
      cases e
      have m0 := r.c0 k hlt
      rw [Nat.zero_add] at m0
      have m1 := r.c1 k hlt
      rw [Nat.zero_add] at m1
      have m2 := r.c2 k hlt
      rw [Nat.zero_add] at m2
      have m3 := r.c3 k hlt
      rw [Nat.zero_add] at m3
      have m4 := r.c4 k hlt
      rw [Nat.zero_add] at m4
      have m5 := r.c5 k hlt
      rw [Nat.zero_add] at m5
      have m6 := r.c6 k hlt
      rw [Nat.zero_add] at m6
      have HQ := hid (hi.rest k (Nat.le_refl _) hlt)
      obtain ⟨⟨hq0, hq1⟩, hns⟩ := HNM.out (by trivial) k hlt
      have OW := fun (w1 : World) (hqq : QS w1 (vA vs k) (vC vs k) (os[k]'hlt).qs) => own_any (os[k]'hlt) (vA vs k) (vC vs k) w1 hqq hq0 hq1 hns
      have nX : X ≠ g := fun e => own_ne hi.own hi.bx (by decide) g rfl (by rw [e])
      have HNX : Hid (∀ W2 aa cc, MX w W2 c.q c.b X os (.slice (some ⟨g, 0, none⟩) os.length c5) vs k → W2.ownsRow w.heap.size 3 1 (.slice aa os[k].qs.length cc) os[k].qs.length (zl os[k].qs) → MX w (setw W2 g (k * 7) os[k] aa cc) c.q c.b X os (.slice (some ⟨g, 0, none⟩) os.length c5) (vs.set k (aa, cc)) (k + 1)) := fun W2 aa cc h hq => h.next hlt hq
      clear hi r hS2 hcell hfz x3 f3
      generalize os[k] = o at *
      generalize vA vs k = ak at *
      generalize vC vs k = ck at *
      go_upto_region 16 with (fail)
      have M1 := HI.out.blw (bal (Below.refl _ _) (.cells #[.int .i64 o.k, .string o.n, .slice ak o.qs.length ck, .int .i64 o.b, .bool o.f, .int .u64 o.m, .int .u64 o.v] 57))
      have kh := bk_new wr #[.int .i64 o.k, .string o.n, .slice ak o.qs.length ck, .int .i64 o.b, .bool o.f, .int .u64 o.m, .int .u64 o.v] 57
      obtain ⟨W1, hW1⟩ : ∃ W1, wr.alloc (.cells #[.int .i64 o.k, .string o.n, .slice ak o.qs.length ck, .int .i64 o.b, .bool o.f, .int .u64 o.m, .int .u64 o.v] 57) = W1 := ⟨_, rfl⟩
      have nh : wr.heap.size ≠ g := by omega
      have hsz1 : W1.heap.size = wr.heap.size + 1 := by rw [← hW1]; simp
      rw [hW1] at M1 kh ⊢
      have hBa : Below wr.heap.size wr W1 := by rw [← hW1]; exact bal (Below.refl _ _) _
      replace m0 := (hBa.cell (p := ⟨g, _, none⟩) hgl).trans m0
      replace m1 := (hBa.cell (p := ⟨g, _, none⟩) hgl).trans m1
      replace m2 := (hBa.cell (p := ⟨g, _, none⟩) hgl).trans m2
      replace m3 := (hBa.cell (p := ⟨g, _, none⟩) hgl).trans m3
      replace m4 := (hBa.cell (p := ⟨g, _, none⟩) hgl).trans m4
      replace m5 := (hBa.cell (p := ⟨g, _, none⟩) hgl).trans m5
      replace m6 := (hBa.cell (p := ⟨g, _, none⟩) hgl).trans m6
      obtain ⟨g', cap', e, _, hfz, _, _, _⟩ := own_at M1.own (by omega)
      cases e
      have HMS := hid (show _ ∧ _ ∧ _ ∧ _ ∧ _ ∧ _ ∧ _ from ⟨m0, m1, m2, m3, m4, m5, m6⟩)
      have HFZ := hid hfz
      clear hW1 m0 m1 m2 m3 m4 m5 m6 x1 hBa hfz
      generalize wr.heap.size = h at *
      have bX := M1.bx
      have hU : Hid (U2 W1 X h c.q c.b (.slice (some ⟨g, 0, none⟩) os.length c5) o ak ck) := u2 bX kh
      have HM1 := hid M1
      have gl1 : g < W1.heap.size := by omega
      clear M1 bX
      obtain ⟨_, u1, u2'⟩ := hU.out
      go_region_with
        (first | (go_at_call 39; (with_reducible refine (OW _ (HQ.out.below (below_drew HM1.out.below))).mono ?_); rintro e w8 ⟨a8, c8, rfl, hO8, hN8⟩; have n0 := (hN8.cell (p := ⟨g, k * 7, none⟩) gl1).trans HMS.out.1; have n1 := (hN8.cell (p := ⟨g, k * 7 + 1, none⟩) gl1).trans HMS.out.2.1; have n2 := (hN8.cell (p := ⟨g, k * 7 + 2, none⟩) gl1).trans HMS.out.2.2.1; have n3 := (hN8.cell (p := ⟨g, k * 7 + 3, none⟩) gl1).trans HMS.out.2.2.2.1; have n4 := (hN8.cell (p := ⟨g, k * 7 + 4, none⟩) gl1).trans HMS.out.2.2.2.2.1; have n5 := (hN8.cell (p := ⟨g, k * 7 + 5, none⟩) gl1).trans HMS.out.2.2.2.2.2.1; have n6 := (hN8.cell (p := ⟨g, k * 7 + 6, none⟩) gl1).trans HMS.out.2.2.2.2.2.2; have fz8 : ∀ j, w8.frozen? ⟨g, j, none⟩ = false := fun j => (hN8.frozen (p := ⟨g, j, none⟩) gl1).trans (HFZ.out j); have gl8 : g < w8.heap.size := Nat.lt_of_lt_of_le gl1 hN8.size; have ux8 := (u2_on (u2_on hU.out (below_drew (Below.refl _ _))) hN8).2.1; have uh8 := (u2_on (u2_on hU.out (below_drew (Below.refl _ _))) hN8).2.2))
      all_goals (have HNN := hid (HNX.out w8 a8 c8 (HM1.out.blw (btr (below_drew (Below.refl _ W1)) hN8)) (own_mono hO8 HM1.out.below.size)))
      all_goals (clear n0 n1 n2 n3 n4 n5 n6 fz8 ux8 uh8 hN8 hO8 OW u1 u2')
      all_goals go_wp2
      all_goals go_roundw
      all_goals first | exact ⟨k + 1, by omega, by simp, _, HNN.out⟩ | (simp [intOf]; done) | (simp [intOf]; omega)
end
end Go.Proofs.Ytfaoegiignalkaa
