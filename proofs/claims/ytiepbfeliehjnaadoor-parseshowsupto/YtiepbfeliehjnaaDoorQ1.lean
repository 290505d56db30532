/-
  Rows that can be read; the law's same.
-/
import Derived.Test.YtiepbfeliehjnaaDoorPA
namespace Go.Proofs.YtiepbfeliehjnaaDoor
open Go.RowKit Go.Sort

/-- Arguments that can be read. -/
structure RA (W : World) (b o : Nat) (l : List Ar) : Prop where
  c0 : ∀ j (h : j < l.length), W.cell? ⟨b, o + j * 2, none⟩ = some (.string l[j].n)
  c1 : ∀ j (h : j < l.length), W.cell? ⟨b, o + j * 2 + 1, none⟩ = some (.int .i64 l[j].x)
  lt : b < W.heap.size
theorem RA.below {W W' : World} {b o : Nat} {l : List Ar} (h : RA W b o l) (hb : Below W.heap.size W W') : RA W' b o l :=
  ⟨fun j hj => (hb.cell (p := ⟨b, o + j * 2, none⟩) h.lt).trans (h.c0 j hj), fun j hj => (hb.cell (p := ⟨b, o + j * 2 + 1, none⟩) h.lt).trans (h.c1 j hj), Nat.lt_of_lt_of_le h.lt hb.size⟩
def SA (W : World) (v : Value) (l : List Ar) : Prop := ∃ a c, v = .slice a l.length c ∧ l.length ≤ c ∧ ∀ k, k < l.length → ∃ b o, a = some ⟨b, o, none⟩ ∧ RA W b o l
theorem SA.below {W W' : World} {v : Value} {l : List Ar} (h : SA W v l) (hb : Below W.heap.size W W') : SA W' v l := by
  obtain ⟨a, c, e, hc, hr⟩ := h
  exact ⟨a, c, e, hc, fun k hk => by obtain ⟨b, o, e, r⟩ := hr k hk; exact ⟨b, o, e, r.below hb⟩⟩
theorem own_sa {W : World} {B : Nat} {v : Value} {l : List Ar} (h : W.ownsRow B 61 2 v l.length (ars l)) : SA W v l := by
  rcases Nat.eq_zero_or_pos l.length with h0 | h0
  · obtain ⟨a, c, rfl⟩ := own_shape h
    rcases h.2 with ⟨e, _⟩ | ⟨g, cap, cur, e, _, _, hn, _⟩
    · exact ⟨a, c, rfl, by omega, fun k hk => by omega⟩
    · exact ⟨a, c, rfl, by omega, fun k hk => by omega⟩
  · obtain ⟨g, cap, rfl, hc, _, hcell, _, hl⟩ := own_at h h0
    have hlen := ars_length l
    refine ⟨_, cap, rfl, hc, fun _ _ => ⟨g, 0, rfl, fun j hj => ?_, fun j hj => ?_, hl⟩⟩
    · have e := (ars_at l j hj).1
      rw [List.getElem?_eq_getElem (by omega)] at e
      rw [Nat.zero_add, hcell (j * 2) (by omega), Option.some.inj e]
    · have e := (ars_at l j hj).2
      rw [List.getElem?_eq_getElem (by omega)] at e
      rw [Nat.zero_add, hcell (j * 2 + 1) (by omega), Option.some.inj e]
/-- Rows that can be read. -/
structure RR (W : World) (b o : Nat) (rs : List Rw) (vs : List Value) : Prop where
  c0 : ∀ j (h : j < rs.length), W.cell? ⟨b, o + j * 6, none⟩ = some (.string rs[j].kind)
  c1 : ∀ j (h : j < rs.length), W.cell? ⟨b, o + j * 6 + 1, none⟩ = some (.string rs[j].name)
  c2 : ∀ j (_ : j < rs.length) (h' : j < vs.length), W.cell? ⟨b, o + j * 6 + 2, none⟩ = some vs[j]
  c3 : ∀ j (h : j < rs.length), W.cell? ⟨b, o + j * 6 + 3, none⟩ = some (.int .i64 rs[j].num)
  c4 : ∀ j (h : j < rs.length), W.cell? ⟨b, o + j * 6 + 4, none⟩ = some (.int .i64 rs[j].rows)
  c5 : ∀ j (h : j < rs.length), W.cell? ⟨b, o + j * 6 + 5, none⟩ = some (.int .i64 rs[j].place)
  lt : b < W.heap.size
theorem RR.below {W W' : World} {b o : Nat} {rs : List Rw} {vs : List Value} (h : RR W b o rs vs) (hb : Below W.heap.size W W') : RR W' b o rs vs :=
  ⟨fun j hj => (hb.cell (p := ⟨b, _, none⟩) h.lt).trans (h.c0 j hj), fun j hj => (hb.cell (p := ⟨b, _, none⟩) h.lt).trans (h.c1 j hj), fun j hj hj' => (hb.cell (p := ⟨b, _, none⟩) h.lt).trans (h.c2 j hj hj'), fun j hj => (hb.cell (p := ⟨b, _, none⟩) h.lt).trans (h.c3 j hj), fun j hj => (hb.cell (p := ⟨b, _, none⟩) h.lt).trans (h.c4 j hj), fun j hj => (hb.cell (p := ⟨b, _, none⟩) h.lt).trans (h.c5 j hj), Nat.lt_of_lt_of_le h.lt hb.size⟩
def SR (W : World) (v : Value) (rs : List Rw) : Prop := ∃ a c vs, v = .slice a rs.length c ∧ rs.length ≤ c ∧ rs.length = List.length vs ∧ (∀ k (h : k < rs.length) (h' : k < vs.length), SA W vs[k] rs[k].args) ∧ ∀ k, k < rs.length → ∃ b o, a = some ⟨b, o, none⟩ ∧ RR W b o rs vs
theorem SR.below {W W' : World} {v : Value} {rs : List Rw} (h : SR W v rs) (hb : Below W.heap.size W W') : SR W' v rs := by
  obtain ⟨a, c, vs, e, hc, hv, ha, hr⟩ := h
  exact ⟨a, c, vs, e, hc, hv, fun k h h' => (ha k h h').below hb, fun k hk => by obtain ⟨b, o, e, r⟩ := hr k hk; exact ⟨b, o, e, r.below hb⟩⟩
theorem OR.sr {W : World} {B : Nat} {v : Value} {rs : List Rw} (h : OR W B v rs) : SR W v rs := by
  obtain ⟨vs, h1, h2, h3⟩ := h
  rcases Nat.eq_zero_or_pos rs.length with h0 | h0
  · obtain ⟨a, c, rfl⟩ := own_shape h2
    exact ⟨a, c, vs, rfl, by omega, h1, fun k hk hk' => own_sa (h3 k hk hk'), fun k hk => by omega⟩
  · obtain ⟨g, cap, rfl, hc, _, hcell, _, hl⟩ := own_at h2 h0
    have hlen := rws_length rs vs h1
    have get : ∀ (i : Nat) (x : Value), i < rs.length * 6 → (rws rs vs)[i]? = some x → W.cell? ⟨g, 0 + i, none⟩ = some x := fun i x hi e => by
      rw [List.getElem?_eq_getElem (by omega)] at e
      rw [Nat.zero_add, hcell i (by omega), Option.some.inj e]
    refine ⟨_, cap, vs, rfl, hc, h1, fun k hk hk' => own_sa (h3 k hk hk'), fun _ _ => ⟨g, 0, rfl, ?_, ?_, ?_, ?_, ?_, ?_, hl⟩⟩
    · intro j hj; exact get _ _ (by omega) (rws_at rs vs h1 j hj (by omega)).1
    · intro j hj; exact get _ _ (by omega) (rws_at rs vs h1 j hj (by omega)).2.1
    · intro j hj hj'; exact get _ _ (by omega) (rws_at rs vs h1 j hj hj').2.2.1
    · intro j hj; exact get _ _ (by omega) (rws_at rs vs h1 j hj (by omega)).2.2.2.1
    · intro j hj; exact get _ _ (by omega) (rws_at rs vs h1 j hj (by omega)).2.2.2.2.1
    · intro j hj; exact get _ _ (by omega) (rws_at rs vs h1 j hj (by omega)).2.2.2.2.2
/-- The same row, its place too if so asked. -/
def rowSame (pl : Bool) (r s : Rw) : Prop := r.kind = s.kind ∧ r.name = s.name ∧ r.num = s.num ∧ r.rows = s.rows ∧ (pl = true → r.place = s.place) ∧ r.args = s.args
def SameP (pl : Bool) (a b : List Rw) : Prop := a.length = b.length ∧ ∀ k (h : k < a.length) (h' : k < b.length), rowSame pl a[k] b[k]
theorem SameP.refl (pl : Bool) (a : List Rw) : SameP pl a a := ⟨rfl, fun _ _ _ => ⟨rfl, rfl, rfl, rfl, fun _ => rfl, rfl⟩⟩
theorem arg_ne (a b : ByteArray) (x y : Int) (w : World) : (binOp .neq 61 (.agg #[.string a, .int .i64 x]) (.agg #[.string b, .int .i64 y])).run Tryd.prog w = .ok (.bool (!(decide (a = b) && decide (x = y)))) w := by
  have e := beq_str a b
  by_cases h1 : a = b
  · subst h1
    by_cases h2 : x = y
    · subst h2; simp [go_sem]
    · simp [go_sem, h2]
  · rw [decide_eq_false h1] at e
    simp [go_sem, e, h1]
/-- What same tells. -/
def SameR (pl : Bool) (p q : List Rw) (e : Ending) : Prop := ∃ b : Bool, e = .returned (.bool b) ∧ (b = true ↔ SameP pl p q)
set_option maxHeartbeats 4000000 in
set_option maxRecDepth 100000 in
theorem same_any (p q : List Rw) (va vb : Value) (pl : Bool) (w : World) (ha : SR w va p) (hb : SR w vb q) (hl : p.length ≤ 9223372036854775807) (hla : ∀ k (h : k < p.length), p[k].args.length ≤ 9223372036854775807) :
    Calls Tryd.prog 11 #[va, vb, .bool pl] w fun e w' => SameR pl p q e ∧ Below w.heap.size w w' := by
  obtain ⟨a1, c1, vs, rfl, hc1, hv1, hA1, hR1⟩ := ha
  obtain ⟨a2, c2, us, rfl, hc2, hv2, hA2, hR2⟩ := hb
  by_cases hlen : p.length = q.length
  case neg =>
    have hne : ((p.length : Int) != (q.length : Int)) = true := by simp; omega
    have HN : Hid (¬ SameP pl p q) := fun h => hlen h.1
    clear hlen hA1 hR1 hA2 hR2 hv1 hv2
    go_enter Tryd.func11, Tryd.ntmps11
    go_wp2
    go_ret
    exact ⟨⟨false, rfl, ⟨fun h => (by cases h), fun h => absurd h HN.out⟩⟩, Below.refl _ _⟩
  case pos =>
  rw [← hlen] at hc2 ⊢
  have HL : Hid (p.length = q.length) := hlen
  have HA1 : Hid (∀ k (h : k < p.length) (h' : k < vs.length), SA w vs[k] p[k].args) := hA1
  have HA2 : Hid (∀ k (h : k < q.length) (h' : k < us.length), SA w us[k] q[k].args) := hA2
  have HR1 : Hid (∀ k, k < p.length → ∃ b o, a1 = some ⟨b, o, none⟩ ∧ RR w b o p vs) := hR1
  have HR2 : Hid (∀ k, k < q.length → ∃ b o, a2 = some ⟨b, o, none⟩ ∧ RR w b o q us) := hR2
  have HV1 : Hid (p.length = vs.length) := hv1
  have HV2 : Hid (q.length = us.length) := hv2
  have HLA : Hid (∀ k (h : k < p.length), p[k].args.length ≤ 9223372036854775807) := hla
  clear hlen hA1 hR1 hA2 hR2 hv1 hv2 hla
  go_enter Tryd.func11, Tryd.ntmps11
  go_upto_region 4 with (fail)
  go_loopw [19] (fun v wr => ∃ k : Nat, k ≤ p.length ∧ v = .int .i64 k ∧ Hid (Below w.heap.size w wr ∧ ∀ j (h : j < p.length) (h' : j < q.length), j < k → rowSame pl p[j] q[j])) (fun v _ => p.length - (intOf v).toNat)
  case atStart => exact ⟨0, by omega, rfl, Below.refl _ _, fun j _ _ h => absurd h (Nat.not_lt_zero _)⟩
  case round =>
    obtain ⟨k, hk, rfl, hH⟩ := hrel
    by_cases hlt : k < p.length
    case neg =>
      obtain rfl : k = p.length := by omega
      go_wp2
      go_ret
      exact ⟨⟨true, rfl, ⟨fun _ => ⟨HL.out, fun j h h' => hH.out.2 j h h' h⟩, fun _ => rfl⟩⟩, hH.out.1⟩
    case pos =>
    have hlt2 : k < q.length := by rw [← HL.out]; exact hlt
    have hkv : k < vs.length := by rw [← HV1.out]; exact hlt
    have hku : k < us.length := by rw [← HV2.out]; exact hlt2
    obtain ⟨b1, o1, rfl, r1⟩ := HR1.out k hlt
    obtain ⟨b2, o2, rfl, r2⟩ := HR2.out k hlt2
    obtain ⟨x1, y1, ev1, ec1, er1⟩ := HA1.out k hlt hkv
    obtain ⟨x2, y2, ev2, ec2, er2⟩ := HA2.out k hlt2 hku
    have s1 := r1.below hH.out.1
    have s2 := r2.below hH.out.1
    have m0 := s1.c0 k hlt
    have m1 := s1.c1 k hlt
    have m2 := s1.c2 k hlt hkv
    have m3 := s1.c3 k hlt
    have m4 := s1.c4 k hlt
    have m5 := s1.c5 k hlt
    have n0 := s2.c0 k hlt2
    have n1 := s2.c1 k hlt2
    have n2 := s2.c2 k hlt2 hku
    have n3 := s2.c3 k hlt2
    have n4 := s2.c4 k hlt2
    have n5 := s2.c5 k hlt2
    have z1 := s1.lt
    have z2 := s2.lt
    rw [ev1] at m2
    rw [ev2] at n2
    have hall := HLA.out k hlt
    have SP : Hid (SameP pl p q → rowSame pl p[k] q[k]) := fun h => h.2 k hlt hlt2
    have SK : Hid (rowSame pl p[k] q[k] → ∀ j (h : j < p.length) (h' : j < q.length), j < k + 1 → rowSame pl p[j] q[j]) := fun hr j h h' hj => by
      by_cases e : j = k
      · subst e; exact hr
      · exact hH.out.2 j h h' (by omega)
    have ER1 : Hid (∀ j, j < p[k].args.length → ∃ b o, x1 = some ⟨b, o, none⟩ ∧ RA w b o p[k].args) := er1
    have ER2 : Hid (∀ j, j < q[k].args.length → ∃ b o, x2 = some ⟨b, o, none⟩ ∧ RA w b o q[k].args) := er2
    clear r1 r2 s1 s2 ev1 ev2 er1 er2
    generalize p[k] = r at *
    generalize q[k] = s at *
    obtain ⟨k1, f1, g1, u1, v1, t1⟩ := r
    obtain ⟨k2, f2, g2, u2, v2, t2⟩ := s
    simp only at m0 m1 m2 m3 m4 m5 n0 n1 n2 n3 n4 n5 hall ec1 ec2
    have e0 := beq_str k1 k2
    have e1 := beq_str f1 f2
    have hB2 := fun o1 o2 => bal (bal hH.out.1 o1) o2
    by_cases q0 : k1 = k2
    case neg =>
      have HN : ¬ rowSame pl (⟨k1, f1, g1, u1, v1, t1⟩ : Rw) ⟨k2, f2, g2, u2, v2, t2⟩ := fun h => q0 h.1
      rw [decide_eq_false q0] at e0
      clear q0
      go_wp2
      go_ret
      exact ⟨⟨false, rfl, ⟨fun h => (by cases h), fun h => absurd (SP.out h) HN⟩⟩, hB2 _ _⟩
    case pos =>
    by_cases q1 : f1 = f2
    case neg =>
      have HN : ¬ rowSame pl (⟨k1, f1, g1, u1, v1, t1⟩ : Rw) ⟨k2, f2, g2, u2, v2, t2⟩ := fun h => q1 h.2.1
      rw [decide_eq_false q1] at e1
      rw [decide_eq_true q0] at e0
      clear q1 q0
      go_wp2
      go_ret
      exact ⟨⟨false, rfl, ⟨fun h => (by cases h), fun h => absurd (SP.out h) HN⟩⟩, hB2 _ _⟩
    case pos =>
    rw [decide_eq_true q0] at e0
    rw [decide_eq_true q1] at e1
    by_cases q3 : u1 = u2
    case neg =>
      have HN : ¬ rowSame pl (⟨k1, f1, g1, u1, v1, t1⟩ : Rw) ⟨k2, f2, g2, u2, v2, t2⟩ := fun h => q3 h.2.2.1
      have e3 : (u1 != u2) = true := by simpa using q3
      clear q3 q0 q1
      go_wp2
      go_ret
      exact ⟨⟨false, rfl, ⟨fun h => (by cases h), fun h => absurd (SP.out h) HN⟩⟩, hB2 _ _⟩
    case pos =>
    have e3 : (u1 != u2) = false := by simpa using q3
    by_cases q4 : v1 = v2
    case neg =>
      have HN : ¬ rowSame pl (⟨k1, f1, g1, u1, v1, t1⟩ : Rw) ⟨k2, f2, g2, u2, v2, t2⟩ := fun h => q4 h.2.2.2.1
      have e4 : (v1 != v2) = true := by simpa using q4
      clear q4 q0 q1 q3
      go_wp2
      go_ret
      exact ⟨⟨false, rfl, ⟨fun h => (by cases h), fun h => absurd (SP.out h) HN⟩⟩, hB2 _ _⟩
    case pos =>
    have e4 : (v1 != v2) = false := by simpa using q4
    by_cases q5 : pl = true ∧ ¬ t1 = t2
    case pos =>
      obtain ⟨rfl, q5⟩ := q5
      have HN : ¬ rowSame true (⟨k1, f1, g1, u1, v1, t1⟩ : Rw) ⟨k2, f2, g2, u2, v2, t2⟩ := fun h => q5 (h.2.2.2.2.1 rfl)
      have e5 : (t1 != t2) = true := by simpa using q5
      clear q4 q0 q1 q3 q5
      go_wp2
      go_ret
      exact ⟨⟨false, rfl, ⟨fun h => (by cases h), fun h => absurd (SP.out h) HN⟩⟩, hB2 _ _⟩
    case neg =>
    have q5' : pl = false ∨ t1 = t2 := by
      cases pl with
      | false => exact .inl rfl
      | true =>
        by_cases h : t1 = t2
        · exact .inr h
        · exact absurd ⟨rfl, h⟩ q5
    have hp5 : (pl = false ∧ True) ∨ (pl = true ∧ (t1 != t2) = false) := by
      rcases q5' with h | h
      · exact .inl ⟨h, trivial⟩
      · cases pl with
        | false => exact .inl ⟨rfl, trivial⟩
        | true => exact .inr ⟨rfl, by simpa using h⟩
    have Q5 : Hid (pl = true → t1 = t2) := fun h => by
      rcases q5' with h2 | h2
      · rw [h] at h2; cases h2
      · exact h2
    clear q5 q5'
    by_cases q6 : g1.length = g2.length
    case neg =>
      have HN : ¬ rowSame pl (⟨k1, f1, g1, u1, v1, t1⟩ : Rw) ⟨k2, f2, g2, u2, v2, t2⟩ := fun h => q6 (by rw [show g1 = g2 from h.2.2.2.2.2])
      have e6 : ((g1.length : Int) != (g2.length : Int)) = true := by simp; omega
      clear q4 q0 q1 q3 q6 Q5
      rcases hp5 with ⟨rfl, _⟩ | ⟨rfl, e5⟩
      all_goals
        go_wp2
        go_ret
        exact ⟨⟨false, rfl, ⟨fun h => (by cases h), fun h => absurd (SP.out h) HN⟩⟩, hB2 _ _⟩
    case pos =>
    have e6 : ((g1.length : Int) != (g2.length : Int)) = false := by simp; omega
    have QQ : Hid (k1 = k2 ∧ f1 = f2 ∧ u1 = u2 ∧ v1 = v2) := ⟨q0, q1, q3, q4⟩
    have Q6 : Hid (g1.length = g2.length) := q6
    rw [← q6] at n2 ec2
    clear q0 q1 q3 q4 q6
    rcases hp5 with ⟨rfl, _⟩ | ⟨rfl, e5⟩
    all_goals
      go_upto_region 10 with (fail)
      rename_i K aK
      have hBB : Hid (Below w.heap.size w ((wr.alloc (.cells #[.string k1, .string f1, .slice x1 g1.length y1, .int .i64 u1, .int .i64 v1, .int .i64 t1] 45)).alloc (.cells #[.string k2, .string f2, .slice x2 g1.length y2, .int .i64 u2, .int .i64 v2, .int .i64 t2] 45))) := hB2 _ _
      have bk2 : BK ((wr.alloc (.cells #[.string k1, .string f1, .slice x1 g1.length y1, .int .i64 u1, .int .i64 v1, .int .i64 t1] 45)).alloc (.cells #[.string k2, .string f2, .slice x2 g1.length y2, .int .i64 u2, .int .i64 v2, .int .i64 t2] 45)) (wr.heap.size + 1) #[.string k2, .string f2, .slice x2 g1.length y2, .int .i64 u2, .int .i64 v2, .int .i64 t2] 45 := by
        have := bk_new (wr.alloc (.cells #[.string k1, .string f1, .slice x1 g1.length y1, .int .i64 u1, .int .i64 v1, .int .i64 t1] 45)) #[.string k2, .string f2, .slice x2 g1.length y2, .int .i64 u2, .int .i64 v2, .int .i64 t2] 45
        rwa [show (wr.alloc (.cells #[.string k1, .string f1, .slice x1 g1.length y1, .int .i64 u1, .int .i64 v1, .int .i64 t1] 45)).heap.size = wr.heap.size + 1 by simp] at this
      generalize ((wr.alloc (.cells #[.string k1, .string f1, .slice x1 g1.length y1, .int .i64 u1, .int .i64 v1, .int .i64 t1] 45)).alloc (.cells #[.string k2, .string f2, .slice x2 g1.length y2, .int .i64 u2, .int .i64 v2, .int .i64 t2] 45)) = WA at *
      have BK2 : Hid (BK WA (wr.heap.size + 1) #[.string k2, .string f2, .slice x2 g1.length y2, .int .i64 u2, .int .i64 v2, .int .i64 t2] 45) := bk2
      clear m0 m1 m2 m3 m4 m5 n0 n1 n2 n3 n4 n5 hB2 bk2
      generalize hHZ : wr.heap.size = HZ at *
      clear hHZ
      go_loopw [76] (fun v wq => ∃ i : Nat, i ≤ g1.length ∧ v = .int .i64 i ∧ Hid (Below WA.heap.size WA wq ∧ ∀ j (h : j < g1.length) (h' : j < g2.length), j < i → g1[j] = g2[j])) (fun v _ => g1.length - (intOf v).toNat)
      case atStart => exact ⟨0, by omega, rfl, Below.refl _ _, fun j _ _ h => absurd h (Nat.not_lt_zero _)⟩
      case round =>
        obtain ⟨i, hi, rfl, hI⟩ := hrel
        by_cases hil : i < g1.length
        · have hil2 : i < g2.length := by rw [← Q6.out]; exact hil
          obtain ⟨d1, w1, rfl, ra1⟩ := ER1.out i hil
          obtain ⟨d2, w2, rfl, ra2⟩ := ER2.out i hil2
          have sa1 := (ra1.below hBB.out).below hI.out.1
          have sa2 := (ra2.below hBB.out).below hI.out.1
          have l0 := sa1.c0 i hil
          have l1 := sa1.c1 i hil
          have l2 := sa2.c0 i hil2
          have l3 := sa2.c1 i hil2
          have l4 := sa1.lt
          have l5 := sa2.lt
          have bq := (hI.out.1.block _ BK2.out.lt).trans BK2.out
          have l6 : wr.cell? ⟨HZ + 1, 2, none⟩ = some (.slice (some ⟨d2, w2, none⟩) g1.length y2) := BK.cell bq 2
          have l7 := BK.lt bq
          clear sa1 sa2 ra1 ra2 bq
          have AN := fun w => arg_ne g1[i].n g2[i].n g1[i].x g2[i].x w
          have HE : Hid ((decide (g1[i].n = g2[i].n) && decide (g1[i].x = g2[i].x)) = true → g1[i] = g2[i]) := fun h => by
            obtain ⟨h1, h2⟩ : g1[i].n = g2[i].n ∧ g1[i].x = g2[i].x := by simpa using h
            generalize g1[i] = aa at *
            generalize g2[i] = bb at *
            obtain ⟨a1, a2⟩ := aa
            obtain ⟨b1, b2⟩ := bb
            simp only at h1 h2
            rw [h1, h2]
          have HF : Hid ((decide (g1[i].n = g2[i].n) && decide (g1[i].x = g2[i].x)) = false → ¬ SameP _ p q) := fun h hs => by
            have e := (SP.out hs).2.2.2.2.2
            simp only at e
            have e2 : g1[i] = g2[i] := by simp only [e]
            rw [e2] at h
            simp at h
          have HX : Hid (g1[i] = g2[i] → ∀ j (h : j < g1.length) (h' : j < g2.length), j < i + 1 → g1[j] = g2[j]) := fun he j h h' hj => by
            by_cases e : j = i
            · subst e; exact he
            · exact hI.out.2 j h h' (by omega)
          generalize (decide (g1[i].n = g2[i].n) && decide (g1[i].x = g2[i].x)) = bt at *
          generalize g1[i].n = A1 at *
          generalize g1[i].x = A2 at *
          generalize g2[i].n = A3 at *
          generalize g2[i].x = A4 at *
          have hB3 := bal hI.out.1 (.cells #[.string A1, .int .i64 A2] 61)
          cases bt with
          | true =>
            go_upto_region 12 with (fail)
            go_quiet (fail)
            go_wp2
            go_roundw
            case rel => exact ⟨i + 1, by omega, by go_num, below_drewN hB3 _, HX.out (HE.out rfl)⟩
            case measure => simp [intOf]; omega
          | false =>
            go_upto_region 12 with (fail)
            go_quiet (fail)
            go_wp2
            go_ret
            exact ⟨⟨false, rfl, ⟨fun h => (by cases h), fun h => absurd h (HF.out (by first | rfl | trivial))⟩⟩, btr hBB.out (below_drewN hB3 _)⟩
        · obtain rfl : i = g1.length := by omega
          go_wp2
          go_roundw
          case rel => exact ⟨k + 1, by omega, by go_num, btr hBB.out hI.out.1, SK.out ⟨QQ.out.1, QQ.out.2.1, QQ.out.2.2.1, QQ.out.2.2.2, fun h => (by first | exact Q5.out trivial | exact Q5.out h | cases h), List.ext_getElem Q6.out (fun j h h' => hI.out.2 j h h' h)⟩⟩
          case measure => simp [intOf]; omega
end Go.Proofs.YtiepbfeliehjnaaDoor
