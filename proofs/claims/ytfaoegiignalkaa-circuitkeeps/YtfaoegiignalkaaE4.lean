/-
  The layers of a circuit.
-/
import Derived.Test.YtfaoegiignalkaaE3
namespace Go.Proofs.Ytfaoegiignalkaa
open Go.RowKit Go.Sort

/-- What Layers keeps: the circuit's box, the marks. -/
structure LF (w W : World) (c : Ci) (a : Option Addr) (cp MB : Nat) (f : Nat → Nat) : Prop where
  below : Below w.heap.size w W
  box : BK W w.heap.size (cic c a cp) 24
  ms : MK W MB f
  hb : w.heap.size < MB
section
variable {w W W' : World} {c : Ci} {a : Option Addr} {cp MB : Nat} {f : Nat → Nat}
theorem LF.on (h : LF w W c a cp MB f) (hb : Below W.heap.size W W') : LF w W' c a cp MB f :=
  ⟨btr h.below hb, (hb.block _ h.box.lt).trans h.box, h.ms.below hb, h.hb⟩
theorem LF.put {f' : Nat → Nat} (h : LF w W c a cp MB f) (hg : GB W W' MB) (hm : MK W' MB f') : LF w W' c a cp MB f' :=
  ⟨h.below.grown hg h.below.size (fun k e => by cases e; have := h.hb; omega), gb_bk hg h.box (by have := h.hb; omega), hm, h.hb⟩
theorem mk_kept {W W' : World} {B : Nat} {f : Nat → Nat} {row : Option Nat} (h : MK W B f) (hg : W.grownBy W' row) (hne : some B ≠ row) : MK W' B f := by
  have e := hg.block B h.lt hne
  obtain ⟨cs, hc⟩ := h.ty
  have hc2 : BK W' B cs 78 := e.trans hc
  exact ⟨fun j hj => by rw [hc2.cell j, ← hc.cell j]; exact h.c j hj, hc2.free, hc2.lt, ⟨cs, hc2⟩⟩
/-- A row of another kind has grown. -/
theorem LF.grow {row : Option Nat} (h : LF w W c a cp MB f) (hg : W.grownBy W' row) (hr : ∀ g, row = some g → w.heap.size ≤ g ∧ ∃ cs T, W.heap[g]? = some (.cells cs T (0, 0)) ∧ T ≠ 24 ∧ T ≠ 78) : LF w W' c a cp MB f := by
  refine ⟨h.below.grown hg h.below.size (fun k e => (hr k e).1), (hg.block _ h.box.lt (fun e => ?_)).trans h.box, mk_kept h.ms hg (fun e => ?_), h.hb⟩
  · obtain ⟨_, cs, T, hc, h1, _⟩ := hr _ e.symm
    have h2 : W.heap[w.heap.size]? = some (.cells (cic c a cp) 24 (0, 0)) := h.box
    rw [h2] at hc
    cases hc
    exact h1 rfl
  · obtain ⟨_, cs, T, hc, _, h1⟩ := hr _ e.symm
    obtain ⟨cs2, h2⟩ := h.ms.ty
    have h2 : W.heap[MB]? = some (.cells cs2 78 (0, 0)) := h2
    rw [h2] at hc
    cases hc
    exact h1 rfl
end
/-- And the layers so far. -/
structure LO (w W : World) (c : Ci) (a : Option Addr) (cp MB : Nat) (f : Nat → Nat) (v : Value) (ls : List (List Nat)) (vs : List Value) : Prop where
  lf : LF w W c a cp MB f
  ol : OL W w.heap.size v ls vs
section
variable {w W W' : World} {c : Ci} {a : Option Addr} {cp MB : Nat} {f : Nat → Nat} {v v' : Value} {ls : List (List Nat)} {vs : List Value}
theorem LO.on (h : LO w W c a cp MB f v ls vs) (hb : Below W.heap.size W W') : LO w W' c a cp MB f v ls vs := ⟨h.lf.on hb, h.ol.below hb⟩
theorem LO.put {f' : Nat → Nat} (h : LO w W c a cp MB f v ls vs) (hg : GB W W' MB) (hm : MK W' MB f') : LO w W' c a cp MB f' v ls vs := by
  obtain ⟨cs, hc⟩ := h.lf.ms.ty
  exact ⟨h.lf.put hg hm, h.ol.gb hg hc (by decide) (by decide)⟩
theorem own_row {W : World} {B T k n : Nat} {v : Value} {xs : List Value} (h : W.ownsRow B T k v n xs) (h1 : T ≠ 24) (h2 : T ≠ 78) : ∀ g, v.ownBlock = some g → B ≤ g ∧ ∃ cs T, W.heap[g]? = some (.cells cs T (0, 0)) ∧ T ≠ 24 ∧ T ≠ 78 := fun g hg => by
  obtain ⟨cs, hc⟩ := own_ty h hg
  exact ⟨(h.lt g hg).1, cs, T, hc, h1, h2⟩
theorem LO.push (h : LO w W c a cp MB f v ls vs) (hg : W.grownBy W' v.ownBlock) (ho : W'.ownsRow w.heap.size 43 1 v' (ls.length + 1) (vs ++ [.slice none 0 0])) : LO w W' c a cp MB f v' (ls ++ [[]]) (vs ++ [.slice none 0 0]) :=
  ⟨h.lf.grow hg (own_row h.ol.out (by decide) (by decide)), h.ol.push hg ho⟩
theorem LO.add {g cap k n : Nat} (h : LO w W c a cp MB f (.slice (some ⟨g, 0, none⟩) ls.length cap) ls vs) (hk : k < ls.length) (hk' : k < vs.length) (hg : W.grownBy W' vs[k].ownBlock)
    (ho : W'.ownsRow w.heap.size 3 1 v' (ls[k].length + 1) (il ls[k] ++ [.int .i64 (n : Nat)])) (hloc : v'.ownBlock = vs[k].ownBlock ∨ v'.ownBlock = some W.heap.size) :
    LO w (W'.setCell ⟨g, k, none⟩ v') c a cp MB f (.slice (some ⟨g, 0, none⟩) ls.length cap) (ls.set k (ls[k] ++ [n])) (vs.set k v') := by
  have hout : W'.ownsRow w.heap.size 43 1 (.slice (some ⟨g, 0, none⟩) ls.length cap) ls.length vs := own_kept h.ol.out hg (fun x hx e => h.ol.apart k hk hk' x (e.symm) hx.symm)
  refine ⟨(h.lf.grow hg (own_row (h.ol.row k hk hk') (by decide) (by decide))).grow (row := some g) (gb_set (gb_refl W' g) g k v' (.inl rfl)) (fun x e => ?_), h.ol.put hk hk' hg ho hloc⟩
  exact own_row hout (by decide) (by decide) x e
end
section
variable {w W W' : World} {c : Ci} {a : Option Addr} {cp MB : Nat} {f : Nat → Nat} {v' rv : Value} {ls : List (List Nat)} {vs : List Value} {l0 : List Nat}
theorem LO.adds {g cap k n : Nat} (h : LO w W c a cp MB f (.slice (some ⟨g, 0, none⟩) ls.length cap) ls vs) (hk : k < ls.length) (hk' : k < vs.length) (e1 : vs[k] = rv) (e2 : ls[k] = l0) (hg : W.grownBy W' rv.ownBlock)
    (ho : W'.ownsRow w.heap.size 3 1 v' (l0.length + 1) (il l0 ++ [.int .i64 (n : Nat)])) (hloc : v'.ownBlock = rv.ownBlock ∨ v'.ownBlock = some W.heap.size) :
    LO w (W'.setCell ⟨g, k, none⟩ v') c a cp MB f (.slice (some ⟨g, 0, none⟩) ls.length cap) (ls.set k (l0 ++ [n])) (vs.set k v') ∧ (∃ x, W'.cell? ⟨g, k, none⟩ = some x) ∧ W'.frozen? ⟨g, k, none⟩ = false ∧ g < W'.heap.size := by
  subst e1
  subst e2
  have hout : W'.ownsRow w.heap.size 43 1 (.slice (some ⟨g, 0, none⟩) ls.length cap) ls.length vs := own_kept h.ol.out hg (fun x hx e => h.ol.apart k hk hk' x (e.symm) hx.symm)
  obtain ⟨g2, cap2, e, _, hfz, hcell, _, hgl⟩ := own_at hout (by omega)
  cases e
  exact ⟨h.add hk hk' hg ho hloc, ⟨_, hcell k hk'⟩, hfz k, hgl⟩
end
theorem one_one (x : Value) (h : x.oneCell' = true) : ∀ u ∈ [x], u.oneCell' = true := fun u hu => by
  rw [List.mem_singleton] at hu
  rw [hu]
  exact h
theorem zero78 : Try.zeroCells78 = Array.replicate 193 (.int .i64 0) := by kernel_rfl
theorem mk_new (w : World) : MK (w.alloc (.cells Try.zeroCells78 78)) w.heap.size (fun _ => 0) := by
  have b := bk_new w Try.zeroCells78 78
  refine ⟨fun j hj => ?_, b.free, b.lt, ⟨_, b⟩⟩
  rw [b.cell j, zero78, Array.getElem?_replicate, if_pos hj]
  rfl
theorem Try.info43 : (Try.prog.info? 43).map (fun i => (i.zero, i.size, i.bytes)) = some (some (.slice none 0 0), 1, 24) := by kernel_rfl
theorem Try.info3 : (Try.prog.info? 3).map (fun i => (i.zero, i.size, i.bytes)) = some (some (.int .i64 0), 1, 8) := by kernel_rfl
theorem new_one (w4 : World) (b : Nat) (hb : b = w4.heap.size) (x : Value) (T : TypeId) : ∀ j u, ([x] : List Value)[j]? = some u → (w4.alloc (.cells #[x] T)).cell? ((⟨b, 0, none⟩ : Addr).add j) = some u := by
  intro j u hj
  subst hb
  rw [WideShapes.add_plain, Nat.zero_add]
  match j, hj with
  | 0, hj => simp at hj; subst hj; simp [go_sem]
theorem addL_row {ls : List (List Nat)} {s j k : Nat} (h : ∀ l ∈ ls, l.length ≤ k) : ∀ l ∈ addL ls s j, l.length ≤ k + 1 := by
  intro l hl
  unfold addL at hl
  split at hl
  · rcases List.mem_append.1 hl with hl | hl
    · have := h l hl; omega
    · rw [List.mem_singleton] at hl; subst hl; simp
  · rcases List.mem_or_eq_of_mem_set hl with hl | hl
    · have := h l hl; omega
    · subst hl
      rw [List.length_append, List.getD_eq_getElem?_getD]
      by_cases e : s < ls.length
      · rw [List.getElem?_eq_getElem e]
        have := h _ (List.getElem_mem e)
        simp
        omega
      · rw [List.getElem?_eq_none (by omega)]
        simp
theorem lyF_drop {l : List Oq} {k : Nat} {f : Nat → Nat} {ls : List (List Nat)} (hk : k < l.length) : lyF (l.drop k) k f ls = lyF (l.drop (k + 1)) (k + 1) (putM f l[k] (lst f l[k])) (addL ls (lst f l[k]) k) := by
  rw [List.drop_eq_getElem_cons hk]
  rfl
set_option maxHeartbeats 4000000 in
set_option maxRecDepth 100000 in
theorem layers_any (c : Ci) (a : Option Addr) (cp : Nat) (A : Nat → Option Addr) (C : Nat → Nat) (w : World) (H : OS w a cp c.ops A C) :
    Calls Try.prog 25 #[civ c a cp] w fun e w' => ∃ v vs, e = .returned (.tuple #[v, .int .i64 ((lk c).2.2 : Nat)]) ∧ OL w' w.heap.size v (layers c) vs ∧ Below w.heap.size w w' := by
  have L := fun w1 h => check_any c a cp A C w1 h
  have HO : Hid (OS w a cp c.ops A C) := H
  have hcap := H.cap
  have hl := H.l
  have HL1 : Hid ((lk c).2.2 ≠ 0 → layers c = []) := fun h => by unfold layers; rw [if_neg h]
  have HL2 : Hid ((lk c).2.2 = 0 → layers c = lyF c.ops 0 (fun _ => 0) []) := fun h => by unfold layers; rw [if_pos h]
  have HL3 : Hid ((lk c).2.2 = 0 → c.ops.length ≤ 4096) := fun h => (lk_ok h).2.1
  have HL4 : Hid ((lk c).2.2 = 0 → ∀ k (hk : k < c.ops.length), Okay c.ops[k]) := fun h k hk => (lk_okay h H.fit k hk).1
  clear H
  generalize layers c = R at *
  generalize (lk c).2.2 = E at *
  generalize (lk c).1 = P at *
  obtain ⟨q, b, os⟩ := c
  simp only at *
  by_cases hE : E = 0
  case neg =>
    obtain rfl := HL1.out hE
    have hE1 : ((E : Int) != 0) = true := bne_iff_ne.2 (by omega)
    clear hE HL1 HL2 HL3 HL4
    go_enter Try.func25, Try.ntmps25
    go_wp2_with (go_at_call 14; (with_reducible refine (L _ (HO.out.below (bal (Below.refl _ _) _))).mono ?_); rintro e w1 ⟨rfl, hB⟩)
    go_ret2
    exact ⟨_, [], rfl, OL.nil _ _, btr (bal (Below.refl _ _) _) hB⟩
  subst hE
  have HR := HL2.out rfl
  have hl4 := HL3.out rfl
  have HOK : Hid (∀ k (hk : k < os.length), Okay os[k]) := HL4.out rfl
  have HR : Hid (R = lyF os 0 (fun _ => 0) []) := HR
  clear HL1 HL2 HL3 HL4
  go_enter Try.func25, Try.ntmps25
  go_wp2_with (go_at_call 14; (with_reducible refine (L _ (HO.out.below (bal (Below.refl _ _) _))).mono ?_); rintro e w1 ⟨rfl, hB⟩; have bC := one_box hB; have qC : ∀ j, w1.cell? ⟨w.heap.size, j, none⟩ = _ := bC.cell; have zC := bC.lt; have HW : Hid (Below w.heap.size w w1 ∧ BK w1 w.heap.size (cic ⟨q, b, os⟩ a cp) 24) := ⟨btr (bal (Below.refl _ _) _) hB, bC⟩; clear bC hB)
  have HLF : Hid (LF w (w1.alloc (.cells Try.zeroCells78 78)) ⟨q, b, os⟩ a cp w1.heap.size (fun _ => 0)) := ⟨bal HW.out.1 _, HW.out.2.alloc _, mk_new w1, zC⟩
  have hMBz : w.heap.size < w1.heap.size := zC
  obtain ⟨i43, hi43, hz43, hs43, hb43⟩ := info_parts Try.info43
  have HI43 : Hid (Try.prog.info? 43 = some i43 ∧ i43.zero = some (.slice none 0 0) ∧ i43.size = 1 ∧ i43.bytes = 24) := ⟨hi43, hz43, hs43, hb43⟩
  obtain ⟨i3, hi3, hz3, hs3, hb3⟩ := info_parts Try.info3
  have HI3 : Hid (Try.prog.info? 3 = some i3 ∧ i3.zero = some (.int .i64 0) ∧ i3.size = 1 ∧ i3.bytes = 8) := ⟨hi3, hz3, hs3, hb3⟩
  clear HW qC zC L hi43 hz43 hs43 hb43 hi3 hz3 hs3 hb3
  generalize w1.heap.size = MB at *
  generalize w1.alloc (.cells Try.zeroCells78 78) = W0 at *
  go_loopw [6, 22] (fun v6 v22 wr => ∃ (k : Nat) (ls : List (List Nat)) (vs : List Value) (f : Nat → Nat), k ≤ os.length ∧ ls.length ≤ k ∧ v22 = .int .i64 k ∧ Hid ((∀ i, f i ≤ ls.length) ∧ ∀ l ∈ ls, l.length ≤ k) ∧ Hid (LO w wr ⟨q, b, os⟩ a cp MB f v6 ls vs) ∧ Hid (R = lyF (os.drop k) k f ls)) (fun _ v22 _ => os.length - (intOf v22).toNat)
  case atStart => exact ⟨0, [], [], fun _ => 0, Nat.zero_le _, Nat.zero_le _, rfl, ⟨fun _ => Nat.le_refl _, fun _ h => by cases h⟩, ⟨HLF.out, OL.nil _ _⟩, HR⟩
  case round =>
    clear HLF HR
    obtain ⟨k, ls, vs, f, hk, hlk, rfl, hFF, hL, hR⟩ := hrel
    have hF : Hid (∀ i, f i ≤ ls.length) := hFF.out.1
    have hLR : Hid (∀ l ∈ ls, l.length ≤ k) := hFF.out.2
    clear hFF
    obtain ⟨va, vc, rfl⟩ := hL.out.ol.shape
    by_cases hlt : k < os.length
    case neg =>
      obtain rfl : k = os.length := by omega
      obtain rfl : R = ls := by rw [hR.out, List.drop_of_length_le (Nat.le_refl _)]; rfl
      go_wp2
      go_ret2
      exact ⟨_, vs, rfl, hL.out.ol, hL.out.lf.below⟩
    obtain ⟨b', o', rfl, r⟩ := (HO.out.below hL.out.lf.below).at_ k hlt
    have hQ := HO.out.qs k hlt
    have hK := HOK.out k hlt
    have m0 := r.c0 k hlt
    have m1 := r.c1 k hlt
    have m2 := r.c2 k hlt
    have m3 := r.c3 k hlt
    have m4 := r.c4 k hlt
    have m5 := r.c5 k hlt
    have m6 := r.c6 k hlt
    have hbl := r.lt
    have hR2 := hR.out
    rw [lyF_drop hlt] at hR2
    clear r hR
    generalize os[k] = o at *
    generalize A k = ak at *
    generalize C k = ck at *
    have HQ : Hid (QS w ak ck o.qs) := hQ
    have hs : lst f o ≤ ls.length := lst_le hF.out o
    have hbig : ∀ i, f i ≤ 4611686018427387904 := fun i => by have := hF.out i; omega
    have LE := fun W h1 h2 => least_any o ak ck MB f W h1 hK h2 hbig
    have PT := fun W h1 h2 => put_any o ak ck MB (lst f o) f W h1 hK h2 hbig (by omega) (fun b1 o1 h0 e => by obtain ⟨b2, o2, e2, r2⟩ := hQ.at_ 0 h0; rw [e] at e2; cases e2; have := r2.lt; omega)
    have HP : Hid (∀ M, lst f o + 1 ≤ M → (∀ i, f i ≤ M) → ∀ i, putM f o (lst f o) i ≤ M) := fun M h1 h2 => putM_le h1 h2
    clear hQ hK hbig
    generalize lst f o = s at *
    generalize putM f o s = f2 at *
    have HR2 : Hid (R = lyF (os.drop (k + 1)) (k + 1) f2 (addL ls s k)) := hR2
    clear hR2
    by_cases hsl : s = ls.length
    · subst hsl
      have hes : ((ls.length : Int) == (ls.length : Int)) = true := by simp
      have hvl : Hid (ls.length = vs.length) := hL.out.ol.len
      go_upto_region 12 with (first
        | (go_at_call 43; (with_reducible refine (LE _ (hL.out.on (bal (Below.refl _ _) _)).lf.ms (HQ.out.below (hL.out.on (bal (Below.refl _ _) _)).lf.below)).mono ?_); rintro e w2 ⟨rfl, hB2⟩; have hL2 := hL.out.on (btr (bal (Below.refl _ _) _) hB2); have bO := one_box hB2; have qO : ∀ j, w2.cell? ⟨wr.heap.size, j, none⟩ = _ := bO.cell; have zO := bO.lt; clear bO)
        | (go_at_call 44; (with_reducible refine (PT _ hL2.lf.ms (HQ.out.below hL2.lf.below)).mono ?_); rintro e w3 ⟨rfl, hG3, hM3⟩; have hL3 := hL2.put hG3 hM3; clear hG3 hM3))
      have hL4 : Hid (LO w w3 ⟨q, b, os⟩ _ cp MB f2 (.slice va ls.length vc) ls vs) := hL3
      clear hL3 hL2 hB2 qO zO LE PT
      go_wp2_with (first
        | (at_builtin; refine wpList_append_own_at _ rfl _ _ 44 rfl w.heap.size 43 i43 (.slice none 0 0) 1 24 Try.underlying44 HI43.out.1 HI43.out.2.1 HI43.out.2.2.1 HI43.out.2.2.2 rfl (by decide) _ ls.length vs rfl (hL4.out.on (bal (Below.refl _ _) _)).ol.out ⟨_, 0, none⟩ 1 1 [.slice none 0 0] rfl rfl (new_one _ _ (by simp) _ 43) (one_one _ rfl) (by unfold maxLen; omega) (by omega) (hL4.out.on (bal (Below.refl _ _) _)).lf.below.size ?_; intro v5 w5 hown5 hgrow5 hnil5 hloc5; have hL5 := (hL4.out.on (bal (Below.refl _ _) _)).push hgrow5 hown5; obtain ⟨g, cap, rfl, hcc, hfz, hcell, hBg, hgl⟩ := own_at hL5.ol.out (by simp); have cL : w5.cell? ⟨g, ls.length, none⟩ = some (.slice none 0 0) := (by rw [hcell ls.length (by simp [hvl.out])]; simp [hvl.out]); have hcap5 : ls.length < cap := (by simp at hcc; omega); clear hcell hcc hown5 hgrow5 hnil5 hloc5)
        | (at_builtin; refine wpList_append_own_at _ rfl _ _ 43 rfl w.heap.size 3 i3 (.int .i64 0) 1 8 Try.underlying43 HI3.out.1 HI3.out.2.1 HI3.out.2.2.1 HI3.out.2.2.2 rfl (by decide) _ 0 [] rfl (World.ownsRow_nil _ _ _ _) ⟨_, 0, none⟩ 1 1 [.int .i64 (k : Nat)] rfl rfl (new_one _ _ (by simp) _ 3) (one_one _ rfl) (by unfold maxLen; omega) (by omega) (hL5.on (bal (Below.refl _ _) _)).lf.below.size ?_; intro v6 w6 hown6 hgrow6 hnil6 hloc6; obtain ⟨a6, c6, rfl⟩ := own_shape hown6; obtain ⟨hL6, ⟨x6, y6⟩, z6, g6⟩ := (hL5.on (bal (Below.refl _ _) (.cells #[.int .i64 (k : Nat)] 3))).adds (k := ls.length) (n := k) (rv := .slice none 0 0) (l0 := []) (by simp) (by simp [hvl.out]) (by simp [hvl.out]) (by simp) hgrow6 hown6 hloc6; clear hnil6 hloc6))
      have e1 : (ls ++ [[]]).set ls.length ([] ++ [k]) = addL ls ls.length k := by unfold addL; rw [if_pos rfl]; simp
      have e2 : (ls ++ [[]]).length = ls.length + 1 := by simp
      rw [e1, e2] at hL6
      have hal := addL_len (ls := ls) (s := ls.length) (j := k) (Nat.le_refl _)
      have HB2 : Hid (∀ i, f2 i ≤ (addL ls ls.length k).length) := HP.out _ hal.2.1 (fun i => Nat.le_trans (hF.out i) hal.1)
      go_roundw
      case rel => exact ⟨k + 1, addL ls ls.length k, _, f2, by omega, by omega, by go_num, ⟨HB2.out, addL_row hLR.out⟩, hL6, HR2⟩
      case measure => simp [intOf]; omega
    · have hes : ((s : Int) == (ls.length : Int)) = false := beq_eq_false_iff_ne.2 (by omega)
      have hs2 : s < ls.length := by omega
      have hs3 : s < vs.length := by rw [← hL.out.ol.len]; exact hs2
      obtain ⟨g, cap, hva, hcc, _, _, _, _⟩ := own_at hL.out.ol.out (by omega)
      cases hva
      obtain ⟨ra, rc, hrv⟩ := own_shape (hL.out.ol.row s hs2 hs3)
      have HRV : Hid (vs[s] = .slice ra ls[s].length rc) := hrv
      have hln : ls[s].length ≤ k := hLR.out _ (List.getElem_mem hs2)
      have hgd : ls.getD s [] = ls[s] := by rw [List.getD_eq_getElem?_getD, List.getElem?_eq_getElem hs2]; rfl
      have HAD : Hid (addL ls s k = ls.set s (ls[s] ++ [k])) := by show _ = _; unfold addL; rw [if_neg hsl, hgd]
      clear hsl hrv hgd
      go_upto_region 13 with (first
        | (go_at_call 43; (with_reducible refine (LE _ (hL.out.on (bal (Below.refl _ _) _)).lf.ms (HQ.out.below (hL.out.on (bal (Below.refl _ _) _)).lf.below)).mono ?_); rintro e w2 ⟨rfl, hB2⟩; have hL2 := hL.out.on (btr (bal (Below.refl _ _) _) hB2); have bO := one_box hB2; have qO : ∀ j, w2.cell? ⟨wr.heap.size, j, none⟩ = _ := bO.cell; have zO := bO.lt; clear bO)
        | (go_at_call 44; (with_reducible refine (PT _ hL2.lf.ms (HQ.out.below hL2.lf.below)).mono ?_); rintro e w3 ⟨rfl, hG3, hM3⟩; have hL3 := hL2.put hG3 hM3; clear hG3 hM3))
      have hL4 : Hid (LO w w3 ⟨q, b, os⟩ _ cp MB f2 (.slice (some ⟨g, 0, none⟩) ls.length vc) ls vs) := hL3
      clear hL3 hL2 hB2 qO zO LE PT
      obtain ⟨g', cap', e', _, hfz, hcell, _, hgl⟩ := own_at hL4.out.ol.out (by omega)
      cases e'
      have cL : w3.cell? ⟨g, s, none⟩ = some (.slice ra ls[s].length rc) := by rw [hcell s hs3, HRV.out]
      clear hcell
      have HL0 : Hid (∃ l0, l0 = ls[s]) := ⟨_, rfl⟩
      obtain ⟨l0, hl0⟩ := HL0.out
      have hrow := hL4.out.ol.row s hs2 hs3
      rw [HRV.out, ← hl0] at hrow
      have HROW : Hid (w3.ownsRow w.heap.size 3 1 (.slice ra l0.length rc) l0.length (il l0)) := hrow
      rw [← hl0] at cL hln HAD
      have HL1 : Hid (ls[s] = l0) := hl0.symm
      have HRV2 : Hid (vs[s] = .slice ra l0.length rc) := by show _ = _; rw [HRV.out, hl0]
      clear hrow hl0 HRV HL0
      go_wp2_with (first
        | (at_builtin; refine wpList_append_own_at _ rfl _ _ 43 rfl w.heap.size 3 i3 (.int .i64 0) 1 8 Try.underlying43 HI3.out.1 HI3.out.2.1 HI3.out.2.2.1 HI3.out.2.2.2 rfl (by decide) _ l0.length (il l0) rfl (own_below HROW.out (bal (Below.refl _ _) _)) ⟨_, 0, none⟩ 1 1 [.int .i64 (k : Nat)] rfl rfl (new_one _ _ (by simp) _ 3) (one_one _ rfl) (by unfold maxLen; omega) (by omega) (hL4.out.on (bal (Below.refl _ _) _)).lf.below.size ?_; intro v6 w6 hown6 hgrow6 hnil6 hloc6; obtain ⟨a6, c6, rfl⟩ := own_shape hown6; obtain ⟨hL6, ⟨x6, y6⟩, z6, g6⟩ := (hL4.out.on (bal (Below.refl _ _) (.cells #[.int .i64 (k : Nat)] 3))).adds (k := s) (n := k) (rv := .slice ra l0.length rc) (l0 := l0) hs2 hs3 HRV2.out HL1.out hgrow6 hown6 hloc6; clear hnil6 hloc6))
      rw [← HAD.out] at hL6
      have hal := addL_len (ls := ls) (s := s) (j := k) hs
      have HB2 : Hid (∀ i, f2 i ≤ (addL ls s k).length) := HP.out _ hal.2.1 (fun i => Nat.le_trans (hF.out i) hal.1)
      go_roundw
      case rel => exact ⟨k + 1, addL ls s k, _, f2, by omega, by omega, by go_num, ⟨HB2.out, addL_row hLR.out⟩, hL6, HR2⟩
      case measure => simp [intOf]; omega
end Go.Proofs.Ytfaoegiignalkaa
