/-
  Put together of: F3 F4 F6 F7.
-/
import Derived.Test.YtdjfpghgklkejaaGreatDoorXE
import Derived.Test.YtdjfpghgklkejaaGreatDoorXM
namespace Go.Proofs.YtdjfpghgklkejaaGreatDoor
open Go.RowKit Go.Sort
abbrev sdV (s : Sd) : Value := .agg #[.int .i64 s.p, .int .i64 (s.n : Nat), .bool s.g, .int .u64 (s.m : Nat), .int .u64 (s.v : Nat)]
abbrev sdC (s : Sd) : Array Value := #[.int .i64 s.p, .int .i64 (s.n : Nat), .bool s.g, .int .u64 (s.m : Nat), .int .u64 (s.v : Nat)]
structure PP where
 sd : Sd
 k : Int
 n : ByteArray
 qs : List Int
 qa : Option Addr
 qc : Nat
 b : Int
 t : Int
 ba : Option Addr
 bn : Nat
 bc : Nat
abbrev ppc (p : PP) : List Value := [.int .i64 p.sd.p, .int .i64 (p.sd.n : Nat), .bool p.sd.g, .int .u64 (p.sd.m : Nat), .int .u64 (p.sd.v : Nat), .int .i64 p.k, .string p.n, .slice p.qa p.qs.length p.qc, .int .i64 p.b, .bool false, .int .u64 0, .int .u64 0, .int .i64 p.t, .slice p.ba p.bn p.bc]
abbrev ppV (p : PP) : Value := .agg (ppc p).toArray
def mean (p : PP) (L : List TO) : List TO := (if p.k ≠ 0 then [⟨p.k, p.n, p.qs, p.b, stO p.sd⟩] else []) ++ (List.replicate p.t.toNat (L.map (subT p.qs (stO p.sd)))).flatten
structure HG where
 h : Nat
 G : Nat → Prop
 le : ∀ b, G b → h ≤ b
def QSh (W : World) (hi : HG) (a : Option Addr) (c : Nat) (l : List Int) : Prop := QS W a c l ∧ ∀ b o, a = some ⟨b, o, none⟩ → 0 < l.length → hi.G b
theorem QSh.far {W W' : World} {lo' hi' : Nat} {hi : HG} {a : Option Addr} {c : Nat} {l : List Int} (h : QSh W hi a c l) (g : Fr W W' lo' hi') (hx : ∀ b, hi.G b → b < lo' ∨ hi' ≤ b) : QSh W' hi a c l :=
 ⟨⟨h.1.cap, fun k hk => by
  obtain ⟨b, o, e, r⟩ := h.1.at_ k hk
  have hb := hx b (h.2 b o e (by omega))
  exact ⟨b, o, e, fun j hj => (g.cell r.lt hb).trans (r.c j hj), Nat.lt_of_lt_of_le r.lt g.size⟩⟩, h.2⟩
theorem QSh.wide {W : World} {hi hi2 : HG} {a : Option Addr} {c : Nat} {l : List Int} (h : QSh W hi a c l) (hx : ∀ b, b < W.heap.size → hi.G b → hi2.G b) : QSh W hi2 a c l :=
 ⟨h.1, fun b o e hl => by
  obtain ⟨b', o', e', r⟩ := h.1.at_ 0 hl
  rw [e] at e'
  cases e'
  exact hx b r.lt (h.2 b o e hl)⟩
def UnS (L : List TO) : Prop := (∀ t ∈ L, t.st = none) ∨ ∀ t ∈ L, t.st ≠ none
theorem uns_nil : UnS [] := .inl fun t h => by cases h
def PQ (n : Nat) (p : PP) : Prop := p.qs.length ≤ 6000000000000 ∧ p.n.size ≤ 281474976710656 ∧ p.t ≤ 9223372036854775807 ∧ (p.k ≠ 0 → p.qs ≠ []) ∧ (p.sd.m < 18446744073709551616 ∧ p.sd.v < 18446744073709551616) ∧ ∀ j ∈ p.qs, 0 ≤ j ∧ j < (n : Int)
def nbq (n : Nat) (qs : List Int) : Nat := if qs = [] then n else qs.length
theorem PQ.mono {n n' : Nat} {p : PP} (h : PQ n p) (hn : n ≤ n') : PQ n' p := ⟨h.1, h.2.1, h.2.2.1, h.2.2.2.1, h.2.2.2.2.1, fun j hj => ⟨(h.2.2.2.2.2 j hj).1, by have := (h.2.2.2.2.2 j hj).2; omega⟩⟩
theorem nbq_mono {n n' : Nat} (qs : List Int) (hn : n ≤ n') : nbq n qs ≤ nbq n' qs := by unfold nbq; split <;> omega
def PLn : Nat → World → HG → Nat → Value → List TO → Prop
 | 0, _, _, _, v, L => (∃ a c, v = .slice a 0 c) ∧ L = []
 | d + 1, W, hi, n, v, L => ∃ (a : Option Addr) (c : Nat) (ps : List PP) (Ls : List (List TO)), v = .slice a ps.length c ∧ ps.length ≤ c ∧ ps.length ≤ 4097 ∧ Ls.length = ps.length ∧
   (∀ k, k < ps.length → ∃ b o, a = some ⟨b, o, none⟩ ∧ hi.G b ∧ b < W.heap.size ∧ ∀ (i : Nat) (h : i < ps.length) (j : Nat), j < 14 → W.cell? ⟨b, o + i * 14 + j, none⟩ = (ppc ps[i])[j]?) ∧
   (∀ k (h : k < ps.length) (h' : k < Ls.length), QSh W hi ps[k].qa ps[k].qc ps[k].qs ∧ PLn d W hi (nbq n ps[k].qs) (.slice ps[k].ba ps[k].bn ps[k].bc) Ls[k] ∧ mean ps[k] Ls[k] ≠ [] ∧ PQ n ps[k]) ∧
   L = ((ps.zip Ls).map fun x => mean x.1 x.2).flatten ∧ UnS L
theorem PLn.far {W W' : World} {lo' hi' : Nat} {hi : HG} (g : Fr W W' lo' hi') (hx : ∀ b, hi.G b → b < lo' ∨ hi' ≤ b) : ∀ (d n : Nat) (v : Value) (L : List TO), PLn d W hi n v L → PLn d W' hi n v L
 | 0, _, _, _, h => h
 | d + 1, n, v, L, h => by
  obtain ⟨a, c, ps, Ls, h1, h2, h2', h3, h4, h5, h6⟩ := h
  refine ⟨a, c, ps, Ls, h1, h2, h2', h3, fun k hk => ?_, fun k hk hk' => ?_, h6⟩
  ·obtain ⟨b, o, e, hb, hl, hc⟩ := h4 k hk
   exact ⟨b, o, e, hb, Nat.lt_of_lt_of_le hl g.size, fun i hi' j hj => (g.cell hl (hx b hb)).trans (hc i hi' j hj)⟩
  ·obtain ⟨q1, q2, q3⟩ := h5 k hk hk'
   exact ⟨q1.far g hx, PLn.far g hx d _ _ _ q2, q3⟩
theorem PLn.wide {W : World} {hi hi2 : HG} (hx : ∀ b, b < W.heap.size → hi.G b → hi2.G b) : ∀ (d n : Nat) (v : Value) (L : List TO), PLn d W hi n v L → PLn d W hi2 n v L
 | 0, _, _, _, h => h
 | d + 1, n, v, L, h => by
  obtain ⟨a, c, ps, Ls, h1, h2, h2', h3, h4, h5, h6⟩ := h
  refine ⟨a, c, ps, Ls, h1, h2, h2', h3, fun k hk => ?_, fun k hk hk' => ?_, h6⟩
  ·obtain ⟨b, o, e, hb, hl, hc⟩ := h4 k hk
   exact ⟨b, o, e, hx b hl hb, hl, hc⟩
  ·obtain ⟨q1, q2, q3⟩ := h5 k hk hk'
   exact ⟨q1.wide hx, PLn.wide hx d _ _ _ q2, q3⟩
theorem PLn.up {W : World} {hi : HG} : ∀ (d n : Nat) (v : Value) (L : List TO), PLn d W hi n v L → PLn (d + 1) W hi n v L
 | 0, n, v, L, h => by
  obtain ⟨⟨a, c, rfl⟩, rfl⟩ := h
  exact ⟨a, c, [], [], rfl, Nat.zero_le _, Nat.zero_le _, rfl, fun k hk => absurd hk (Nat.not_lt_zero _), fun k hk => absurd hk (Nat.not_lt_zero _), rfl, uns_nil⟩
 | d + 1, n, v, L, h => by
  obtain ⟨a, c, ps, Ls, h1, h2, h2', h3, h4, h5, h6⟩ := h
  exact ⟨a, c, ps, Ls, h1, h2, h2', h3, h4, fun k hk hk' => ⟨(h5 k hk hk').1, PLn.up d _ _ _ (h5 k hk hk').2.1, (h5 k hk hk').2.2⟩, h6⟩
theorem PLn.le {W : World} {hi : HG} {d d' n : Nat} {v : Value} {L : List TO} (h : PLn d W hi n v L) (hd : d ≤ d') : PLn d' W hi n v L := by
 induction hd with
 | refl => exact h
 | step _ ih => exact PLn.up _ _ _ _ ih
theorem PLn.mono {W : World} {hi : HG} : ∀ (d n n' : Nat) (v : Value) (L : List TO), n ≤ n' → PLn d W hi n v L → PLn d W hi n' v L
 | 0, _, _, _, _, _, h => h
 | d + 1, n, n', v, L, hn, h => by
  obtain ⟨a, c, ps, Ls, h1, h2, h2', h3, h4, h5, h6⟩ := h
  exact ⟨a, c, ps, Ls, h1, h2, h2', h3, h4, fun k hk hk' => ⟨(h5 k hk hk').1, PLn.mono d _ _ _ _ (nbq_mono _ hn) (h5 k hk hk').2.1, (h5 k hk hk').2.2.1, (h5 k hk hk').2.2.2.mono hn⟩, h6⟩
theorem PLn.uns {W : World} {hi : HG} {d n : Nat} {v : Value} {L : List TO} (h : PLn d W hi n v L) : UnS L := by
 cases d with
 | zero => obtain ⟨_, rfl⟩ := h; exact uns_nil
 | succ d =>
  obtain ⟨a, c, ps, Ls, h1, h2, h2', h3, h4, h5, h6⟩ := h
  exact h6.2
def PL (W : World) (hi : HG) (n : Nat) (v : Value) (L : List TO) : Prop := ∃ d, PLn d W hi n v L
theorem PL.mono {W : World} {hi : HG} {n n' : Nat} {v : Value} {L : List TO} (h : PL W hi n v L) (hn : n ≤ n') : PL W hi n' v L := by
 obtain ⟨d, h⟩ := h
 exact ⟨d, PLn.mono d n n' v L hn h⟩
theorem PL.uns {W : World} {hi : HG} {n : Nat} {v : Value} {L : List TO} (h : PL W hi n v L) : UnS L := by
 obtain ⟨d, h⟩ := h
 exact h.uns
theorem PL.far {W W' : World} {lo' hi' n : Nat} {hi : HG} {v : Value} {L : List TO} (h : PL W hi n v L) (g : Fr W W' lo' hi') (hx : ∀ b, hi.G b → b < lo' ∨ hi' ≤ b) : PL W' hi n v L := by
 obtain ⟨d, h⟩ := h
 exact ⟨d, PLn.far g hx d n v L h⟩
theorem PL.wide {W : World} {n : Nat} {hi hi2 : HG} {v : Value} {L : List TO} (h : PL W hi n v L) (hx : ∀ b, b < W.heap.size → hi.G b → hi2.G b) : PL W hi2 n v L := by
 obtain ⟨d, h⟩ := h
 exact ⟨d, PLn.wide hx d n v L h⟩
theorem PL.shape {W : World} {n : Nat} {hi : HG} {v : Value} {L : List TO} (h : PL W hi n v L) : ∃ a n c, v = .slice a n c ∧ n ≤ 4097 ∧ (n = 0 ↔ L = []) := by
 obtain ⟨d, h⟩ := h
 cases d with
 | zero => obtain ⟨⟨a, c, rfl⟩, rfl⟩ := h; exact ⟨a, 0, c, rfl, by omega, by simp⟩
 | succ d =>
  obtain ⟨a, c, ps, Ls, h1, h2, h2', h3, h4, h5, h6, _⟩ := h
  refine ⟨a, _, c, h1, h2', ?_⟩
  cases ps with
  | nil => simp at h6; simp [h6]
  | cons p ps =>
   cases Ls with
   | nil => cases h3
   | cons L0 Ls =>
    have := (h5 0 (by simp) (by simp)).2.2.1
    simp only [List.getElem_cons_zero] at this
    simp [h6, this]
theorem pl_nil (W : World) (hi : HG) (n : Nat) (a : Option Addr) (c : Nat) : PL W hi n (.slice a 0 c) [] := ⟨0, ⟨a, c, rfl⟩, rfl⟩
def NMe (W : World) (hi : HG) (m : Mn) (v : Value) : Prop := ∃ a k c L', v = .agg #[.int .i64 (m.s : Nat), .int .i64 (m.f : Nat), .int .i64 (m.z : Nat), .int .i64 (m.d : Nat), .slice a k c] ∧ PL W hi m.z (.slice a k c) L' ∧ T4 L' m.l
def NM (W : World) (mb : Nat) (hi : HG) (N : Nat) (nm : ByteArray → Option Mn) : Prop :=
 ∃ (f : ByteArray → Option Value) (z : Nat), MF W mb N f z ∧ ∀ s, (nm s = none → f s = none) ∧ ∀ m, nm s = some m → ∃ v, f s = some v ∧ NMe W hi m v
theorem NMe.far {W W' : World} {lo' hi' : Nat} {hi : HG} {m : Mn} {v : Value} (h : NMe W hi m v) (g : Fr W W' lo' hi') (hx : ∀ b, hi.G b → b < lo' ∨ hi' ≤ b) : NMe W' hi m v := by
 obtain ⟨a, k, c, L', h1, h2, h3⟩ := h
 exact ⟨a, k, c, L', h1, h2.far g hx, h3⟩
theorem NM.far {W W' : World} {lo' hi' mb N : Nat} {hi : HG} {nm : ByteArray → Option Mn} (h : NM W mb hi N nm) (g : Fr W W' lo' hi') (hx : ∀ b, hi.G b → b < lo' ∨ hi' ≤ b) (hb : W'.heap[mb]? = W.heap[mb]?) : NM W' mb hi N nm := by
 obtain ⟨f, z, h1, h2⟩ := h
 exact ⟨f, z, h1.block hb, fun s => ⟨(h2 s).1, fun m hm => by obtain ⟨v, e, hv⟩ := (h2 s).2 m hm; exact ⟨v, e, hv.far g hx⟩⟩⟩
theorem NM.wide {W : World} {mb N : Nat} {hi hi2 : HG} {nm : ByteArray → Option Mn} (h : NM W mb hi N nm) (hx : ∀ b, b < W.heap.size → hi.G b → hi2.G b) : NM W mb hi2 N nm := by
 obtain ⟨f, z, h1, h2⟩ := h
 refine ⟨f, z, h1, fun s => ⟨(h2 s).1, fun m hm => ?_⟩⟩
 obtain ⟨v, e, a, k, c, L', e1, e2, e3⟩ := (h2 s).2 m hm
 exact ⟨v, e, a, k, c, L', e1, e2.wide hx, e3⟩
def PRm (W : World) (hi : HG) (pv : Value) (pr : List ByteArray) : Prop :=
 (pr = [] ∧ ∃ x, pv = .map x) ∨ ∃ pb n f z, pv = .map (some pb) ∧ hi.G pb ∧ MF W pb n f z ∧ ∀ s, f s = (idxN s pr).map fun (j : Nat) => Value.int .i64 (j : Nat)
theorem PRm.far {W W' : World} {lo' hi' : Nat} {hi : HG} {pv : Value} {pr : List ByteArray} (h : PRm W hi pv pr) (g : Fr W W' lo' hi') (hx : ∀ b, hi.G b → b < lo' ∨ hi' ≤ b) : PRm W' hi pv pr := by
 rcases h with h | ⟨pb, n, f, z, h1, h2, h3, h4⟩
 ·exact .inl h
 ·exact .inr ⟨pb, n, f, z, h1, h2, h3.block (g.block pb h3.lt (hx pb h2)), h4⟩
theorem PRm.wide {W : World} {hi hi2 : HG} {pv : Value} {pr : List ByteArray} (h : PRm W hi pv pr) (hx : ∀ b, b < W.heap.size → hi.G b → hi2.G b) : PRm W hi2 pv pr := by
 rcases h with h | ⟨pb, n, f, z, h1, h2, h3, h4⟩
 ·exact .inl h
 ·exact .inr ⟨pb, n, f, z, h1, hx pb h3.lt h2, h3, h4⟩
structure LK (w0 W : World) (lb mb : Nat) (hi : HG) (N : Nat) (en : En) (pl : Int) : Prop where
 below : Below w0.heap.size w0 W
 box : ∃ pv, BK W lb #[.map (some mb), .int .i64 (en.q : Nat), .int .i64 (en.b : Nat), pv, .int .i64 (en.d : Nat), .int .i64 pl] 64 ∧ PRm W hi pv en.pr
 nm : NM W mb hi N en.nm
 o1 : w0.heap.size ≤ lb
 o2 : w0.heap.size ≤ mb
 o3 : lb < hi.h
 o4 : mb < hi.h
 o5 : hi.h ≤ W.heap.size
 o6 : lb ≠ mb
 up : ∀ b, W.heap.size ≤ b → hi.G b
theorem LK.far {w0 W W' : World} {lb mb N lo' hi' : Nat} {hi : HG} {en : En} {pl : Int} (h : LK w0 W lb mb hi N en pl) (g : Fr W W' lo' hi') (hx : ∀ b, hi.G b → b < lo' ∨ hi' ≤ b) (hl : hi.h ≤ lo') : LK w0 W' lb mb hi N en pl := by
 obtain ⟨pv, k1, k2⟩ := h.box
 have h3 := h.o3
 have h4 := h.o4
 exact ⟨below_fr h.below g (by have := h.o1; omega), ⟨pv, g.bk k1 (.inl (by omega)), k2.far g hx⟩, h.nm.far g hx (g.block _ (Nat.lt_of_lt_of_le h.o4 h.o5) (.inl (by omega))), h.o1, h.o2, h.o3, h.o4, Nat.le_trans h.o5 g.size, h.o6, fun b hb => h.up b (Nat.le_trans g.size hb)⟩
theorem LK.fr {w0 W W' : World} {lb mb N : Nat} {hi : HG} {en : En} {pl : Int} (h : LK w0 W lb mb hi N en pl) (g : Below W.heap.size W W') : LK w0 W' lb mb hi N en pl := by
 obtain ⟨pv, k1, k2⟩ := h.box
 have f : Fr W W' 0 0 := fr_of_below g
 exact ⟨btr h.below g, ⟨pv, (g.block _ k1.lt).trans k1, k2.far f (fun b _ => .inr (Nat.zero_le _))⟩, h.nm.far f (fun b _ => .inr (Nat.zero_le _)) (g.block _ (Nat.lt_of_lt_of_le h.o4 h.o5)), h.o1, h.o2, h.o3, h.o4, Nat.le_trans h.o5 g.size, h.o6, fun b hb => h.up b (Nat.le_trans g.size hb)⟩
theorem LK.wide {w0 W : World} {lb mb N : Nat} {hi hi2 : HG} {en : En} {pl : Int} (h : LK w0 W lb mb hi N en pl) (hh : hi2.h = hi.h) (hx : ∀ b, b < W.heap.size → hi.G b → hi2.G b) (hu : ∀ b, W.heap.size ≤ b → hi2.G b) : LK w0 W lb mb hi2 N en pl := by
 obtain ⟨pv, k1, k2⟩ := h.box
 exact ⟨h.below, ⟨pv, k1, k2.wide hx⟩, h.nm.wide hx, h.o1, h.o2, by rw [hh]; exact h.o3, by rw [hh]; exact h.o4, by rw [hh]; exact h.o5, h.o6, hu⟩
def HG.cut (hi : HG) (x y : Nat) : HG := ⟨hi.h, fun b => hi.G b ∧ (b < x ∨ y ≤ b), fun b h => hi.le b h.1⟩
theorem LK.cut {w0 W W' : World} {lb mb N : Nat} {hi : HG} {en : En} {pl : Int} (h : LK w0 W lb mb hi N en pl) (g : Below W.heap.size W W') : LK w0 W' lb mb (hi.cut W.heap.size W'.heap.size) N en pl := by
 have h1 : LK w0 W lb mb (hi.cut W.heap.size W.heap.size) N en pl := h.wide rfl (fun b hb hg => ⟨hg, .inl hb⟩) (fun b hb => ⟨h.up b hb, .inr hb⟩)
 obtain ⟨pv, k1, k2⟩ := h1.box
 have f : Fr W W' 0 0 := fr_of_below g
 have hw : ∀ b, b < W.heap.size → (hi.cut W.heap.size W.heap.size).G b → (hi.cut W.heap.size W'.heap.size).G b := fun b hb hg => ⟨hg.1, .inl hb⟩
 have q2 := (k2.wide hw).far f (fun b _ => .inr (Nat.zero_le _))
 have q3 := (h1.nm.wide hw).far f (fun b _ => .inr (Nat.zero_le _)) (g.block _ (Nat.lt_of_lt_of_le h.o4 h.o5))
 exact ⟨btr h.below g, ⟨pv, (g.block _ k1.lt).trans k1, q2⟩, q3, h.o1, h.o2, h.o3, h.o4, Nat.le_trans h.o5 g.size, h.o6, fun b hb => ⟨h.up b (Nat.le_trans g.size hb), .inr hb⟩⟩
abbrev mz : Value := .agg #[.int .i64 0, .int .i64 0, .int .i64 0, .int .i64 0, .slice none 0 0]
theorem zero109 (w : World) : (zeroValue 109).run Tryz.prog w = .ok mz w := by kernel_rfl
theorem zero3 (w : World) : (zeroValue 3).run Tryz.prog w = .ok (.int .i64 0) w := by kernel_rfl
theorem LK.name {w0 W : World} {lb mb N : Nat} {hi : HG} {en : En} {pl : Int} (h : LK w0 W lb mb hi N en pl) (s : ByteArray) (hs : s.size ≤ maxLen) :
  ∃ (x0 x1 x2 x3 : Nat) (a : Option Addr) (k c : Nat) (L' : List TO), (∀ W' : World, W'.heap[mb]? = W.heap[mb]? → (Instr.lookup 60 (.map (some mb)) (.string s) false).run Tryz.prog W' = .ok (.agg #[.int .i64 (x0 : Nat), .int .i64 (x1 : Nat), .int .i64 (x2 : Nat), .int .i64 (x3 : Nat), .slice a k c]) W') ∧ x0 = srt en s ∧
   (∀ m, en.nm s = some m → x1 = m.f ∧ x2 = m.z ∧ x3 = m.d ∧ T4 L' m.l) ∧ (en.nm s = none → x1 = 0 ∧ x2 = 0 ∧ x3 = 0 ∧ L' = []) ∧ PL W hi x2 (.slice a k c) L' := by
 obtain ⟨f, z, h1, h2⟩ := h.nm
 cases e : en.nm s with
 | none =>
  refine ⟨0, 0, 0, 0, none, 0, 0, [], fun W' hM => ?_, (by unfold srt; rw [e]; rfl), fun m hm => (by cases hm), fun _ => ⟨rfl, rfl, rfl, rfl⟩, pl_nil _ _ _ _ _⟩
  rw [(h1.block hM).look Tryz.underlying60 (zero109 W') hs, (h2 s).1 e]
  rfl
 | some m =>
  obtain ⟨v, e1, a, k, c, L', rfl, hp, ht⟩ := (h2 s).2 m e
  refine ⟨m.s, m.f, m.z, m.d, a, k, c, L', fun W' hM => ?_, (by unfold srt; rw [e]; rfl), fun m' hm => (by cases hm; exact ⟨rfl, rfl, rfl, ht⟩), fun h => (by cases h), hp⟩
  rw [(h1.block hM).look Tryz.underlying60 (zero109 W') hs, e1]
  rfl
theorem LK.take {w0 W : World} {lb mb N : Nat} {hi : HG} {en : En} {pl : Int} (h : LK w0 W lb mb hi N en pl) (hN : N < maxLen) (s : ByteArray) (hs : s.size ≤ maxLen) (m : Mn) (v : Value) (hv : NMe W hi m v) :
  ∃ W', (Instr.mapUpdate 60 (.map (some mb)) (.string s) v).run Tryz.prog W = .ok () W' ∧ LK w0 W' lb mb hi (N + 1) ⟨putN en.nm s m, en.q, en.b, en.pr, en.d⟩ pl ∧ W.grownBy W' (some mb) := by
 obtain ⟨f, z, h1, h2⟩ := h.nm
 obtain ⟨W', hr, hm, hg⟩ := h1.put Tryz.underlying60 hN hs v
 have hfr : Fr W W' mb (mb + 1) := (Fr.refl W _ _).grown hg (fun b e => by cases e; exact .inl ⟨Nat.le_refl _, Nat.lt_succ_self _⟩)
 have hx : ∀ b, hi.G b → b < mb ∨ mb + 1 ≤ b := fun b hb => .inr (by have := hi.le b hb; have := h.o4; omega)
 obtain ⟨pv, k1, k2⟩ := h.box
 refine ⟨W', hr, ⟨h.below.grown hg h.below.size (fun g e => by cases e; exact h.o2), ⟨pv, hfr.bk k1 (by have := h.o6; omega), k2.far hfr hx⟩, ⟨_, _, hm, fun t => ?_⟩, h.o1, h.o2, h.o3, h.o4, Nat.le_trans h.o5 hg.size, h.o6, fun b hb => h.up b (Nat.le_trans hg.size hb)⟩, hg⟩
 show (putN en.nm s m t = none → _) ∧ _
 unfold putN
 by_cases e : t = s
 ·simp only [if_pos e]
  exact ⟨fun h => (by cases h), fun m' hm' => (by cases hm'; exact ⟨v, rfl, hv.far hfr hx⟩)⟩
 ·simp only [if_neg e]
  refine ⟨(h2 t).1, fun m' hm' => ?_⟩
  obtain ⟨v', e1, hv'⟩ := (h2 t).2 m' hm'
  exact ⟨v', e1, hv'.far hfr hx⟩
end Go.Proofs.YtdjfpghgklkejaaGreatDoor
namespace Go.Proofs.YtdjfpghgklkejaaGreatDoor
open Go.RowKit Go.Sort
theorem hid {p : Prop} (h : p) : Hid p := h
theorem bk_at {W : World} {b : Nat} (cs : Array Value) (T : TypeId) (h : b = W.heap.size) : BK (W.alloc (.cells cs T)) b cs T := by subst h; exact bk_new W cs T
abbrev rwV (r : Rw) (a : Option Addr) (c : Nat) : Value := .agg #[.string r.kind, .string r.name, .slice a r.args.length c, .int .i64 r.num, .int .i64 r.rows, .int .i64 r.place]
set_option maxHeartbeats 1000000 in
theorem may_any (k : ByteArray) (sd : Sd) (w : World) :
  Calls Tryz.prog 83 #[.string k, sdV sd] w fun e w' => e = .returned (.bool (mayB k sd)) ∧ Below w.heap.size w w' := by
 obtain ⟨p, n, g, m, v⟩ := sd
 rcases shp_cases k with ⟨rfl, h, _⟩ | ⟨rfl, h, _⟩ | ⟨rfl, h, _⟩ | ⟨rfl, h, _⟩ | ⟨rfl, h, _⟩ | ⟨rfl, h, _⟩ | ⟨rfl, h, _⟩ | ⟨rfl, h, _⟩ | ⟨h1, h2, h3, h4, h5, h6, h7, h8, h, _⟩
 case inr.inr.inr.inr.inr.inr.inr.inr =>
  have e : mayB k ⟨p, n, g, m, v⟩ = !g := by simp [mayB, h1, h2, h3, h4, h8]
  rw [e]
  have g1 := ne_lit h1
  have g2 := ne_lit h2
  have g3 := ne_lit h3
  have g4 := ne_lit h4
  have g5 := ne_lit h5
  have g6 := ne_lit h6
  have g7 := ne_lit h7
  have g8 := ne_lit h8
  clear h1 h2 h3 h4 h5 h6 h7 h8 h e
  go_enter Tryz.func83, Tryz.ntmps83
  go_wp2
  go_ret
  exact ⟨rfl, bal (Below.refl _ _) _⟩
 all_goals clear h
 all_goals simp only [mayB]
 all_goals try (have e0 : decide (n = 0) = ((n : Int) == 0) := (by by_cases e : n = 0 <;> simp [e]))
 all_goals
  go_enter Tryz.func83, Tryz.ntmps83
  go_wp2
  go_ret
  exact ⟨by first | rfl | simp [e0] | simp, bal (Below.refl _ _) _⟩
end Go.Proofs.YtdjfpghgklkejaaGreatDoor
namespace Go.Proofs.YtdjfpghgklkejaaGreatDoor
open Go.RowKit Go.Sort
abbrev arV (a : Ar) : Value := .agg #[.string a.n, .int .i64 a.x]
def errN : Except Nat Nat → Nat
 | .error e => e
 | .ok _ => 0
def valE : Except Nat Nat → Nat
 | .error _ => 0
 | .ok n => n
structure EnOk (en : En) : Prop where
 q : en.q ≤ 64
 b : en.b ≤ 64
 f : ∀ s m, en.nm s = some m → m.f ≤ 64 ∧ m.z ≤ 6000000000000 ∧ (m.s = 1 ∨ m.s = 2 → m.f + m.z ≤ 64) ∧ m.d ≤ 32 ∧ m.s ≠ 0 ∧ m.s ≤ 5
 d : en.d ≤ 32
 r : ∀ s m, en.nm s = some m → m.s = 1 → m.f + m.z ≤ en.q
 l : ∀ s m, en.nm s = some m → ∀ t ∈ m.l, t.st = none
 z : ∀ s m, en.nm s = some m → m.s = 3 → 0 < m.z ∧ s.size ≤ 281474976710656
theorem el_lt {en : En} {a : Ar} {q : Nat} (hok : EnOk en) (h : elE en a 1 = .ok q) : q < en.q := by
 unfold elE at h
 split at h
 ·rename_i m hm
  split at h
  ·rename_i hs
   split at h
   ·cases h
   ·cases h
    have := hok.r _ m hm hs
    omega
  ·cases h
 ·cases h
def nq (g : Bool) (en : En) : Nat := if g = true then en.pr.length else en.q
def Nx (pr : En × Bool) (en1 : En) : Prop := (pr.2 = true → en1.pr = pr.1.pr) ∧ pr.1.q ≤ en1.q
theorem nx_refl (en : En) (g : Bool) : Nx (en, g) en := ⟨fun _ => rfl, Nat.le_refl _⟩
theorem Nx.nq {en en1 : En} {g : Bool} (h : Nx (en, g) en1) : nq g en ≤ nq g en1 := by
 unfold Go.Proofs.YtdjfpghgklkejaaGreatDoor.nq
 cases g with
 | true => rw [if_pos rfl, if_pos rfl, h.1 rfl]; exact Nat.le_refl _
 | false => exact h.2
theorem Nx.trans {en en1 en2 : En} {g : Bool} (h : Nx (en, g) en1) (h' : Nx (en1, g) en2) : Nx (en, g) en2 := ⟨fun hg => (h'.1 hg).trans (h.1 hg), Nat.le_trans h.2 h'.2⟩
set_option maxHeartbeats 4000000 in
theorem element_any {w0 W : World} {lb mb N : Nat} {hi : HG} {en : En} {pl : Int} (H : LK w0 W lb mb hi N en pl) (hok : EnOk en) (a : Ar) (hs : a.n.size ≤ maxLen) (s : Nat) (hs0 : s = 1 ∨ s = 2) :
  Calls Tryz.prog 139 #[.pointer (some ⟨lb, 0, none⟩), arV a, .int .i64 (s : Nat)] W fun e W' => e = .returned (.tuple #[.int .i64 (valE (elE en a s) : Nat), .int .i64 (errN (elE en a s) : Nat)]) ∧ Below W.heap.size W W' := by
 obtain ⟨x0, x1, x2, x3, ba, bk, bc, L', hL, hx0, hsome, hnone, hP⟩ := H.name a.n hs
 obtain ⟨pv, k1, _⟩ := H.box
 have hmb : mb < W.heap.size := Nat.lt_of_lt_of_le H.o4 H.o5
 have hres : (x0 ≠ s ∧ elE en a s = .error 110) ∨ (x0 = s ∧ (a.x < 0 ∨ (x2 : Int) ≤ a.x) ∧ elE en a s = .error 112) ∨ (x0 = s ∧ ¬ a.x < 0 ∧ ¬ (x2 : Int) ≤ a.x ∧ elE en a s = .ok (x1 + a.x.toNat) ∧ x1 ≤ 64 ∧ x2 ≤ 64) := by
  unfold elE
  cases e : en.nm a.n with
  | none =>
   have : x0 = 0 := by rw [hx0]; unfold srt; rw [e]; rfl
   exact .inl ⟨by omega, rfl⟩
  | some m =>
   have e0 : x0 = m.s := by rw [hx0]; unfold srt; rw [e]; rfl
   obtain ⟨e1, e2, _, _⟩ := hsome m e
   obtain ⟨f1, f2, f3, _⟩ := hok.f _ m e
   by_cases h1 : m.s = s
   ·have f4 := f3 (by omega)
    by_cases h2 : a.x < 0 ∨ (m.z : Int) ≤ a.x
    ·exact .inr (.inl ⟨by omega, by rw [e2]; exact h2, by simp [h1, h2]⟩)
    ·have h3 : ¬ a.x < 0 := fun h => h2 (.inl h)
     have h4 : ¬ (m.z : Int) ≤ a.x := fun h => h2 (.inr h)
     exact .inr (.inr ⟨by omega, h3, by rw [e2]; exact h4, by simp [h1, h3, h4, e1], by omega, by omega⟩)
   ·exact .inl ⟨by omega, by simp [h1]⟩
 have hsu : (x0 : Int) = (s : Int) ↔ x0 = s := by omega
 have c0 : W.cell? ⟨lb, 0, none⟩ = some (.map (some mb)) := k1.cell 0
 have l0 := k1.lt
 have hM := H
 clear hx0 hsome hnone hP H hok k1
 obtain ⟨an, ax⟩ := a
 simp only at *
 have KP : ∀ w', Below W.heap.size W w' → Below W.heap.size W w' ∧ w'.cell? ⟨lb, 0, none⟩ = some (.map (some mb)) ∧ lb < w'.heap.size ∧ (Instr.lookup 60 (.map (some mb)) (.string an) false).run Tryz.prog w' = .ok (.agg #[.int .i64 (x0 : Nat), .int .i64 (x1 : Nat), .int .i64 (x2 : Nat), .int .i64 (x3 : Nat), .slice ba bk bc]) w' := fun w' h => ⟨h, (h.cell (p := ⟨lb, 0, none⟩) l0).trans c0, Nat.lt_of_lt_of_le l0 h.size, hL w' (h.block _ hmb)⟩
 have HKP : Hid (∀ w', Below W.heap.size W w' → Below W.heap.size W w' ∧ w'.cell? ⟨lb, 0, none⟩ = some (.map (some mb)) ∧ lb < w'.heap.size ∧ (Instr.lookup 60 (.map (some mb)) (.string an) false).run Tryz.prog w' = .ok (.agg #[.int .i64 (x0 : Nat), .int .i64 (x1 : Nat), .int .i64 (x2 : Nat), .int .i64 (x3 : Nat), .slice ba bk bc]) w') := KP
 clear KP hM hL
 obtain ⟨X, hX⟩ : ∃ X, X = elE en ⟨an, ax⟩ s := ⟨_, rfl⟩
 rw [← hX] at hres ⊢
 clear hX
 go_enter Tryz.func139, Tryz.ntmps139
 go_upto_region 1 with (fail)
 obtain ⟨V, hV⟩ : ∃ V, V = W.alloc (.cells #[.string an, .int .i64 ax] 100) := ⟨_, rfl⟩
 have bV : BK V W.heap.size #[.string an, .int .i64 ax] 100 := by rw [hV]; exact bk_new _ _ _
 have hWV : Below W.heap.size W V := by rw [hV]; exact bal (Below.refl _ _) _
 have SK : Hid (∀ w', Below V.heap.size V w' → Below V.heap.size V w' ∧ (w'.cell? ⟨lb, 0, none⟩ = some (.map (some mb)) ∧ lb < w'.heap.size ∧ (Instr.lookup 60 (.map (some mb)) (.string an) false).run Tryz.prog w' = .ok (.agg #[.int .i64 (x0 : Nat), .int .i64 (x1 : Nat), .int .i64 (x2 : Nat), .int .i64 (x3 : Nat), .slice ba bk bc]) w') ∧ w'.cell? ⟨W.heap.size, 0, none⟩ = some (.string an) ∧ W.heap.size < w'.heap.size) := fun w' h => ⟨h, (HKP.out w' (btr hWV h)).2, (h.cell (p := ⟨W.heap.size, 0, none⟩) bV.lt).trans (bV.cell 0), Nat.lt_of_lt_of_le bV.lt h.size⟩
 rw [← hV]
 have HBV := hid bV
 have HWV := hid hWV
 clear hV c0 l0 bV hWV
 go_region_held3 (fun w' => Below V.heap.size V w' ∧ (w'.cell? ⟨lb, 0, none⟩ = some (.map (some mb)) ∧ lb < w'.heap.size ∧ (Instr.lookup 60 (.map (some mb)) (.string an) false).run Tryz.prog w' = .ok (.agg #[.int .i64 (x0 : Nat), .int .i64 (x1 : Nat), .int .i64 (x2 : Nat), .int .i64 (x3 : Nat), .slice ba bk bc]) w') ∧ w'.cell? ⟨W.heap.size, 0, none⟩ = some (.string an) ∧ W.heap.size < w'.heap.size)
  ((refine SK.out _ ?_; first | exact below_drew (Below.refl _ _) | exact below_drew (bal (Below.refl _ _) _) | exact bal (below_drew (Below.refl _ _)) _ | exact bal (And.left (by assumption)) _ | exact And.left (by assumption)))
  (fail)
 all_goals
  obtain ⟨V2, hV2⟩ : ∃ V2, V2 = (V.alloc (.cells #[.int .i64 (x0 : Nat), .int .i64 (x1 : Nat), .int .i64 (x2 : Nat), .int .i64 (x3 : Nat), .slice ba bk bc] 109)).drew := ⟨_, rfl⟩
  have b2 : BK V2 V.heap.size #[.int .i64 (x0 : Nat), .int .i64 (x1 : Nat), .int .i64 (x2 : Nat), .int .i64 (x3 : Nat), .slice ba bk bc] 109 := by rw [hV2]; exact (bk_new V _ _).drew
  have hB2 : Below V.heap.size V V2 := by rw [hV2]; exact below_drew (bal (Below.refl _ _) _)
  have b1 : BK V2 W.heap.size #[.string an, .int .i64 ax] 100 := (hB2.block _ HBV.out.lt).trans HBV.out
  rw [← hV2]
  have c1 := b1.cell
  have c2 := b2.cell
  have l1 := b1.lt
  have l2 := b2.lt
  have HB2 := hid (btr HWV.out hB2)
  clear hV2 b1 b2 hB2 HBV HWV SK
  rcases hres with ⟨h1, h2⟩ | ⟨h1, h2, h3⟩ | ⟨h1, h2, h3, h4, h5, h6⟩
  ·subst h2
   have n1 : ((x0 : Int) != (s : Int)) = true := bne_iff_ne.2 (fun h => h1 (hsu.1 h))
   clear h1 hsu
   go_wp2
   go_ret2
   exact ⟨rfl, HB2.out⟩
  ·subst h3
   have n1 : ((x0 : Int) != (s : Int)) = false := by rw [h1]; simp
   clear h1 hsu
   by_cases hx : ax < 0
   ·go_wp2
    go_ret2
    exact ⟨rfl, HB2.out⟩
   ·have hx2 : (x2 : Int) ≤ ax := by omega
    go_wp2
    go_ret2
    exact ⟨rfl, HB2.out⟩
  ·subst h4
   have n1 : ((x0 : Int) != (s : Int)) = false := by rw [h1]; simp
   obtain ⟨xn, rfl⟩ : ∃ xn : Nat, ax = (xn : Nat) := ⟨ax.toNat, by omega⟩
   clear h1 hsu
   go_wp2
   go_ret2
   exact ⟨by simp [valE, errN], HB2.out⟩
end Go.Proofs.YtdjfpghgklkejaaGreatDoor
namespace Go.Proofs.YtdjfpghgklkejaaGreatDoor
open Go.RowKit Go.Sort
set_option maxHeartbeats 4000000 in
theorem qubit_any {w0 W : World} {lb mb N : Nat} {hi : HG} {en : En} {pl : Int} (H : LK w0 W lb mb hi N en pl) (hok : EnOk en) (a : Ar) (hs : a.n.size ≤ maxLen) (sd : Sd) (hg : sd.g = true → en.pr ≠ []) :
  Calls Tryz.prog 140 #[.pointer (some ⟨lb, 0, none⟩), arV a, sdV sd] W fun e W' => e = .returned (.tuple #[.int .i64 (valE (quE en sd.g a) : Nat), .int .i64 (errN (quE en sd.g a) : Nat)]) ∧ Below W.heap.size W W' := by
 obtain ⟨p, n, g, m, v⟩ := sd
 simp only at *
 cases g with
 | false =>
  have e : quE en false a = elE en a 1 := rfl
  rw [e]
  clear e hg
  have F := fun w1 (h : Below W.heap.size W w1) => element_any (H.fr h) hok a hs 1 (.inl rfl)
  rw [show ((1 : Nat) : Int) = 1 from rfl] at F
  obtain ⟨an, ax⟩ := a
  simp only at *
  generalize elE en ⟨an, ax⟩ 1 = X at *
  clear H hok
  go_enter Tryz.func140, Tryz.ntmps140
  go_wp2_with (go_at_call 139; (with_reducible refine (F _ (bal (bal (Below.refl _ _) _) _)).mono ?_); rintro e w1 ⟨rfl, hB⟩)
  go_ret2
  exact ⟨rfl, btr (bal (bal (Below.refl _ _) _) _) hB⟩
 | true =>
  have hg := hg rfl
  obtain ⟨pv, k1, hP⟩ := H.box
  rcases hP with ⟨hn, _⟩ | ⟨pb, pn, f, z, rfl, hpb, hM, hf⟩
  ·exact absurd hn hg
  have c3 : W.cell? ⟨lb, 3, none⟩ = some (.map (some pb)) := k1.cell 3
  have l0 := k1.lt
  have hq : quE en true a = if a.x ≠ -1 then .error 112 else match idxN a.n en.pr with | some j => .ok j | none => .error 110 := by unfold quE; rw [if_pos rfl]; rfl
  have hres : (a.x ≠ -1 ∧ quE en true a = .error 112) ∨ (a.x = -1 ∧ f a.n = none ∧ quE en true a = .error 110) ∨ (a.x = -1 ∧ ∃ j : Nat, f a.n = some (.int .i64 (j : Nat)) ∧ quE en true a = .ok j) := by
   by_cases h1 : a.x = -1
   ·rw [hq, hf]
    cases e : idxN a.n en.pr with
    | none => exact .inr (.inl ⟨h1, rfl, by simp [h1]⟩)
    | some j => exact .inr (.inr ⟨h1, j, rfl, by simp [h1]⟩)
   ·exact .inl ⟨h1, by rw [hq]; simp [h1]⟩
  have HM := hid hM
  have HLT := hid hM.lt
  obtain ⟨an, ax⟩ := a
  simp only at *
  obtain ⟨X, hX⟩ : ∃ X, X = quE en true ⟨an, ax⟩ := ⟨_, rfl⟩
  rw [← hX] at hres ⊢
  have HLO : Hid (∀ w' : World, Below W.heap.size W w' → (Instr.lookup 62 (.map (some pb)) (.string an) true).run Tryz.prog w' = .ok (.tuple #[(f an).getD (.int .i64 0), .bool (f an).isSome]) w') := fun w' h => (HM.out.block (h.block _ HM.out.lt)).lookOk Tryz.underlying62 (zero3 w') hs
  clear hX hq hM hf H hok HM k1
  rcases hres with ⟨h1, rfl⟩ | ⟨h1, h2, rfl⟩ | ⟨h1, j, h2, rfl⟩
  ·have h1' : (ax != -1) = true := bne_iff_ne.2 h1
   clear h1 HLO
   go_enter Tryz.func140, Tryz.ntmps140
   go_wp2
   go_ret2
   exact ⟨rfl, bal (bal (Below.refl _ _) _) _⟩
  all_goals
   subst h1
   obtain ⟨RV, hRV⟩ : ∃ RV, RV = (f an).getD (.int .i64 0) := ⟨_, rfl⟩
   obtain ⟨RB, hRB⟩ : ∃ RB, RB = (f an).isSome := ⟨_, rfl⟩
   rw [← hRV, ← hRB] at HLO
   rw [h2] at hRV hRB
   simp only [Option.getD_none, Option.getD_some, Option.isSome_none, Option.isSome_some] at hRV hRB
   obtain ⟨V, hV⟩ : ∃ V, V = (W.alloc (.cells #[.string an, .int .i64 (-1)] 100)).alloc (.cells #[.int .i64 p, .int .i64 (n : Nat), .bool true, .int .u64 (m : Nat), .int .u64 (v : Nat)] 69) := ⟨_, rfl⟩
   have hB : Below W.heap.size W V := by rw [hV]; exact bal (bal (Below.refl _ _) _) _
   have y1 : V.cell? ⟨lb, 3, none⟩ = some (.map (some pb)) := (hB.cell (p := ⟨lb, 3, none⟩) l0).trans c3
   have y2 : lb < V.heap.size := Nat.lt_of_lt_of_le l0 hB.size
   have b1 : BK V W.heap.size #[.string an, .int .i64 (-1)] 100 := by rw [hV]; exact (bk_new W _ _).alloc _
   have b2 : BK V (W.heap.size + 1) #[.int .i64 p, .int .i64 (n : Nat), .bool true, .int .u64 (m : Nat), .int .u64 (v : Nat)] 69 := by rw [hV]; exact bk_at _ _ (by simp)
   have d1 := b1.cell
   have d2 := b2.cell
   have d3 := b2.lt
   have d4 := b1.lt
   clear b1 b2
   go_enter Tryz.func140, Tryz.ntmps140
   go_upto_region 1 with (fail)
   rw [← hV]
   have SK : Hid (∀ w', Below V.heap.size V w' → Below V.heap.size V w' ∧ (w'.cell? ⟨lb, 3, none⟩ = some (.map (some pb)) ∧ lb < w'.heap.size) ∧ (Instr.lookup 62 (.map (some pb)) (.string an) true).run Tryz.prog w' = .ok (.tuple #[RV, .bool RB]) w' ∧ w'.cell? ⟨W.heap.size, 0, none⟩ = some (.string an) ∧ W.heap.size < w'.heap.size) := fun w' h => ⟨h, ⟨(h.cell (p := ⟨lb, 3, none⟩) y2).trans y1, Nat.lt_of_lt_of_le y2 h.size⟩, HLO.out w' (btr hB h), (h.cell (p := ⟨W.heap.size, 0, none⟩) d4).trans (d1 0), Nat.lt_of_lt_of_le d4 h.size⟩
   have HB := hid hB
   clear hV c3 l0 HLO y1 y2 hB
   go_upto_region 5 with (fail)
   go_region_held3 (fun w' => Below V.heap.size V w' ∧ (w'.cell? ⟨lb, 3, none⟩ = some (.map (some pb)) ∧ lb < w'.heap.size) ∧ (Instr.lookup 62 (.map (some pb)) (.string an) true).run Tryz.prog w' = .ok (.tuple #[RV, .bool RB]) w' ∧ w'.cell? ⟨W.heap.size, 0, none⟩ = some (.string an) ∧ W.heap.size < w'.heap.size)
    ((refine SK.out _ ?_; first | exact below_drew (Below.refl _ _) | exact And.left (by assumption)))
    (fail)
   all_goals
    subst hRV hRB
    go_wp2
    go_ret2
    exact ⟨rfl, btr HB.out (below_drew (Below.refl _ _))⟩
end Go.Proofs.YtdjfpghgklkejaaGreatDoor
