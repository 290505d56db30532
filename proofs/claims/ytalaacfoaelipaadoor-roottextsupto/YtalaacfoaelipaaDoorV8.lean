/-
  What the reference's numeral tells of a text that begins with a whole number's decimal.
-/
import Derived.Test.YtalaacfoaelipaaDoorV7
import Derived.Test.YtalaacfoaelipaaDoorV4
namespace Go.Proofs.YtalaacfoaelipaaDoor
open Go.RowKit Go.Sort

/-- The number of a row of digits. -/
def vl (l : List UInt8) : Nat := l.foldl (fun a b => a * 10 + (b.toNat - 48)) 0

def Ds (l : List UInt8) : Prop := ∀ b ∈ l, 48 ≤ b.toNat ∧ b.toNat ≤ 57

theorem vl_snoc (l : List UInt8) (b : UInt8) : vl (l ++ [b]) = vl l * 10 + (b.toNat - 48) := by
  unfold vl; rw [List.foldl_append]; rfl

theorem dig_nat (u : Nat) (h : u < 10) : (UInt8.ofNat (48 + u)).toNat = 48 + u := by
  have : (UInt8.ofNat (48 + u)).toNat = (48 + u) % 256 := by simp
  omega

theorem dec_all : ∀ (n u : Nat), u ≤ n → Ds (Lib.decDigits u) ∧ vl (Lib.decDigits u) = u ∧ ∀ k, 0 < k → u < 10 ^ k → (Lib.decDigits u).length ≤ k
  | n, u, hn => by
    by_cases h : u < 10
    · rw [dec_small u h]
      refine ⟨fun b hb => ?_, ?_, fun k hk _ => hk⟩
      · rw [List.mem_singleton] at hb
        subst hb
        rw [dig_nat u h]; omega
      · show 0 * 10 + ((UInt8.ofNat (48 + u)).toNat - 48) = u
        rw [dig_nat u h]; omega
    · obtain ⟨m, rfl⟩ : ∃ m, n = m + 1 := ⟨n - 1, by omega⟩
      obtain ⟨i1, i2, i3⟩ := dec_all m (u / 10) (by omega)
      rw [dec_big u h]
      have hd := dig_nat (u % 10) (by omega)
      refine ⟨fun b hb => ?_, ?_, fun k hk hu => ?_⟩
      · rcases List.mem_append.1 hb with hb | hb
        · exact i1 b hb
        · rw [List.mem_singleton] at hb
          subst hb
          rw [hd]; omega
      · rw [vl_snoc, i2, hd]; omega
      · obtain ⟨j, rfl⟩ : ∃ j, k = j + 1 := ⟨k - 1, by omega⟩
        have hj : 0 < j := by
          by_cases e : j = 0
          · subst e; simp at hu; omega
          · omega
        have := i3 j hj (by rw [Nat.pow_succ] at hu; omega)
        rw [List.length_append, List.length_singleton]
        omega

theorem dec_ne (u : Nat) : Lib.decDigits u ≠ [] := by
  rw [Lib.decDigits]; split <;> simp

theorem byt_list (l : List UInt8) (i : Nat) : byt ⟨l.toArray⟩ i = (l[i]?.map UInt8.toNat).getD 256 := by
  unfold byt
  by_cases h : i < l.length
  · have h' : i < (⟨l.toArray⟩ : ByteArray).size := h
    rw [dif_pos h', List.getElem?_eq_getElem h]
    rfl
  · have h' : ¬ i < (⟨l.toArray⟩ : ByteArray).size := h
    rw [dif_neg h', List.getElem?_eq_none (by omega)]
    rfl

theorem size_list (l : List UInt8) : (⟨l.toArray⟩ : ByteArray).size = l.length := rfl

theorem dvn_list (sg ds rest : List UInt8) : ∀ k, k ≤ ds.length → dvn ⟨(sg ++ (ds ++ rest)).toArray⟩ sg.length (sg.length + k) = vl (ds.take k)
  | 0, _ => by rw [Nat.add_zero, dvn_self]; rfl
  | k + 1, h => by
    rw [← Nat.add_assoc, dvn_succ _ _ _ (by omega), dvn_list sg ds rest k (by omega), List.take_succ_eq_append_getElem (by omega), vl_snoc]
    congr 2
    rw [byt_list, List.getElem?_append_right (by omega), Nat.add_sub_cancel_left, List.getElem?_append_left (by omega), List.getElem?_eq_getElem (by omega)]
    rfl

theorem digs_list (sg ds rest : List UInt8) (hd : Ds ds) : Digs ⟨(sg ++ (ds ++ rest)).toArray⟩ sg.length (sg.length + ds.length) := fun j h1 h2 => by
  have hj : j - sg.length < ds.length := by omega
  rw [byt_list, List.getElem?_append_right (by omega), List.getElem?_append_left hj, List.getElem?_eq_getElem hj]
  exact hd _ (List.getElem_mem hj)

/-- A sign or none, then digits, then what is no digit. -/
theorem num_text (sg ds rest : List UInt8) (hsg : sg = [] ∨ sg = [45] ∨ sg = [43]) (hd : Ds ds) (hne : ds ≠ []) (hl : ds.length ≤ 17)
    (hr : ∀ b, rest.head? = some b → ¬ (48 ≤ b.toNat ∧ b.toNat ≤ 57)) :
    NumR ⟨(sg ++ (ds ++ rest)).toArray⟩ (if sg = [45] then -(vl ds : Int) else vl ds) (sg.length + ds.length) (sg.length + ds.length) := by
  have hpos : 0 < ds.length := List.length_pos_iff.2 hne
  have hv := dvn_list sg ds rest ds.length (Nat.le_refl _)
  rw [List.take_length] at hv
  have hD := digs_list sg ds rest hd
  have hstop : (⟨(sg ++ (ds ++ rest)).toArray⟩ : ByteArray).size ≤ sg.length + ds.length ∨ ¬ (48 ≤ byt ⟨(sg ++ (ds ++ rest)).toArray⟩ (sg.length + ds.length) ∧ byt ⟨(sg ++ (ds ++ rest)).toArray⟩ (sg.length + ds.length) ≤ 57) ∨ sg.length + ds.length = sg.length + 17 := by
    cases rest with
    | nil => left; rw [size_list]; simp
    | cons b r =>
      right; left
      rw [byt_list, List.getElem?_append_right (by omega), Nat.add_sub_cancel_left, List.getElem?_append_right (by omega), Nat.sub_self]
      exact hr b rfl
  have hsz : sg.length + ds.length ≤ (⟨(sg ++ (ds ++ rest)).toArray⟩ : ByteArray).size := by rw [size_list]; simp
  rcases hsg with rfl | rfl | rfl
  · have hb := hD 0 (Nat.le_refl _) (by simpa using hpos)
    refine NumR.mkn (f := 0) ?_ ?_ ?_ hsz hD hstop ?_
    · unfold sgf; rw [if_neg (by omega)]
    · simpa using hpos
    · simpa using hl
    · rw [if_neg (by decide), if_neg (by omega)]
      exact congrArg _ hv.symm
  · have hb : byt ⟨([45] ++ (ds ++ rest)).toArray⟩ 0 = 45 := by rw [byt_list]; rfl
    refine NumR.mkn (f := 1) ?_ ?_ ?_ hsz hD hstop ?_
    · unfold sgf; rw [if_pos (.inl hb)]
    · simpa using hpos
    · simp only [List.length_singleton]; omega
    · rw [if_pos rfl, if_pos hb]
      exact congrArg (fun x : Nat => -(x : Int)) hv.symm
  · have hb : byt ⟨([43] ++ (ds ++ rest)).toArray⟩ 0 = 43 := by rw [byt_list]; rfl
    refine NumR.mkn (f := 1) ?_ ?_ ?_ hsz hD hstop ?_
    · unfold sgf; rw [if_pos (.inr hb)]
    · simpa using hpos
    · simp only [List.length_singleton]; omega
    · rw [if_neg (by decide), if_neg (by rw [hb]; decide)]
      exact congrArg _ hv.symm

theorem NumR.same_m {s : ByteArray} {v v' : Int} {n n' m m' : Nat} (h : NumR s v n m) (g : NumR s v' n' m') : ¬ m < m' := by
  intro hlt
  have hm := h.lo
  rcases h.stop with a | a | a
  · have := g.sz; omega
  · exact a (g.digs m hm hlt)
  · have := g.hi; omega

theorem NumR.unique {s : ByteArray} {v v' : Int} {n n' m m' : Nat} (h : NumR s v n m) (g : NumR s v' n' m') : v = v' ∧ n = n' := by
  have e : m = m' := by
    have := h.same_m g
    have := g.same_m h
    omega
  subst e
  by_cases c : m = sgf s
  · have a := h.none c
    have b := g.none c
    exact ⟨by rw [a.1, b.1], by rw [a.2, b.2]⟩
  · have hm := h.lo
    have a := h.some (by omega)
    have b := g.some (by omega)
    exact ⟨by rw [a.2, b.2], by rw [a.1, b.1]⟩

theorem numeral_is {s : ByteArray} {v : Int} {n m : Nat} (g : NumR s v n m) (hs : s.size ≤ 9223372036854775807) (w : World) :
    Calls Tryd.prog 54 #[.string s] w fun e w' => e = .returned (.tuple #[.int .i64 v, .int .i64 (n : Nat)]) ∧ w' = w := by
  refine (numeral_any s w hs).mono ?_
  rintro e w' ⟨⟨v', n', rfl, m', h⟩, rfl⟩
  obtain ⟨rfl, rfl⟩ := h.unique g
  exact ⟨rfl, rfl⟩

/-- numeral reads a whole number's decimal. -/
theorem num_itoa (p : Int) (rest : List UInt8) (hp : -9007199254740991 ≤ p ∧ p ≤ 9007199254740991) (hr : ∀ b, rest.head? = some b → ¬ (48 ≤ b.toNat ∧ b.toNat ≤ 57)) :
    NumR ⟨(Lib.itoa p ++ rest).toArray⟩ p (Lib.itoa p).length (Lib.itoa p).length := by
  obtain ⟨d1, d2, d3⟩ := dec_all p.natAbs p.natAbs (Nat.le_refl _)
  have hl := d3 17 (by decide) (by have : (10 : Nat) ^ 17 = 100000000000000000 := rfl; rw [this]; omega)
  by_cases h : p < 0
  · have e : Lib.itoa p = [45] ++ Lib.decDigits p.natAbs := by unfold Lib.itoa; rw [if_pos h]; rfl
    have := num_text [45] (Lib.decDigits p.natAbs) rest (.inr (.inl rfl)) d1 (dec_ne _) hl hr
    rw [if_pos rfl, d2, ← List.append_assoc, ← e, ← List.length_append, ← e, show -((p.natAbs : Nat) : Int) = p by omega] at this
    exact this
  · have e : Lib.itoa p = [] ++ Lib.decDigits p.natAbs := by unfold Lib.itoa; rw [if_neg h, List.nil_append, show p.toNat = p.natAbs by omega]
    have := num_text [] (Lib.decDigits p.natAbs) rest (.inl rfl) d1 (dec_ne _) hl hr
    rw [if_neg (by decide), d2, ← List.append_assoc, ← e, ← List.length_append, ← e, show ((p.natAbs : Nat) : Int) = p by omega] at this
    exact this

/-- .. and one behind a plus. -/
theorem num_plus (q : Int) (rest : List UInt8) (hq : 0 ≤ q ∧ q ≤ 9007199254740991) (hr : ∀ b, rest.head? = some b → ¬ (48 ≤ b.toNat ∧ b.toNat ≤ 57)) :
    NumR ⟨(43 :: (Lib.itoa q ++ rest)).toArray⟩ q (1 + (Lib.itoa q).length) (1 + (Lib.itoa q).length) := by
  obtain ⟨d1, d2, d3⟩ := dec_all q.natAbs q.natAbs (Nat.le_refl _)
  have hl := d3 17 (by decide) (by have : (10 : Nat) ^ 17 = 100000000000000000 := rfl; rw [this]; omega)
  have e : Lib.itoa q = Lib.decDigits q.natAbs := by unfold Lib.itoa; rw [if_neg (by omega), show q.toNat = q.natAbs by omega]
  have := num_text [43] (Lib.decDigits q.natAbs) rest (.inr (.inr rfl)) d1 (dec_ne _) hl hr
  rw [if_neg (by decide), d2, ← e, show ((q.natAbs : Nat) : Int) = q by omega] at this
  exact this

end Go.Proofs.YtalaacfoaelipaaDoor
