/-
  Circuits: operations; operations in memory.
-/
import Derived.Test.YtinkdonaedoojaaK0
namespace Go.Proofs.Ytinkdonaedoojaa.CL
open Go.RowKit Go.Sort

/-- An operation; a circuit. -/
structure Oq where
  k : Int
  n : ByteArray
  qs : List Int
  b : Int
  f : Bool
  m : Int
  v : Int
structure Ci where
  q : Int
  b : Int
  ops : List Oq
/-- Its Mask and its Value are of 64 bits. -/
structure Fit (o : Oq) : Prop where
  m0 : 0 ≤ o.m
  m1 : o.m ≤ 18446744073709551615
  v0 : 0 ≤ o.v
  v1 : o.v ≤ 18446744073709551615
  l : o.qs.length ≤ 9223372036854775807
/-- Whole numbers that can be read. -/
structure RI (W : World) (b o : Nat) (l : List Int) : Prop where
  c : ∀ j (h : j < l.length), W.cell? ⟨b, o + j, none⟩ = some (.int .i64 l[j])
  lt : b < W.heap.size
theorem RI.below {W W' : World} {b o : Nat} {l : List Int} (h : RI W b o l) (hb : Below W.heap.size W W') : RI W' b o l :=
  ⟨fun j hj => (hb.cell (p := ⟨b, o + j, none⟩) h.lt).trans (h.c j hj), Nat.lt_of_lt_of_le h.lt hb.size⟩
/-- A slice of whole numbers: its address, its capacity. -/
structure QS (W : World) (a : Option Addr) (c : Nat) (l : List Int) : Prop where
  cap : l.length ≤ c
  at_ : ∀ k, k < l.length → ∃ b o, a = some ⟨b, o, none⟩ ∧ RI W b o l
theorem QS.below {W W' : World} {a : Option Addr} {c : Nat} {l : List Int} (h : QS W a c l) (hb : Below W.heap.size W W') : QS W' a c l :=
  ⟨h.cap, fun k hk => by obtain ⟨b, o, e, r⟩ := h.at_ k hk; exact ⟨b, o, e, r.below hb⟩⟩
/-- The value of an operation whose Qubits lie at a. -/
abbrev opv (o : Oq) (a : Option Addr) (c : Nat) : Value := .agg #[.int .i64 o.k, .string o.n, .slice a o.qs.length c, .int .i64 o.b, .bool o.f, .int .u64 o.m, .int .u64 o.v]
abbrev opc (o : Oq) (a : Option Addr) (c : Nat) : List Value := [.int .i64 o.k, .string o.n, .slice a o.qs.length c, .int .i64 o.b, .bool o.f, .int .u64 o.m, .int .u64 o.v]
/-- Operations that can be read; where their Qubits lie. -/
structure RO (W : World) (b o : Nat) (os : List Oq) (A : Nat → Option Addr) (C : Nat → Nat) : Prop where
  c0 : ∀ j (h : j < os.length), W.cell? ⟨b, o + j * 7, none⟩ = some (.int .i64 os[j].k)
  c1 : ∀ j (h : j < os.length), W.cell? ⟨b, o + j * 7 + 1, none⟩ = some (.string os[j].n)
  c2 : ∀ j (h : j < os.length), W.cell? ⟨b, o + j * 7 + 2, none⟩ = some (.slice (A j) os[j].qs.length (C j))
  c3 : ∀ j (h : j < os.length), W.cell? ⟨b, o + j * 7 + 3, none⟩ = some (.int .i64 os[j].b)
  c4 : ∀ j (h : j < os.length), W.cell? ⟨b, o + j * 7 + 4, none⟩ = some (.bool os[j].f)
  c5 : ∀ j (h : j < os.length), W.cell? ⟨b, o + j * 7 + 5, none⟩ = some (.int .u64 os[j].m)
  c6 : ∀ j (h : j < os.length), W.cell? ⟨b, o + j * 7 + 6, none⟩ = some (.int .u64 os[j].v)
  lt : b < W.heap.size
theorem RO.below {W W' : World} {b o : Nat} {os : List Oq} {A : Nat → Option Addr} {C : Nat → Nat} (h : RO W b o os A C) (hb : Below W.heap.size W W') : RO W' b o os A C :=
  ⟨fun j hj => (hb.cell (p := ⟨b, _, none⟩) h.lt).trans (h.c0 j hj), fun j hj => (hb.cell (p := ⟨b, _, none⟩) h.lt).trans (h.c1 j hj), fun j hj => (hb.cell (p := ⟨b, _, none⟩) h.lt).trans (h.c2 j hj), fun j hj => (hb.cell (p := ⟨b, _, none⟩) h.lt).trans (h.c3 j hj), fun j hj => (hb.cell (p := ⟨b, _, none⟩) h.lt).trans (h.c4 j hj), fun j hj => (hb.cell (p := ⟨b, _, none⟩) h.lt).trans (h.c5 j hj), fun j hj => (hb.cell (p := ⟨b, _, none⟩) h.lt).trans (h.c6 j hj), Nat.lt_of_lt_of_le h.lt hb.size⟩
/-- A slice of operations. -/
structure OS (W : World) (a : Option Addr) (c : Nat) (os : List Oq) (A : Nat → Option Addr) (C : Nat → Nat) : Prop where
  cap : os.length ≤ c
  qs : ∀ k (h : k < os.length), QS W (A k) (C k) os[k].qs
  at_ : ∀ k, k < os.length → ∃ b o, a = some ⟨b, o, none⟩ ∧ RO W b o os A C
  fit : ∀ k (h : k < os.length), Fit os[k]
  l : os.length ≤ 9223372036854775807
theorem OS.below {W W' : World} {a : Option Addr} {c : Nat} {os : List Oq} {A : Nat → Option Addr} {C : Nat → Nat} (h : OS W a c os A C) (hb : Below W.heap.size W W') : OS W' a c os A C :=
  ⟨h.cap, fun k hk => (h.qs k hk).below hb, fun k hk => by obtain ⟨b, o, e, r⟩ := h.at_ k hk; exact ⟨b, o, e, r.below hb⟩, h.fit, h.l⟩
/-- The value of a circuit whose Ops lie at a. -/
abbrev civ (c : Ci) (a : Option Addr) (k : Nat) : Value := .agg #[.int .i64 c.q, .int .i64 c.b, .slice a c.ops.length k]
abbrev cic (c : Ci) (a : Option Addr) (k : Nat) : Array Value := #[.int .i64 c.q, .int .i64 c.b, .slice a c.ops.length k]
/-- A circuit that is no circuit's answer. -/
abbrev noCi : Ci := ⟨0, 0, []⟩
end Go.Proofs.Ytinkdonaedoojaa.CL
