/-
  The reference's statement, whatever its kind; rows are no more than tokens.
-/
import Derived.Test.YtiepbfeliehjnaaDoorS1
import Derived.Test.YtiepbfeliehjnaaDoorR8qubits
import Derived.Test.YtiepbfeliehjnaaDoorR8bits
import Derived.Test.YtiepbfeliehjnaaDoorR8gate
import Derived.Test.YtiepbfeliehjnaaDoorR8repeat
import Derived.Test.YtiepbfeliehjnaaDoorR8if
import Derived.Test.YtiepbfeliehjnaaDoorR8measure
import Derived.Test.YtiepbfeliehjnaaDoorR8reset
import Derived.Test.YtiepbfeliehjnaaDoorR8use
namespace Go.Proofs.YtiepbfeliehjnaaDoor
open Go.RowKit Go.Sort

theorem rstmt_any (n : Int) (rec : Nat → List Tk → Except Fa (List Rw × List Tk)) (w W : World) (rb : Nat) (ts : Value) (l : List Tk) (i : Nat) (v : Value) (rs : List Rw) (d : Nat) (H : RV w W rb ts l n i 0 0 v) (hO : OR W w.heap.size v rs) (hcnt : rs.length ≤ i) (N : Nat) (hBD : BodyR n rec N) (hN : (l.drop i).length ≤ N) (hd : d ≤ 32) :
    Calls Tryd.prog 19 #[.pointer (some ⟨rb, 0, none⟩), .int .i64 d] W (SD w W rb ts l n v rs (stmtP n rec d (l.drop i))) := by
  by_cases hi : i < l.length
  · by_cases hk : l[i].k = 1
    · rcases shp_cases l[i].t with ⟨e, _, _⟩ | ⟨e, _, _⟩ | ⟨e, _, _⟩ | ⟨e, _, _⟩ | ⟨e, _, _⟩ | ⟨e, _, _⟩ | ⟨e, _, _⟩ | ⟨_, _, h⟩ | ⟨_, _, _, _, _, _, _, _, _, h⟩
      · exact rst_qubits n rec w W rb ts l i v rs d H hO hcnt hi hk e
      · exact rst_bits n rec w W rb ts l i v rs d H hO hcnt hi hk e
      · exact rst_gate n rec w W rb ts l i v rs d H hO hcnt hi hk e N hBD hN hd
      · exact rst_repeat n rec w W rb ts l i v rs d H hO hcnt hi hk e N hBD hN hd
      · exact rst_if n rec w W rb ts l i v rs d H hO hcnt hi hk e N hBD hN hd
      · exact rst_measure n rec w W rb ts l i v rs d H hO hcnt hi hk e
      · exact rst_reset n rec w W rb ts l i v rs d H hO hcnt hi hk e
      · exact rst_use n rec w W rb ts l i v rs d H hO hcnt hi hk h
      · exact rst_use n rec w W rb ts l i v rs d H hO hcnt hi hk h
    · exact rst_other n rec w W rb ts l i v rs d H hO hcnt (fun _ => hk)
  · exact rst_other n rec w W rb ts l i v rs d H hO hcnt (fun h => absurd h hi)
end Go.Proofs.YtiepbfeliehjnaaDoor
