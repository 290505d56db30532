/-
  Put together of: LN1 LA1 LA2 LP0 LShelf.
-/
import Derived.Test.YtdjfpghgklkejaaGreatDoorXA
import Derived.WalkKit
import Derived.BigQuiet
import Derived.Deep.QuietTactic
import Derived.Deep.RegionHeld3
import Derived.Lib.QuietBelow
import Derived.Deep.CutRange
import Derived.Maps.AppendAt
import Derived.OwnWalk
import Derived.Lib.SmallJoins
import Derived.Shelf.LaysM
import Derived.Shelf.Strconv.Itoa3
import Derived.Shelf.Strconv.Clone
import Derived.Shelf.LaysC
import Derived.Shelf.Strconv.ParseIntPublic10
import Derived.Shelf.Strconv.ErrVarParseInt
import Derived.Test.YtdjfpghgklkejaaGreatDoorProg
namespace Go.Proofs.YtdjfpghgklkejaaGreatDoor
abbrev Fa:=Int × Nat
structure Ar where
 n:ByteArray
 x:Int
structure Rw where
 kind:ByteArray
 name:ByteArray
 args:List Ar
 num:Int
 rows:Int
 place:Int
abbrev wQubits:ByteArray:=⟨#[113,117,98,105,116,115]⟩
abbrev wBits:ByteArray:=⟨#[98,105,116,115]⟩
abbrev wGate:ByteArray:=⟨#[103,97,116,101]⟩
abbrev wRepeat:ByteArray:=⟨#[114,101,112,101,97,116]⟩
abbrev wIf:ByteArray:=⟨#[105,102]⟩
abbrev wMeasure:ByteArray:=⟨#[109,101,97,115,117,114,101]⟩
abbrev wReset:ByteArray:=⟨#[114,101,115,101,116]⟩
abbrev wUse:ByteArray:=⟨#[117,115,101]⟩
abbrev wSemi:ByteArray:=⟨#[59]⟩
abbrev wOpen:ByteArray:=⟨#[123]⟩
abbrev wShut:ByteArray:=⟨#[125]⟩
abbrev wLeft:ByteArray:=⟨#[91]⟩
abbrev wRight:ByteArray:=⟨#[93]⟩
structure Sh where
 name:Bool
 args:Int
 idx:Bool
 num:Bool
 body:Bool
abbrev shDecl:Sh:=⟨true,0,false,true,false⟩
abbrev shGate:Sh:=⟨true,-1,false,false,true⟩
abbrev shRepeat:Sh:=⟨false,0,false,true,true⟩
abbrev shIf:Sh:=⟨true,0,false,true,true⟩
abbrev shMeasure:Sh:=⟨false,2,true,false,false⟩
abbrev shReset:Sh:=⟨false,1,true,false,false⟩
abbrev shUse:Sh:=⟨true,-1,true,false,false⟩
abbrev shNone:Sh:=⟨false,0,false,false,false⟩
def shp (k:ByteArray):Option Sh:=
 if k=wQubits then some shDecl
 else if k=wBits then some shDecl
 else if k=wGate then some shGate
 else if k=wRepeat then some shRepeat
 else if k=wIf then some shIf
 else if k=wMeasure then some shMeasure
 else if k=wReset then some shReset
 else if k=wUse then some shUse
 else none
def ownB (k:ByteArray):Bool:=decide (k=wQubits) || decide (k=wBits) || decide (k=wGate) || decide (k=wRepeat) || decide (k=wIf) || decide (k=wMeasure) || decide (k=wReset)
theorem shp_cases (k:ByteArray):(k=wQubits∧shp k=some shDecl∧ownB k=true)∨(k=wBits∧shp k=some shDecl∧ownB k=true)∨(k=wGate∧shp k=some shGate∧ownB k=true)∨(k=wRepeat∧shp k=some shRepeat∧ownB k=true)∨(k=wIf∧shp k=some shIf∧ownB k=true) ∨
  (k=wMeasure∧shp k=some shMeasure∧ownB k=true)∨(k=wReset∧shp k=some shReset∧ownB k=true)∨(k=wUse∧shp k=some shUse∧ownB k=false) ∨
  (k≠wQubits∧k≠wBits∧k≠wGate∧k≠wRepeat∧k≠wIf∧k≠wMeasure∧k≠wReset∧k≠wUse∧shp k=none∧ownB k=false):=by
 by_cases h1:k=wQubits
 ·exact .inl ⟨h1,by unfold shp;rw [if_pos h1],by unfold ownB;rw [decide_eq_true h1];simp⟩
 by_cases h2:k=wBits
 ·exact .inr (.inl ⟨h2,by unfold shp;rw [if_neg h1,if_pos h2],by unfold ownB;rw [decide_eq_true h2];simp⟩)
 by_cases h3:k=wGate
 ·exact .inr (.inr (.inl ⟨h3,by unfold shp;rw [if_neg h1,if_neg h2,if_pos h3],by unfold ownB;rw [decide_eq_true h3];simp⟩))
 by_cases h4:k=wRepeat
 ·exact .inr (.inr (.inr (.inl ⟨h4,by unfold shp;rw [if_neg h1,if_neg h2,if_neg h3,if_pos h4],by unfold ownB;rw [decide_eq_true h4];simp⟩)))
 by_cases h5:k=wIf
 ·exact .inr (.inr (.inr (.inr (.inl ⟨h5,by unfold shp;rw [if_neg h1,if_neg h2,if_neg h3,if_neg h4,if_pos h5],by unfold ownB;rw [decide_eq_true h5];simp⟩))))
 by_cases h6:k=wMeasure
 ·exact .inr (.inr (.inr (.inr (.inr (.inl ⟨h6,by unfold shp;rw [if_neg h1,if_neg h2,if_neg h3,if_neg h4,if_neg h5,if_pos h6],by unfold ownB;rw [decide_eq_true h6];simp⟩)))))
 by_cases h7:k=wReset
 ·exact .inr (.inr (.inr (.inr (.inr (.inr (.inl ⟨h7,by unfold shp;rw [if_neg h1,if_neg h2,if_neg h3,if_neg h4,if_neg h5,if_neg h6,if_pos h7],by unfold ownB;rw [decide_eq_true h7];simp⟩))))))
 by_cases h8:k=wUse
 ·exact .inr (.inr (.inr (.inr (.inr (.inr (.inr (.inl ⟨h8,by unfold shp;rw [if_neg h1,if_neg h2,if_neg h3,if_neg h4,if_neg h5,if_neg h6,if_neg h7,if_pos h8],by unfold ownB;rw [decide_eq_false h1,decide_eq_false h2,decide_eq_false h3,decide_eq_false h4,decide_eq_false h5,decide_eq_false h6,decide_eq_false h7];rfl⟩)))))))
 refine .inr (.inr (.inr (.inr (.inr (.inr (.inr (.inr ⟨h1,h2,h3,h4,h5,h6,h7,h8,?_,?_⟩)))))))
 ·unfold shp
  rw [if_neg h1,if_neg h2,if_neg h3,if_neg h4,if_neg h5,if_neg h6,if_neg h7,if_neg h8]
 ·unfold ownB
  rw [decide_eq_false h1,decide_eq_false h2,decide_eq_false h3,decide_eq_false h4,decide_eq_false h5,decide_eq_false h6,decide_eq_false h7]
  rfl
def lastS (sh:Sh):ByteArray:=if sh.body then wOpen else wSemi
def seesB (c:ByteArray):List Tk→Bool
 | []=>false
 | t::_=>decide (t.t=c)
def takeP (n:Int):List Tk→Except Fa (Tk × List Tk)
 | []=>.error (n,101)
 | t::r=>.ok (t,r)
def signP (n:Int) (c:ByteArray):List Tk→Except Fa (Tk × List Tk)
 | []=>.error (n,101)
 | t::r=>if t.t=c then .ok (t,r) else .error (t.p,100)
def plnB (t:Tk):Bool:=decide (t.k=1)&&!ownB t.t
def nameP (n:Int):List Tk→Except Fa (ByteArray × List Tk)
 | []=>.error (n,101)
 | t::r=>if plnB t=true then .ok (t.t,r) else .error (t.p,100)
def valL (l:List UInt8):Nat:=l.foldl (fun a c=>a*10+(c.toNat-48)) 0
def val (s:ByteArray):Nat:=valL s.data.toList
def numP (n:Int):List Tk→Except Fa (Nat × List Tk)
 | []=>.error (n,101)
 | t::r=>if t.k=2 then (if val t.t≤9007199254740991 then .ok (val t.t,r) else .error (t.p,1)) else .error (t.p,100)
def argP (n:Int) (ix:Bool) (l:List Tk):Except Fa (Ar × List Tk):=
 match nameP n l with
 | .error e=>.error e
 | .ok (a,r)=>
  if ix=true∧seesB wLeft r=true then
   match numP n r.tail with
   | .error e=>.error e
   | .ok (x,r2)=>
    match signP n wRight r2 with
    | .error e=>.error e
    | .ok (_,r3)=>.ok (⟨a,x⟩,r3)
  else .ok (⟨a,-1⟩,r)
def moreB (sh:Sh) (k:Nat) (l:List Tk):Bool:=decide ((k:Int)<sh.args) || (decide (sh.args= -1)&&!seesB (lastS sh) l)
def argsP (n:Int) (sh:Sh):Nat→List Ar→List Tk→Except Fa (List Ar × List Tk)
 | 0,acc,l=>.ok (acc,l)
 | f+1,acc,l=>if moreB sh acc.length l=true then (match argP n sh.idx l with | .error e=>.error e | .ok (a,r)=>argsP n sh f (acc++[a]) r) else .ok (acc,l)
def optName (n:Int) (b:Bool) (l:List Tk):Except Fa (ByteArray × List Tk):=if b=true then nameP n l else .ok (⟨#[]⟩,l)
def optNum (n:Int) (b:Bool) (l:List Tk):Except Fa (Nat × List Tk):=if b=true then numP n l else .ok (0,l)
def kindK (t:Tk):ByteArray:=if ownB t.t=true then t.t else wUse
def restK (t:Tk) (r:List Tk):List Tk:=if ownB t.t=true then r else t::r
def shK (t:Tk):Sh:=(shp (kindK t)).getD shNone
def midP (n:Int) (sh:Sh) (l:List Tk):Except Fa ((ByteArray × List Ar × Nat × Int) × List Tk):=
 match optName n sh.name l with
 | .error e=>.error e
 | .ok (nm,l1)=>
  match argsP n sh (l1.length+1) [] l1 with
  | .error e=>.error e
  | .ok (aa,l2)=>
   match optNum n sh.num l2 with
   | .error e=>.error e
   | .ok (x,l3)=>
    match signP n (lastS sh) l3 with
    | .error e=>.error e
    | .ok (u,l4)=>.ok ((nm,aa,x,u.p),l4)
def stmtP (n:Int) (rec:Nat→List Tk→Except Fa (List Rw × List Tk)) (d:Nat):List Tk→Except Fa (List Rw × List Tk)
 | []=>.error (n,101)
 | t::r=>
  match midP n (shK t) (restK t r) with
  | .error e=>.error e
  | .ok ((nm,aa,x,p),l4)=>
   if (shK t).body=true then
    (if 32≤d then .error (p,102)
    else match rec (d+1) l4 with
     | .error e=>.error e
     | .ok (rs,l5)=>.ok (⟨kindK t,nm,aa,x,rs.length,t.p⟩::rs,l5.tail))
   else .ok ([⟨kindK t,nm,aa,x,0,t.p⟩],l4)
def stmtsP (n:Int):Nat→Nat→List Tk→Except Fa (List Rw × List Tk)
 | 0,_,_=>.error (0,0)
 | f+1,d,l=>
  if seesB wShut l=true then .ok ([],l)
  else match stmtP n (stmtsP n f) d l with
   | .error e=>.error e
   | .ok (rs,r)=>
    match stmtsP n f d r with
    | .error e=>.error e
    | .ok (rs2,r2)=>.ok (rs++rs2,r2)
def progP (n:Int):Nat→List Tk→Except Fa (List Rw)
 | 0,_=>.error (0,0)
 | _+1,[]=>.ok []
 | f+1,t::l=>
  match stmtP n (stmtsP n f) 0 (t::l) with
  | .error e=>.error e
  | .ok (rs,r)=>
   match progP n f r with
   | .error e=>.error e
   | .ok rs2=>.ok (rs++rs2)
def POut (s:ByteArray) (rs:List Rw) (a:Int) (e:Nat):Prop:=
 ∃l a0 e0,Out s l a0 e0∧((e0≠0∧rs=[]∧a=(a0:Int)∧e=e0) ∨
  (e0=0∧((∃p x,progP s.size (l.length+1) l=.error (p,x)∧rs=[]∧a=p∧e=x)∨(progP s.size (l.length+1) l=.ok rs∧a=0∧e=0))))
theorem signP_len {n:Int} {c:ByteArray} {l r:List Tk} {t:Tk} (h:signP n c l=.ok (t,r)):l=t::r∧t.t=c:=by
 cases l with
 | nil=>cases h
 | cons u v=>
  simp only [signP] at h
  by_cases e:u.t=c
  ·rw [if_pos e] at h;cases h;exact ⟨rfl,e⟩
  ·rw [if_neg e] at h;cases h
theorem nameP_len {n:Int} {l r:List Tk} {a:ByteArray} (h:nameP n l=.ok (a,r)):∃t,l=t::r∧t.t=a∧plnB t=true:=by
 cases l with
 | nil=>cases h
 | cons u v=>
  simp only [nameP] at h
  by_cases e:plnB u=true
  ·rw [if_pos e] at h;cases h;exact ⟨u,rfl,rfl,e⟩
  ·rw [if_neg e] at h;cases h
theorem numP_len {n:Int} {l r:List Tk} {x:Nat} (h:numP n l=.ok (x,r)):∃t,l=t::r∧t.k=2∧val t.t=x∧x≤9007199254740991:=by
 cases l with
 | nil=>cases h
 | cons u v=>
  simp only [numP] at h
  by_cases e:u.k=2
  ·rw [if_pos e] at h
   by_cases e2:val u.t≤9007199254740991
   ·rw [if_pos e2] at h;cases h;exact ⟨u,rfl,e,rfl,e2⟩
   ·rw [if_neg e2] at h;cases h
  ·rw [if_neg e] at h;cases h
theorem seesB_cons {c:ByteArray} {l:List Tk} (h:seesB c l=true):∃t r,l=t::r∧t.t=c:=by
 cases l with
 | nil=>cases h
 | cons t r=>exact ⟨t,r,rfl,of_decide_eq_true h⟩
theorem argP_len {n:Int} {ix:Bool} {l r:List Tk} {a:Ar} (h:argP n ix l=.ok (a,r)):r.length<l.length:=by
 unfold argP at h
 cases hn:nameP n l with
 | error e=>rw [hn] at h;cases h
 | ok y=>
  obtain ⟨b,r1⟩:=y
  obtain ⟨t,rfl,_,_⟩:=nameP_len hn
  rw [hn] at h
  simp only at h
  by_cases hc:ix=true∧seesB wLeft r1=true
  ·rw [if_pos hc] at h
   obtain ⟨u,r2,rfl,_⟩:=seesB_cons hc.2
   simp only [List.tail_cons] at h
   cases hx:numP n r2 with
   | error e=>rw [hx] at h;cases h
   | ok y=>
    obtain ⟨x,r3⟩:=y
    obtain ⟨v,rfl,_⟩:=numP_len hx
    rw [hx] at h
    simp only at h
    cases hs:signP n wRight r3 with
    | error e=>rw [hs] at h;cases h
    | ok y=>
     obtain ⟨z,r4⟩:=y
     obtain ⟨rfl,_⟩:=signP_len hs
     rw [hs] at h
     cases h
     simp only [List.length_cons]
     omega
  ·rw [if_neg hc] at h
   cases h
   simp only [List.length_cons]
   omega
theorem argsP_len {n:Int} {sh:Sh}:∀(f:Nat) {acc aa:List Ar} {l r:List Tk},argsP n sh f acc l=.ok (aa,r)→r.length≤l.length:=by
 intro f
 induction f with
 | zero=>intro acc aa l r h;cases h;exact Nat.le_refl _
 | succ f ih=>
  intro acc aa l r h
  unfold argsP at h
  by_cases hm:moreB sh acc.length l=true
  ·rw [if_pos hm] at h
   cases ha:argP n sh.idx l with
   | error e=>rw [ha] at h;cases h
   | ok y=>
    obtain ⟨a,r1⟩:=y
    rw [ha] at h
    have:=argP_len ha
    have:=ih h
    omega
  ·rw [if_neg hm] at h;cases h;exact Nat.le_refl _
theorem optName_len {n:Int} {b:Bool} {l r:List Tk} {a:ByteArray} (h:optName n b l=.ok (a,r)):r.length≤l.length:=by
 unfold optName at h
 by_cases e:b=true
 ·rw [if_pos e] at h
  obtain ⟨t,rfl,_⟩:=nameP_len h
  simp
 ·rw [if_neg e] at h;cases h;exact Nat.le_refl _
theorem optNum_len {n:Int} {b:Bool} {l r:List Tk} {x:Nat} (h:optNum n b l=.ok (x,r)):r.length≤l.length:=by
 unfold optNum at h
 by_cases e:b=true
 ·rw [if_pos e] at h
  obtain ⟨t,rfl,_⟩:=numP_len h
  simp
 ·rw [if_neg e] at h;cases h;exact Nat.le_refl _
theorem midP_len {n:Int} {sh:Sh} {l r:List Tk} {y:ByteArray × List Ar × Nat × Int} (h:midP n sh l=.ok (y,r)):r.length<l.length:=by
 unfold midP at h
 cases h1:optName n sh.name l with
 | error e=>rw [h1] at h;cases h
 | ok y1=>
  obtain ⟨nm,l1⟩:=y1
  rw [h1] at h
  simp only at h
  have g1:=optName_len h1
  cases h2:argsP n sh (l1.length+1) [] l1 with
  | error e=>rw [h2] at h;cases h
  | ok y2=>
   obtain ⟨aa,l2⟩:=y2
   rw [h2] at h
   simp only at h
   have g2:=argsP_len _ h2
   cases h3:optNum n sh.num l2 with
   | error e=>rw [h3] at h;cases h
   | ok y3=>
    obtain ⟨x,l3⟩:=y3
    rw [h3] at h
    simp only at h
    have g3:=optNum_len h3
    cases h4:signP n (lastS sh) l3 with
    | error e=>rw [h4] at h;cases h
    | ok y4=>
     obtain ⟨u,l4⟩:=y4
     rw [h4] at h
     cases h
     obtain ⟨rfl,_⟩:=signP_len h4
     simp only [List.length_cons] at g3
     omega
theorem restK_len (t:Tk) (r:List Tk):(restK t r).length≤r.length+1:=by
 unfold restK
 by_cases h:ownB t.t=true
 ·rw [if_pos h];omega
 ·rw [if_neg h];simp
end Go.Proofs.YtdjfpghgklkejaaGreatDoor
namespace Go.Proofs.YtdjfpghgklkejaaGreatDoor
open Go.RowKit Go.Sort
theorem ret_b {a b:Bool} (h:a=true↔b=true):Ending.returned (.bool a)=.returned (.bool b):=by rw [Bool.eq_iff_iff.2 h]
theorem letter_any (c:Nat) (w:World):Calls Tryz.prog 94 #[.int .u8 c] w fun e w'=>e=.returned (.bool (isL c))∧w'=w:=by
 go_enter Tryz.func94,Tryz.ntmps94
 go_wp2
 all_goals
  go_ret
  refine ⟨ret_b ?_,rfl⟩
  rw [isL_p]
  simp
  try omega
theorem letter2_any (c:Nat) (w:World):Calls Tryz.prog 106 #[.int .u8 c] w fun e w'=>e=.returned (.bool (isL c))∧w'=w:=by
 go_enter Tryz.func106,Tryz.ntmps106
 go_wp2
 all_goals
  go_ret
  refine ⟨ret_b ?_,rfl⟩
  rw [isL_p]
  simp
  try omega
theorem digit_any (c:Nat) (w:World):Calls Tryz.prog 95 #[.int .u8 c] w fun e w'=>e=.returned (.bool (isD c))∧w'=w:=by
 go_enter Tryz.func95,Tryz.ntmps95
 go_wp2
 all_goals
  go_ret
  refine ⟨ret_b ?_,rfl⟩
  rw [isD_p]
  simp
  try omega
theorem digit2_any (c:Nat) (w:World):Calls Tryz.prog 108 #[.int .u8 c] w fun e w'=>e=.returned (.bool (isD c))∧w'=w:=by
 go_enter Tryz.func108,Tryz.ntmps108
 go_wp2
 all_goals
  go_ret
  refine ⟨ret_b ?_,rfl⟩
  rw [isD_p]
  simp
  try omega
theorem blank2_any (c:Nat) (w:World):Calls Tryz.prog 105 #[.int .u8 c] w fun e w'=>e=.returned (.bool (isB c))∧w'=w:=by
 go_enter Tryz.func105,Tryz.ntmps105
 go_wp2
 all_goals
  go_ret
  refine ⟨ret_b ?_,rfl⟩
  rw [isB_p]
  simp
  try omega
theorem sign2_any (c:Nat) (w:World):Calls Tryz.prog 110 #[.int .u8 c] w fun e w'=>e=.returned (.bool (isS c))∧w'=w:=by
 have e:=isS_p (c:=c)
 by_cases h1:c=123
 ·subst h1;go_enter Tryz.func110,Tryz.ntmps110;go_wp2;go_ret;exact ⟨rfl,rfl⟩
 by_cases h2:c=125
 ·subst h2;go_enter Tryz.func110,Tryz.ntmps110;go_wp2;go_ret;exact ⟨rfl,rfl⟩
 by_cases h3:c=91
 ·subst h3;go_enter Tryz.func110,Tryz.ntmps110;go_wp2;go_ret;exact ⟨rfl,rfl⟩
 by_cases h4:c=93
 ·subst h4;go_enter Tryz.func110,Tryz.ntmps110;go_wp2;go_ret;exact ⟨rfl,rfl⟩
 by_cases h5:c=59
 ·subst h5;go_enter Tryz.func110,Tryz.ntmps110;go_wp2;go_ret;exact ⟨rfl,rfl⟩
 by_cases h6:c=44
 ·subst h6;go_enter Tryz.func110,Tryz.ntmps110;go_wp2;go_ret;exact ⟨rfl,rfl⟩
 have e':isS c=false:=fls (by rw [e];omega)
 rw [e']
 have k1:((c:Int)==123)=false:=by simp;omega
 have k2:((c:Int)==125)=false:=by simp;omega
 have k3:((c:Int)==91)=false:=by simp;omega
 have k4:((c:Int)==93)=false:=by simp;omega
 have k5:((c:Int)==59)=false:=by simp;omega
 have k6:((c:Int)==44)=false:=by simp;omega
 clear e e' h1 h2 h3 h4 h5 h6
 go_enter Tryz.func110,Tryz.ntmps110
 go_wp2
 go_ret
 exact ⟨rfl,rfl⟩
end Go.Proofs.YtdjfpghgklkejaaGreatDoor
namespace Go.Proofs.YtdjfpghgklkejaaGreatDoor
open Go.RowKit Go.Sort
theorem isN_f {c:Nat} (h:isN c=false):isL c=false∧isD c=false:=by simpa [isN] using h
theorem nameEnd_any (s:ByteArray) (i j:Nat) (w:World) (hs:s.size≤9223372036854775807) (h:End isN s i j) :
  Calls Tryz.prog 107 #[.string s,.int .i64 i] w fun e w'=>e=.returned (.int .i64 j)∧w'=w:=by
 have HE:Hid (End isN s i j):=h
 have hij:=h.le
 have hjs:=h.sz
 clear h
 go_enter Tryz.func107,Tryz.ntmps107
 go_upto_region 1 with (fail)
 go_loop [1] (fun v=>∃k:Nat,i≤k∧k≤j∧v=.int .i64 k) (fun v=>j-(intOf v).toNat)
 case atStart=>exact ⟨i,by omega,by omega,rfl⟩
 case round=>
  obtain ⟨k,hik,hk,rfl⟩:=hrel
  by_cases hlt:k<j
  ·have hks:k<s.size:=by omega
   have hb:=HE.out.all k hik hlt
   rw [cb_at hks] at hb
   have LA:=fun w=>letter2_any s[k].toNat w
   have DA:=fun w=>digit2_any s[k].toNat w
   cases hL:isL s[k].toNat with
   | true=>
    rw [hL] at LA
    clear hb DA hL
    go_wp2_with (go_at_call 106;(with_reducible refine (LA _).mono ?_);rintro e w1 ⟨rfl,rfl⟩)
    go_round
    case rel=>exact ⟨k+1,by omega,by omega,by go_num⟩
    case measure=>simp [intOf];omega
   | false=>
    have hD:isD s[k].toNat=true:=by
     rcases isN_p.1 hb with g | g
     ·rw [hL] at g;exact absurd g (by decide)
     ·exact g
    rw [hL] at LA
    rw [hD] at DA
    clear hb hL hD
    go_wp2_with (first | (go_at_call 106;(with_reducible refine (LA _).mono ?_);rintro e w1 ⟨rfl,rfl⟩) | (go_at_call 108;(with_reducible refine (DA _).mono ?_);rintro e w1 ⟨rfl,rfl⟩))
    go_round
    case rel=>exact ⟨k+1,by omega,by omega,by go_num⟩
    case measure=>simp [intOf];omega
  ·obtain rfl:k=j:=by omega
   by_cases hks:k<s.size
   ·obtain ⟨hL,hD⟩:=isN_f HE.out.no
    rw [cb_at hks] at hL hD
    have LA:=fun w=>letter2_any s[k].toNat w
    have DA:=fun w=>digit2_any s[k].toNat w
    rw [hL] at LA
    rw [hD] at DA
    clear hL hD
    go_wp2_with (first | (go_at_call 106;(with_reducible refine (LA _).mono ?_);rintro e w1 ⟨rfl,rfl⟩) | (go_at_call 108;(with_reducible refine (DA _).mono ?_);rintro e w1 ⟨rfl,rfl⟩))
    go_ret
    exact ⟨rfl,rfl⟩
   ·go_wp2
    go_ret
    exact ⟨rfl,rfl⟩
theorem numberEnd_any (s:ByteArray) (i j:Nat) (w:World) (hs:s.size≤9223372036854775807) (h:End isD s i j) :
  Calls Tryz.prog 109 #[.string s,.int .i64 i] w fun e w'=>e=.returned (.int .i64 j)∧w'=w:=by
 have HE:Hid (End isD s i j):=h
 have hij:=h.le
 have hjs:=h.sz
 clear h
 go_enter Tryz.func109,Tryz.ntmps109
 go_upto_region 1 with (fail)
 go_loop [1] (fun v=>∃k:Nat,i≤k∧k≤j∧v=.int .i64 k) (fun v=>j-(intOf v).toNat)
 case atStart=>exact ⟨i,by omega,by omega,rfl⟩
 case round=>
  obtain ⟨k,hik,hk,rfl⟩:=hrel
  by_cases hlt:k<j
  ·have hks:k<s.size:=by omega
   have hb:=HE.out.all k hik hlt
   rw [cb_at hks] at hb
   have DA:=fun w=>digit2_any s[k].toNat w
   rw [hb] at DA
   clear hb
   go_wp2_with (go_at_call 108;(with_reducible refine (DA _).mono ?_);rintro e w1 ⟨rfl,rfl⟩)
   go_round
   case rel=>exact ⟨k+1,by omega,by omega,by go_num⟩
   case measure=>simp [intOf];omega
  ·obtain rfl:k=j:=by omega
   by_cases hks:k<s.size
   ·have hD:=HE.out.no
    rw [cb_at hks] at hD
    have DA:=fun w=>digit2_any s[k].toNat w
    rw [hD] at DA
    clear hD
    go_wp2_with (go_at_call 108;(with_reducible refine (DA _).mono ?_);rintro e w1 ⟨rfl,rfl⟩)
    go_ret
    exact ⟨rfl,rfl⟩
   ·go_wp2
    go_ret
    exact ⟨rfl,rfl⟩
end Go.Proofs.YtdjfpghgklkejaaGreatDoor
namespace Go.Proofs.YtdjfpghgklkejaaGreatDoor
open Go.RowKit Go.Sort
abbrev shv (s:Sh):Value:=.agg #[.bool s.name,.int .i64 s.args,.bool s.idx,.bool s.num,.bool s.body]
set_option maxHeartbeats 1000000 in
theorem shape_any (k:ByteArray) (w:World) :
  Calls Tryz.prog 118 #[.string k] w fun e w'=>e=.returned (.tuple #[shv ((shp k).getD shNone),.bool (shp k).isSome])∧Below w.heap.size w w':=by
 rcases shp_cases k with ⟨rfl,h,_⟩ | ⟨rfl,h,_⟩ | ⟨rfl,h,_⟩ | ⟨rfl,h,_⟩ | ⟨rfl,h,_⟩ | ⟨rfl,h,_⟩ | ⟨rfl,h,_⟩ | ⟨rfl,h,_⟩ | ⟨h1,h2,h3,h4,h5,h6,h7,h8,h,_⟩
 case inr.inr.inr.inr.inr.inr.inr.inr=>
  rw [h]
  clear h
  have g1:=ne_lit h1
  have g2:=ne_lit h2
  have g3:=ne_lit h3
  have g4:=ne_lit h4
  have g5:=ne_lit h5
  have g6:=ne_lit h6
  have g7:=ne_lit h7
  have g8:=ne_lit h8
  clear h1 h2 h3 h4 h5 h6 h7 h8
  go_enter Tryz.func118,Tryz.ntmps118
  go_wp2
  exact bodyPost_ret (v:=.tuple #[shv shNone,.bool false]) (by simp [results,Tryz.results118,go_sem]) rfl ⟨rfl,(Below.refl _ _).alloc (Nat.le_refl _) _⟩
 all_goals
  rw [h]
  clear h
  go_enter Tryz.func118,Tryz.ntmps118
  go_wp2
  refine bodyPost_ret (v:=.tuple #[shv _,.bool true]) (by simp [results,Tryz.results118,go_sem];done) rfl ⟨rfl,(Below.refl _ _).alloc (Nat.le_refl _) _⟩
theorem isOwn_any (k:ByteArray) (w:World) :
  Calls Tryz.prog 146 #[.string k] w fun e w'=>e=.returned (.bool (ownB k))∧Below w.heap.size w w':=by
 have SA:=fun w=>shape_any k w
 rcases shp_cases k with ⟨rfl,h,g⟩ | ⟨rfl,h,g⟩ | ⟨rfl,h,g⟩ | ⟨rfl,h,g⟩ | ⟨rfl,h,g⟩ | ⟨rfl,h,g⟩ | ⟨rfl,h,g⟩ | ⟨rfl,h,g⟩ | ⟨h1,h2,h3,h4,h5,h6,h7,h8,h,g⟩
 case inr.inr.inr.inr.inr.inr.inr.inr=>
  rw [h] at SA
  rw [g]
  clear h g
  have g8:=ne_lit h8
  clear h1 h2 h3 h4 h5 h6 h7 h8
  go_enter Tryz.func146,Tryz.ntmps146
  go_wp2_with (go_at_call 118;(with_reducible refine (SA _).mono ?_);rintro e w1 ⟨rfl,hN⟩)
  go_ret
  exact ⟨rfl,hN.alloc hN.size _⟩
 all_goals
  rw [h] at SA
  rw [g]
  clear h g
  go_enter Tryz.func146,Tryz.ntmps146
  go_wp2_with (go_at_call 118;(with_reducible refine (SA _).mono ?_);rintro e w1 ⟨rfl,hN⟩)
  go_ret
  exact ⟨rfl,hN.alloc hN.size _⟩
theorem rown_any (k:ByteArray) (w:World) :
  Calls Tryz.prog 98 #[.string k] w fun e w'=>e=.returned (.bool (ownB k))∧w'=w:=by
 rcases shp_cases k with ⟨rfl,h,g⟩ | ⟨rfl,h,g⟩ | ⟨rfl,h,g⟩ | ⟨rfl,h,g⟩ | ⟨rfl,h,g⟩ | ⟨rfl,h,g⟩ | ⟨rfl,h,g⟩ | ⟨rfl,h,g⟩ | ⟨h1,h2,h3,h4,h5,h6,h7,h8,h,g⟩
 case inr.inr.inr.inr.inr.inr.inr.inr=>
  rw [g]
  have g1:=ne_lit h1
  have g2:=ne_lit h2
  have g3:=ne_lit h3
  have g4:=ne_lit h4
  have g5:=ne_lit h5
  have g6:=ne_lit h6
  have g7:=ne_lit h7
  clear h1 h2 h3 h4 h5 h6 h7 h8 h g
  go_enter Tryz.func98,Tryz.ntmps98
  go_wp2
  go_ret
  exact ⟨rfl,rfl⟩
 all_goals
  rw [g]
  clear h g
  go_enter Tryz.func98,Tryz.ntmps98
  go_wp2
  go_ret
  exact ⟨rfl,rfl⟩
theorem last_any (sh:Sh) (w:World) :
  Calls Tryz.prog 151 #[shv sh] w fun e w'=>e=.returned (.string (lastS sh))∧Below w.heap.size w w':=by
 obtain ⟨a,b,c,d,e⟩:=sh
 cases e with
 | true=>
  go_enter Tryz.func151,Tryz.ntmps151
  go_wp2
  go_ret
  exact ⟨rfl,(Below.refl _ _).alloc (Nat.le_refl _) _⟩
 | false=>
  go_enter Tryz.func151,Tryz.ntmps151
  go_wp2
  go_ret
  exact ⟨rfl,(Below.refl _ _).alloc (Nat.le_refl _) _⟩
end Go.Proofs.YtdjfpghgklkejaaGreatDoor
namespace Go.Proofs
open Go.Shelf
def Tryz.laysM171_ren:Go.Shelf.Ren:=⟨fun | 171=>65 | 243=>115 | 246=>157 | 283=>168 | 284=>169 | 285=>170 | 286=>171 | 129=>181 | 317=>180 | 318=>182 | 319=>183 | 320=>184 | 337=>201 | 338=>202 | n=>n,fun | 3=>3 | 9=>9 | 2=>2 | 4=>4 | 171=>222 | 0=>0 | 53=>47 | 37=>143 | 5=>5 | 173=>225 | 212=>235 | 51=>236 | 20=>20 | 213=>237 | 46=>136 | 232=>262 | 233=>263 | n=>n,fun | 17=>0 | 18=>3 | 19=>4 | n=>n⟩
theorem Tryz.laysM171:Go.Proofs.LaysM.n171 Tryz.prog Tryz.laysM171_ren:={
 mixed:=by kernel_rfl
 f129:=Tryz.func181.trans (congrArg some (by kernel_rfl))
 f171:=Tryz.func65.trans (congrArg some (by kernel_rfl))
 f243:=Tryz.func115.trans (congrArg some (by kernel_rfl))
 f246:=Tryz.func157.trans (congrArg some (by kernel_rfl))
 f283:=Tryz.func168.trans (congrArg some (by kernel_rfl))
 f284:=Tryz.func169.trans (congrArg some (by kernel_rfl))
 f285:=Tryz.func170.trans (congrArg some (by kernel_rfl))
 f286:=Tryz.func171.trans (congrArg some (by kernel_rfl))
 f317:=Tryz.func180.trans (congrArg some (by kernel_rfl))
 f318:=Tryz.func182.trans (congrArg some (by kernel_rfl))
 f319:=Tryz.func183.trans (congrArg some (by kernel_rfl))
 f320:=Tryz.func184.trans (congrArg some (by kernel_rfl))
 f337:=Tryz.func201.trans (congrArg some (by kernel_rfl))
 f338:=Tryz.func202.trans (congrArg some (by kernel_rfl))
 t0:=Tryz.underlying0
 a0:=Tryz.isAgg0
 z0:=Tryz.sizeOf0
 v0:=Tryz.zeroValue0
 t2:=Tryz.underlying2
 a2:=Tryz.isAgg2
 z2:=Tryz.sizeOf2
 v2:=Tryz.zeroValue2
 t3:=Tryz.underlying3
 a3:=Tryz.isAgg3
 z3:=Tryz.sizeOf3
 v3:=Tryz.zeroValue3
 t4:=Tryz.underlying4
 a4:=Tryz.isAgg4
 z4:=Tryz.sizeOf4
 v4:=Tryz.zeroValue4
 t5:=Tryz.underlying5
 a5:=Tryz.isAgg5
 z5:=Tryz.sizeOf5
 v5:=Tryz.zeroValue5
 t9:=Tryz.underlying9
 a9:=Tryz.isAgg9
 z9:=Tryz.sizeOf9
 v9:=Tryz.zeroValue9
 t20:=Tryz.underlying20
 a20:=Tryz.isAgg20
 z20:=Tryz.sizeOf20
 v20:=Tryz.zeroValue20
 t37:=Tryz.underlying143
 a37:=Tryz.isAgg143
 z37:=Tryz.sizeOf143
 v37:=Tryz.zeroValue143
 t46:=Tryz.underlying136
 a46:=Tryz.isAgg136
 z46:=Tryz.sizeOf136
 v46:=Tryz.zeroValue136
 t51:=Tryz.underlying236
 a51:=Tryz.isAgg236
 z51:=Tryz.sizeOf236
 v51:=Tryz.zeroValue236
 t53:=Tryz.underlying47
 a53:=Tryz.isAgg47
 z53:=Tryz.sizeOf47
 v53:=Tryz.zeroValue47
 t171:=Tryz.underlying222
 a171:=Tryz.isAgg222
 z171:=Tryz.sizeOf222
 v171:=Tryz.zeroValue222
 t173:=Tryz.underlying225
 a173:=Tryz.isAgg225
 z173:=Tryz.sizeOf225
 v173:=Tryz.zeroValue225
 t212:=Tryz.underlying235
 a212:=Tryz.isAgg235
 z212:=Tryz.sizeOf235
 v212:=Tryz.zeroValue235
 t213:=Tryz.underlying237
 a213:=Tryz.isAgg237
 z213:=Tryz.sizeOf237
 t232:=Tryz.underlying262
 a232:=Tryz.isAgg262
 z232:=Tryz.sizeOf262
 v232:=Tryz.zeroValue262
 t233:=Tryz.underlying263
 a233:=Tryz.isAgg263
 z233:=Tryz.sizeOf263
 v233:=Tryz.zeroValue263
 g17:=by kernel_rfl
 g18:=by kernel_rfl
 g19:=by kernel_rfl
 i0:=by kernel_rfl
 i2:=by kernel_rfl
 i3:=by kernel_rfl
 i4:=by kernel_rfl
 i5:=by kernel_rfl
 i9:=by kernel_rfl
 i20:=by kernel_rfl
 i37:=by kernel_rfl
 i46:=by kernel_rfl
 i51:=by kernel_rfl
 i53:=by kernel_rfl
 i171:=by kernel_rfl
 i173:=by kernel_rfl
 i212:=by kernel_rfl
 i232:=by kernel_rfl
 i233:=by kernel_rfl
 m17:=by kernel_rfl
 m18:=by kernel_rfl
 m19:=by kernel_rfl }
open Go.RowKit Go.Sort Go.Lib in
theorem Tryz.strconv_Itoa (n : Int) (h0 : -9223372036854775808 ≤ n) (h1 : n ≤ 9223372036854775807) (w : World) (htab : Lib.TabIs Tryz.prog w "internal/strconv.uint64pow10" .u64 Lib.pow10Tab) :
  Calls Tryz.prog 65 #[.int .i64 n] w fun e w'=>e=.returned (.string ⟨(Lib.itoa n).toArray⟩)∧∃k os,w'=grow (w.drewN k) os:=Any.strconv_Itoa Tryz.laysM171 n h0 h1 w htab
def Tryz.laysM316_ren:Go.Shelf.Ren:=⟨fun | 316=>144 | n=>n,fun | 9=>9 | 3=>3 | 4=>4 | 37=>143 | 0=>0 | 127=>193 | 5=>5 | n=>n,fun | n=>n⟩
theorem Tryz.laysM316:Go.Proofs.LaysM.n316 Tryz.prog Tryz.laysM316_ren:={
 mixed:=by kernel_rfl
 f316:=Tryz.func144.trans (congrArg some (by kernel_rfl))
 t0:=Tryz.underlying0
 a0:=Tryz.isAgg0
 z0:=Tryz.sizeOf0
 v0:=Tryz.zeroValue0
 t3:=Tryz.underlying3
 a3:=Tryz.isAgg3
 z3:=Tryz.sizeOf3
 v3:=Tryz.zeroValue3
 t4:=Tryz.underlying4
 a4:=Tryz.isAgg4
 z4:=Tryz.sizeOf4
 v4:=Tryz.zeroValue4
 t9:=Tryz.underlying9
 a9:=Tryz.isAgg9
 z9:=Tryz.sizeOf9
 v9:=Tryz.zeroValue9
 t37:=Tryz.underlying143
 a37:=Tryz.isAgg143
 z37:=Tryz.sizeOf143
 v37:=Tryz.zeroValue143
 t127:=Tryz.underlying193
 a127:=Tryz.isAgg193
 z127:=Tryz.sizeOf193
 v127:=Tryz.zeroValue193
 t5:=Tryz.underlying5
 a5:=Tryz.isAgg5
 z5:=Tryz.sizeOf5
 v5:=Tryz.zeroValue5
 i0:=by kernel_rfl
 i3:=by kernel_rfl
 i4:=by kernel_rfl
 i5:=by kernel_rfl
 i9:=by kernel_rfl
 i37:=by kernel_rfl
 i127:=by kernel_rfl }
open Go.RowKit in
theorem Tryz.stringslite_Clone (s:ByteArray) (w:World) (hlim:s.size≤281474976710656) :
  Calls Tryz.prog 144 #[.string s] w fun e w'=>e=.returned (.string s)∧Below w.heap.size w w':=Any.stringslite_Clone Tryz.laysM316 s w hlim
def Tryz.laysC174_ren:Go.Shelf.Ren:=⟨fun | 174=>166 | 247=>178 | 245=>179 | 287=>196 | 279=>197 | 280=>198 | 281=>199 | 282=>200 | 321=>210 | 322=>211 | 316=>144 | 171=>65 | 205=>212 | 243=>115 | 246=>157 | 283=>168 | 284=>169 | 285=>170 | 286=>171 | 129=>181 | 317=>180 | 318=>182 | 319=>183 | 320=>184 | 337=>201 | 338=>202 | n=>n,fun | 9=>9 | 3=>3 | 2=>2 | 75=>219 | 85=>220 | 4=>4 | 167=>246 | 5=>5 | 53=>47 | 175=>247 | 46=>136 | 168=>249 | 37=>143 | 0=>0 | 210=>260 | 21=>21 | 127=>193 | 145=>268 | 143=>266 | 171=>222 | 173=>225 | 212=>235 | 51=>236 | 20=>20 | 213=>237 | 232=>262 | 233=>263 | 80=>148 | n=>n,fun | 15=>1 | 16=>2 | 17=>0 | 18=>3 | 19=>4 | n=>n⟩
theorem Tryz.laysC174:Go.Proofs.LaysC.n174 Tryz.prog Tryz.laysC174_ren:={
 mixed:=by kernel_rfl
 f129:=Tryz.func181.trans (congrArg some (by kernel_rfl))
 f171:=Tryz.func65.trans (congrArg some (by kernel_rfl))
 f174:=Tryz.func166.trans (congrArg some (by kernel_rfl))
 f205:=Tryz.func212.trans (congrArg some (by kernel_rfl))
 f243:=Tryz.func115.trans (congrArg some (by kernel_rfl))
 f245:=Tryz.func179.trans (congrArg some (by kernel_rfl))
 f246:=Tryz.func157.trans (congrArg some (by kernel_rfl))
 f247:=Tryz.func178.trans (congrArg some (by kernel_rfl))
 f279:=Tryz.func197.trans (congrArg some (by kernel_rfl))
 f280:=Tryz.func198.trans (congrArg some (by kernel_rfl))
 f281:=Tryz.func199.trans (congrArg some (by kernel_rfl))
 f282:=Tryz.func200.trans (congrArg some (by kernel_rfl))
 f283:=Tryz.func168.trans (congrArg some (by kernel_rfl))
 f284:=Tryz.func169.trans (congrArg some (by kernel_rfl))
 f285:=Tryz.func170.trans (congrArg some (by kernel_rfl))
 f286:=Tryz.func171.trans (congrArg some (by kernel_rfl))
 f287:=Tryz.func196.trans (congrArg some (by kernel_rfl))
 f316:=Tryz.func144.trans (congrArg some (by kernel_rfl))
 f317:=Tryz.func180.trans (congrArg some (by kernel_rfl))
 f318:=Tryz.func182.trans (congrArg some (by kernel_rfl))
 f319:=Tryz.func183.trans (congrArg some (by kernel_rfl))
 f320:=Tryz.func184.trans (congrArg some (by kernel_rfl))
 f321:=Tryz.func210.trans (congrArg some (by kernel_rfl))
 f322:=Tryz.func211.trans (congrArg some (by kernel_rfl))
 f337:=Tryz.func201.trans (congrArg some (by kernel_rfl))
 f338:=Tryz.func202.trans (congrArg some (by kernel_rfl))
 t0:=Tryz.underlying0
 a0:=Tryz.isAgg0
 z0:=Tryz.sizeOf0
 v0:=Tryz.zeroValue0
 t2:=Tryz.underlying2
 a2:=Tryz.isAgg2
 z2:=Tryz.sizeOf2
 v2:=Tryz.zeroValue2
 t3:=Tryz.underlying3
 a3:=Tryz.isAgg3
 z3:=Tryz.sizeOf3
 v3:=Tryz.zeroValue3
 t4:=Tryz.underlying4
 a4:=Tryz.isAgg4
 z4:=Tryz.sizeOf4
 v4:=Tryz.zeroValue4
 t5:=Tryz.underlying5
 a5:=Tryz.isAgg5
 z5:=Tryz.sizeOf5
 v5:=Tryz.zeroValue5
 t9:=Tryz.underlying9
 a9:=Tryz.isAgg9
 z9:=Tryz.sizeOf9
 v9:=Tryz.zeroValue9
 t20:=Tryz.underlying20
 a20:=Tryz.isAgg20
 z20:=Tryz.sizeOf20
 v20:=Tryz.zeroValue20
 t21:=Tryz.underlying21
 a21:=Tryz.isAgg21
 z21:=Tryz.sizeOf21
 v21:=Tryz.zeroValue21
 t37:=Tryz.underlying143
 a37:=Tryz.isAgg143
 z37:=Tryz.sizeOf143
 v37:=Tryz.zeroValue143
 t46:=Tryz.underlying136
 a46:=Tryz.isAgg136
 z46:=Tryz.sizeOf136
 v46:=Tryz.zeroValue136
 t51:=Tryz.underlying236
 a51:=Tryz.isAgg236
 z51:=Tryz.sizeOf236
 v51:=Tryz.zeroValue236
 t53:=Tryz.underlying47
 a53:=Tryz.isAgg47
 z53:=Tryz.sizeOf47
 v53:=Tryz.zeroValue47
 t75:=Tryz.underlying219
 a75:=Tryz.isAgg219
 z75:=Tryz.sizeOf219
 v75:=Tryz.zeroValue219
 t85:=Tryz.underlying220
 a85:=Tryz.isAgg220
 z85:=Tryz.sizeOf220
 v85:=Tryz.zeroValue220
 t127:=Tryz.underlying193
 a127:=Tryz.isAgg193
 z127:=Tryz.sizeOf193
 v127:=Tryz.zeroValue193
 t143:=Tryz.underlying266
 a143:=Tryz.isAgg266
 z143:=Tryz.sizeOf266
 v143:=Tryz.zeroValue266
 t145:=Tryz.underlying268
 a145:=Tryz.isAgg268
 z145:=Tryz.sizeOf268
 v145:=Tryz.zeroValue268
 t167:=Tryz.underlying246
 a167:=Tryz.isAgg246
 z167:=Tryz.sizeOf246
 v167:=Tryz.zeroValue246
 t168:=Tryz.underlying249
 a168:=Tryz.isAgg249
 z168:=Tryz.sizeOf249
 v168:=Tryz.zeroValue249
 t171:=Tryz.underlying222
 a171:=Tryz.isAgg222
 z171:=Tryz.sizeOf222
 v171:=Tryz.zeroValue222
 t173:=Tryz.underlying225
 a173:=Tryz.isAgg225
 z173:=Tryz.sizeOf225
 v173:=Tryz.zeroValue225
 t175:=Tryz.underlying247
 a175:=Tryz.isAgg247
 z175:=Tryz.sizeOf247
 v175:=Tryz.zeroValue247
 t210:=Tryz.underlying260
 a210:=Tryz.isAgg260
 z210:=Tryz.sizeOf260
 v210:=Tryz.zeroValue260
 t212:=Tryz.underlying235
 a212:=Tryz.isAgg235
 z212:=Tryz.sizeOf235
 v212:=Tryz.zeroValue235
 t213:=Tryz.underlying237
 a213:=Tryz.isAgg237
 z213:=Tryz.sizeOf237
 t232:=Tryz.underlying262
 a232:=Tryz.isAgg262
 z232:=Tryz.sizeOf262
 v232:=Tryz.zeroValue262
 t233:=Tryz.underlying263
 a233:=Tryz.isAgg263
 z233:=Tryz.sizeOf263
 v233:=Tryz.zeroValue263
 g15:=by kernel_rfl
 g16:=by kernel_rfl
 g17:=by kernel_rfl
 g18:=by kernel_rfl
 g19:=by kernel_rfl
 t80:=Tryz.underlying148
 a80:=Tryz.isAgg148
 z80:=Tryz.sizeOf148
 v80:=Tryz.zeroValue148
 i0:=by kernel_rfl
 i2:=by kernel_rfl
 i3:=by kernel_rfl
 i4:=by kernel_rfl
 i5:=by kernel_rfl
 i9:=by kernel_rfl
 i20:=by kernel_rfl
 i21:=by kernel_rfl
 i37:=by kernel_rfl
 i46:=by kernel_rfl
 i51:=by kernel_rfl
 i53:=by kernel_rfl
 i75:=by kernel_rfl
 i80:=by kernel_rfl
 i85:=by kernel_rfl
 i127:=by kernel_rfl
 i143:=by kernel_rfl
 i145:=by kernel_rfl
 i167:=by kernel_rfl
 i168:=by kernel_rfl
 i171:=by kernel_rfl
 i173:=by kernel_rfl
 i175:=by kernel_rfl
 i210:=by kernel_rfl
 i212:=by kernel_rfl
 i232:=by kernel_rfl
 i233:=by kernel_rfl
 m15:=by kernel_rfl
 m16:=by kernel_rfl
 m17:=by kernel_rfl
 m18:=by kernel_rfl
 m19:=by kernel_rfl
 c0:=by kernel_rfl
 c2:=by kernel_rfl
 c3:=by kernel_rfl
 c4:=by kernel_rfl
 c5:=by kernel_rfl
 c9:=by kernel_rfl
 c20:=by kernel_rfl
 c21:=by kernel_rfl
 c37:=by kernel_rfl
 c46:=by kernel_rfl
 c51:=by kernel_rfl
 c53:=by kernel_rfl
 c75:=by kernel_rfl
 c80:=by kernel_rfl
 c85:=by kernel_rfl
 c127:=by kernel_rfl
 c143:=by kernel_rfl
 c145:=by kernel_rfl
 c167:=by kernel_rfl
 c168:=by kernel_rfl
 c171:=by kernel_rfl
 c173:=by kernel_rfl
 c175:=by kernel_rfl
 c210:=by kernel_rfl
 c212:=by kernel_rfl
 c213:=by kernel_rfl
 c232:=by kernel_rfl
 c233:=by kernel_rfl }
open Go.RowKit in
theorem Tryz.strconv_ParseInt_10_at64_ok (s:ByteArray) (hmax:s.size≤9223372036854775806) (v:Int) (h:Lib.parseIntB 64 s.data.toList=.ok v) (w:World) :
  Calls Tryz.prog 166 #[.string s,.int .i64 10,.int .i64 64] w fun e w'=>e=.returned (.tuple #[.int .i64 v,.nilIface])∧(w'=w∨∃t,w'=Lib.bytesWorld w 5 t):=Any.strconv_ParseInt_10_at64_ok Tryz.laysC174 s hmax v h w
open Go.RowKit in
theorem Tryz.strconv_ParseInt_10_at64_range_var (s : ByteArray) (hlim : s.size ≤ 281474976710656) (h : Lib.parseIntB 64 s.data.toList = .range) (tp : TypeId) (p : Value) (w : World) (hvar : w.var? Tryz.prog "strconv.ErrRange" = some #[.iface tp p]) :
  Calls Tryz.prog 166 #[.string s,.int .i64 10,.int .i64 64] w fun e w'=>∃N,e=.returned (.tuple #[.int .i64 (Lib.intSat 64 s.data.toList),.iface 249 (.pointer (some ⟨N,0,none⟩))])∧w.heap.size≤N∧w'.heap[N]?=some (.cells #[.string ⟨#[80,97,114,115,101,73,110,116]⟩,.string s,.iface tp p] 260 (0,0))∧Below w.heap.size w w':=Any.strconv_ParseInt_10_at64_range_var Tryz.laysC174 s hlim h tp p w hvar
end Go.Proofs
