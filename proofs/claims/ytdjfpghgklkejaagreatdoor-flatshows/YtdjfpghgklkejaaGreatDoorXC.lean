/-
  Put together of: LA3 LA4 LP1 LLaid.
-/
import Derived.Test.YtdjfpghgklkejaaGreatDoorXB
import Derived.Carry
import Derived.WalkMore
import Derived.Deep.LoopGhost
import Derived.WalkSmall
import Derived.Lib.ParseIntBTie
import Derived.ProofKit
import Derived.OpenShut
import Derived.LaidMore
import Derived.LaidOnce
import Derived.LaidSub
import Derived.Lib.LaidTab
import Derived.Stop.Joined
import Derived.Lay
import Derived.Lib.LaidU8
import Derived.Shelf.Vars
namespace Go.Proofs.YtdjfpghgklkejaaGreatDoor
open Go.RowKit Go.Sort
abbrev zTok:Value:=.agg #[.int .i64 0,.string ⟨#[]⟩,.int .i64 0]
theorem Tryz.info175:(Tryz.prog.info? 175).map (fun i=>(i.zero,i.size,i.bytes))=some (some zTok,3,32):=by kernel_rfl
abbrev tkc (t:Tk):List Value:=[.int .i64 t.k,.string t.t,.int .i64 t.p]
def tks (l:List Tk):List Value:=l.flatMap tkc
theorem tks_put (l:List Tk) (t:Tk):tks (l++[t])=tks l++tkc t:=by simp [tks,List.flatMap_append]
theorem tks_at (l:List Tk):∀(j:Nat) (h:j<l.length),(tks l)[j*3]?=some (.int .i64 l[j].k)∧(tks l)[j*3+1]?=some (.string l[j].t)∧(tks l)[j*3+2]?=some (.int .i64 l[j].p):=by
 induction l with
 | nil=>intro j h;exact absurd h (Nat.not_lt_zero _)
 | cons t l ih=>
  intro j h
  have e:tks (t::l)=tkc t++tks l:=rfl
  cases j with
  | zero=>rw [e];exact ⟨rfl,rfl,rfl⟩
  | succ j=>
   have:=ih j (by simpa using h)
   rw [e,show (j+1)*3=j*3+3 by omega]
   exact this
structure RT (W:World) (b o:Nat) (l:List Tk):Prop where
 c0:∀j (h:j<l.length),W.cell? ⟨b,o+j*3,none⟩=some (.int .i64 l[j].k)
 c1:∀j (h:j<l.length),W.cell? ⟨b,o+j*3+1,none⟩=some (.string l[j].t)
 c2:∀j (h:j<l.length),W.cell? ⟨b,o+j*3+2,none⟩=some (.int .i64 l[j].p)
 lt:b<W.heap.size
def SL (W:World) (v:Value) (l:List Tk):Prop:=(v=.slice none 0 0∧l=[])∨∃b o c,v=.slice (some ⟨b,o,none⟩) l.length c∧l.length≤c∧RT W b o l
theorem RT.below {W W':World} {b o:Nat} {l:List Tk} (h:RT W b o l) (hb:Below W.heap.size W W'):RT W' b o l:=
 ⟨fun j hj=>(hb.cell (p:=⟨b,o+j*3,none⟩) h.lt).trans (h.c0 j hj),fun j hj=>(hb.cell (p:=⟨b,o+j*3+1,none⟩) h.lt).trans (h.c1 j hj),fun j hj=>(hb.cell (p:=⟨b,o+j*3+2,none⟩) h.lt).trans (h.c2 j hj),Nat.lt_of_lt_of_le h.lt hb.size⟩
theorem own_sl {W:World} {B:Nat} {v:Value} {l:List Tk} (h:W.ownsRow B 175 3 v l.length (tks l)):SL W v l:=by
 have hh:=h
 rcases h.2 with ⟨rfl,e⟩ | ⟨g,cap,cur,rfl,hb,hg,hn,hm,hs,ht⟩
 ·exact .inl ⟨rfl,List.eq_nil_of_length_eq_zero e⟩
 ·have hc:=hh.cells (g:=g) rfl
  have ad:∀k,(⟨g,0,none⟩:Addr).add k=⟨g,k,none⟩:=fun k=>by rw [WideShapes.add_plain,Nat.zero_add]
  refine .inr ⟨g,0,cap,rfl,hn,⟨fun j hj=>?_,fun j hj=>?_,fun j hj=>?_,(Array.getElem?_eq_some_iff.1 hg).1⟩⟩
  ·have:=hc _ _ (tks_at l j hj).1;rw [ad] at this;rw [Nat.zero_add];exact this
  ·have:=hc _ _ (tks_at l j hj).2.1;rw [ad] at this;rw [Nat.zero_add];exact this
  ·have:=hc _ _ (tks_at l j hj).2.2;rw [ad] at this;rw [Nat.zero_add];exact this
structure SI (w W:World) (v:Value) (l:List Tk):Prop where
 below:Below w.heap.size w W
 own:W.ownsRow w.heap.size 175 3 v l.length (tks l)
theorem SI.nil (w:World):SI w w (.slice none 0 0) []:=⟨Below.refl _ _,World.ownsRow_nil _ _ _ _⟩
theorem SI.on {w W W2:World} {v:Value} {l:List Tk} (H:SI w W v l) (hb:Below W.heap.size W W2):SI w W2 v l:=
 ⟨btr H.below hb,H.own.kept (grown_of hb) (by cases v.ownBlock <;> simp)⟩
theorem SI.alloc {w W:World} {v:Value} {l:List Tk} (H:SI w W v l) (o:Obj):SI w (W.alloc o) v l:=H.on (bal (Below.refl _ _) _)
theorem SI.put {w W W2:World} {v v':Value} {l:List Tk} {t:Tk} (H:SI w W v l) (hg:W.grownBy W2 v.ownBlock) (hown:W2.ownsRow w.heap.size 175 3 v' (l.length+1) (tks l++tkc t)):SI w W2 v' (l++[t]) where
 below:=H.below.grown hg H.below.size (fun j e=>(H.own.lt j e).1)
 own:=by rw [tks_put,List.length_append];exact hown
theorem SI.shape {w W:World} {v:Value} {l:List Tk} (H:SI w W v l):∃a c,v=.slice a l.length c:=by
 rcases H.own.2 with ⟨rfl,e⟩ | ⟨g,cap,cur,rfl,_⟩
 ·exact ⟨_,_,by rw [e]⟩
 ·exact ⟨_,_,rfl⟩
theorem new_tok (w4:World) (t:Tk):∀j u,(tkc t)[j]?=some u→(w4.alloc (.cells (tkc t).toArray 175)).cell? ((⟨w4.heap.size,0,none⟩:Addr).add j)=some u:=by
 intro j u hj
 rw [WideShapes.add_plain,Nat.zero_add]
 match j,hj with
 | 0,hj=>simp at hj;subst hj;simp [go_sem]
 | 1,hj=>simp at hj;subst hj;simp [go_sem]
 | 2,hj=>simp at hj;subst hj;simp [go_sem]
theorem one_tok (t:Tk):∀u∈tkc t,u.oneCell'=true:=fun u hu=>by
 simp at hu
 rcases hu with rfl | rfl | rfl <;> rfl
theorem clone_any (s:ByteArray) (w:World) (hs:s.size≤281474976710656) :
  Calls Tryz.prog 111 #[.string s] w fun e w'=>e=.returned (.string s)∧Below w.heap.size w w':=by
 go_enter Tryz.func111,Tryz.ntmps111
 go_wp2_with (go_at_call 144;(with_reducible refine (Tryz.stringslite_Clone s w hs).mono ?_);rintro e w1 ⟨rfl,hN⟩)
 go_ret
 exact ⟨rfl,hN⟩
end Go.Proofs.YtdjfpghgklkejaaGreatDoor
namespace Go.Proofs.YtdjfpghgklkejaaGreatDoor
open Go.RowKit Go.Sort
structure Asked (c:Nat) (b l d g:Bool):Prop where
 B:∀w,Calls Tryz.prog 105 #[.int .u8 c] w fun e w'=>e=.returned (.bool b)∧w'=w
 L:∀w,Calls Tryz.prog 106 #[.int .u8 c] w fun e w'=>e=.returned (.bool l)∧w'=w
 D:∀w,Calls Tryz.prog 108 #[.int .u8 c] w fun e w'=>e=.returned (.bool d)∧w'=w
 G:∀w,Calls Tryz.prog 110 #[.int .u8 c] w fun e w'=>e=.returned (.bool g)∧w'=w
theorem asked (c:Nat) {b l d g:Bool} (hb:isB c=b) (hl:isL c=l) (hd:isD c=d) (hg:isS c=g):Asked c b l d g:=by
 subst hb hl hd hg
 exact ⟨blank2_any c,letter2_any c,digit2_any c,sign2_any c⟩
theorem run_sub (s:ByteArray) (i j:Nat) (h1:i≤j) (h2:j≤s.size) (w:World):(Instr.slice 9 (.string s) (some (.int .i64 (i:Int))) (some (.int .i64 (j:Int))) none).run Tryz.prog w=.ok (.string (s.extract i j)) w:=
 run_slice_string w 9 s .i64 .i64 i j Tryz.underlying9 (by omega) (by omega) (by omega)
theorem run_sub1 (s:ByteArray) (i:Nat) (h2:i<s.size) (w:World):(Instr.slice 9 (.string s) (some (.int .i64 (i:Int))) (some (.int .i64 ((i:Int)+1))) none).run Tryz.prog w=.ok (.string (s.extract i (i+1))) w:=
 run_sub s i (i+1) (by omega) h2 w
set_option maxHeartbeats 4000000 in
set_option maxRecDepth 100000 in
theorem scan_any (s:ByteArray) (l:List Tk) (a e:Nat) (w:World) (hs:s.size≤9223372036854775807) (ho:Out s l a e) :
  Calls Tryz.prog 59 #[.string s] w fun x w'=>∃v,x=.returned (.tuple #[v,.int .i64 a,.int .i64 e])∧SI w w' v l:=by
 by_cases hbig:65536<s.size
 ·obtain ⟨rfl,rfl,rfl⟩:l=[]∧a=0∧e=1:=by
   rcases ho with ⟨_,h⟩ | ⟨h,_⟩ | ⟨h,_⟩
   ·exact h
   ·omega
   ·omega
  clear ho
  go_enter Tryz.func59,Tryz.ntmps59
  go_wp2
  go_step3
  go_wp2
  try rw [Exit.noGoto_ret]
  go_ret3
  exact ⟨_,rfl,SI.nil _⟩
 have hno:¬(65536:Int)<(s.size:Int):=by omega
 have HU:Hid (∀l' a' e',Out s l' a' e'→l=l'∧a=a'∧e=e'):=fun l' a' e' h=>ho.unique h
 have hs6:s.size≤65536:=by omega
 clear ho
 obtain ⟨i3,hi3,hz3,hs3,hb3⟩:=info_parts Tryz.info175
 go_enter Tryz.func59,Tryz.ntmps59
 go_wp2
 go_step3
 go_wp2
 go_step3
 go_wp2
 have hC:Hid (SI w w (.slice none 0 0) []):=SI.nil w
 go_loopg [5,6] s.size (fun g v5 v6 wr=>∃(i:Nat) (m:List Tk),i≤s.size∧g=s.size-i∧v6=.int .i64 i∧Hid (Pre s i m)∧Hid (SI w wr v5 m))
 case atStart=>exact ⟨0,[],by omega,by omega,rfl,Pre.zero s,hC⟩
 case round=>
  clear hC
  obtain ⟨i,m,hi,rfl,rfl,hP,hH⟩:=hrel
  have hml:=hP.out.count
  by_cases hlt:i<s.size
  ·rcases ways s i hlt with hb | ⟨hc,he⟩ | ⟨k,j,ht⟩ | ⟨j,hj⟩
   ·have hP2:Hid (Pre s (i+1) m):=hP.out.blank hb
    rw [cb_at hlt] at hb
    obtain ⟨qB,_,_,_⟩:=asked s[i].toNat hb rfl rfl rfl
    clear hb
    go_wp2_with (go_at_call 105;(with_reducible refine (qB _).mono ?_);rintro e w1 ⟨rfl,rfl⟩)
    go_roundg (s.size-(i+1))
    case measure=>omega
    case rel=>exact ⟨i+1,m,by omega,rfl,by go_num,hP2,hH⟩
   ·have hP2:Hid (Pre s (run isR s i) m):=hP.out.remark hc he
    have hij:=remark_lt hc he
    have hjs:=he.sz
    generalize run isR s i=j at *
    have HE:Hid (End isR s i j):=he
    rw [cb_at hlt] at hc
    obtain ⟨qB,_,_,_⟩:=asked s[i].toNat (b:=false) (by rw [hc];decide) rfl rfl rfl
    clear he
    have h35:((s[i].toNat:Int)==35)=true:=by simp;omega
    clear hc
    go_wp2_with (go_at_call 105;(with_reducible refine (qB _).mono ?_);rintro e w1 ⟨rfl,rfl⟩)
    go_loopg [6] (j-i) (fun g v6 wr'=>wr'=w1∧∃k:Nat,i≤k∧k≤j∧g=j-k∧v6=.int .i64 k)
    case atStart=>exact ⟨rfl,i,by omega,by omega,rfl,rfl⟩
    case round=>
     obtain ⟨rfl,k,hik,hkj,rfl,rfl⟩:=hrel
     by_cases hk:k<j
     ·have hks:k<s.size:=by omega
      have h10:=(isR_p.1 (HE.out.all k hik hk)).1
      rw [cb_at hks] at h10
      have h11:((s[k].toNat:Int)==10)=false:=by simp;omega
      clear h10
      go_wp2
      go_roundg (j-(k+1))
      case measure=>omega
      case rel=>exact ⟨rfl,k+1,by omega,by omega,rfl,by go_num⟩
     ·obtain rfl:k=j:=by omega
      by_cases hks:k<s.size
      ·have h10:=HE.out.no
       rw [cb_at hks] at h10
       have h11:((s[k].toNat:Int)==10)=true:=by
        have h12:¬(s[k].toNat≠10∧s[k].toNat<256):=fun g=>absurd (isR_p.2 g) (by rw [h10];decide)
        have:=UInt8.toNat_lt s[k]
        simp
        omega
       clear h10
       go_wp2
       go_roundg (s.size-k)
       case measure=>omega
       case rel=>exact ⟨k,m,by omega,rfl,rfl,hP2,hH⟩
      ·obtain rfl:k=s.size:=by omega
       obtain ⟨rfl,rfl,rfl⟩:=HU.out m 0 0 (.inr (.inl ⟨hs6,hP2.out,rfl,rfl⟩))
       go_wp2
       try rw [Exit.noGoto_ret]
       go_ret3
       exact ⟨_,rfl,hH.out⟩
   ·have hP2:Hid (Pre s j (m++[tok s k i j])):=hP.out.put ht
    have hij:=ht.lt
    have hjs:=ht.sz
    have hxz:(s.extract i j).size≤281474976710656:=by rw [ByteArray.size_extract];omega
    rcases ht with ⟨rfl,h,he⟩ | ⟨rfl,h,he,hn⟩ | ⟨rfl,h,rfl⟩
    ·obtain ⟨h1,h2,h3,h4⟩:=nB_of_L h
     rw [cb_at hlt] at h h1 h2
     obtain ⟨qB,qL,_,_⟩:=asked s[i].toNat (fls h1) h rfl rfl
     have NE:=fun w=>nameEnd_any s i j w hs he
     have h35:((s[i].toNat:Int)==35)=false:=by simp;omega
     clear h h1 h2 h3 h4 he
     have CL:=fun w=>clone_any (s.extract i j) w hxz
     have SS:=fun w=>run_sub s i j (by omega) hjs w
     go_wp2_with (first
      | (go_at_call 105;(with_reducible refine (qB _).mono ?_);rintro e w1 ⟨rfl,rfl⟩)
      | (go_at_call 106;(with_reducible refine (qL _).mono ?_);rintro e w1 ⟨rfl,rfl⟩)
      | (go_at_call 107;(with_reducible refine (NE _).mono ?_);rintro e w1 ⟨rfl,rfl⟩)
      | (go_at_call 111;(with_reducible refine (CL _).mono ?_);rintro e w4 ⟨rfl,hN4⟩;have hV:Hid (SI w (w4.alloc (.cells #[.int .i64 1,.string (s.extract i j),.int .i64 (i:Int)] 175)) _ m):=(hH.out.on hN4).alloc _)
      | (at_builtin;refine wpList_append_own_at _ rfl _ _ 119 rfl w.heap.size 175 i3 zTok 3 32 Tryz.underlying119 hi3 hz3 hs3 hb3 rfl (by decide) _ m.length (tks m) rfl hV.out.own ⟨w4.heap.size,0,none⟩ 1 1 (tkc (tok s 1 i j)) rfl rfl (new_tok w4 _) (one_tok _) (by unfold maxLen;omega) (by omega) hV.out.below.size ?_;intro v5 w5 hown5 hgrow5 hnil5 hloc5;have hZ:Hid (SI w w5 v5 (m++[tok s 1 i j])):=hV.out.put hgrow5 hown5;clear hown5 hgrow5 hnil5 hloc5))
     go_roundg (s.size-j)
     case measure=>omega
     case rel=>exact ⟨j,m++[tok s 1 i j],hjs,rfl,rfl,hP2,hZ⟩
    ·obtain ⟨h1,h2,h3,h4⟩:=nB_of_D h
     rw [cb_at hlt] at h h1 h2 h3
     obtain ⟨qB,qL,qD,_⟩:=asked s[i].toNat (fls h1) (fls h3) h rfl
     have NE:=fun w=>numberEnd_any s i j w hs he
     have h35:((s[i].toNat:Int)==35)=false:=by simp;omega
     clear h h1 h2 h3 h4 he
     by_cases hjl:j<s.size
     ·rw [cb_at hjl] at hn
      have LJ:=fun w=>letter2_any s[j].toNat w
      rw [hn] at LJ
      clear hn
      have CL:=fun w=>clone_any (s.extract i j) w hxz
      have SS:=fun w=>run_sub s i j (by omega) hjs w
      go_wp2_with (first
       | (go_at_call 105;(with_reducible refine (qB _).mono ?_);rintro e w1 ⟨rfl,rfl⟩)
       | (go_at_call 106;(with_reducible refine (qL _).mono ?_);rintro e w1 ⟨rfl,rfl⟩)
       | (go_at_call 108;(with_reducible refine (qD _).mono ?_);rintro e w1 ⟨rfl,rfl⟩)
       | (go_at_call 109;(with_reducible refine (NE _).mono ?_);rintro e w1 ⟨rfl,rfl⟩)
       | (go_at_call 106;(with_reducible refine (LJ _).mono ?_);rintro e w1 ⟨rfl,rfl⟩)
       | (go_at_call 111;(with_reducible refine (CL _).mono ?_);rintro e w4 ⟨rfl,hN4⟩;have hV:Hid (SI w (w4.alloc (.cells #[.int .i64 2,.string (s.extract i j),.int .i64 (i:Int)] 175)) _ m):=(hH.out.on hN4).alloc _)
       | (at_builtin;refine wpList_append_own_at _ rfl _ _ 119 rfl w.heap.size 175 i3 zTok 3 32 Tryz.underlying119 hi3 hz3 hs3 hb3 rfl (by decide) _ m.length (tks m) rfl hV.out.own ⟨w4.heap.size,0,none⟩ 1 1 (tkc (tok s 2 i j)) rfl rfl (new_tok w4 _) (one_tok _) (by unfold maxLen;omega) (by omega) hV.out.below.size ?_;intro v5 w5 hown5 hgrow5 hnil5 hloc5;have hZ:Hid (SI w w5 v5 (m++[tok s 2 i j])):=hV.out.put hgrow5 hown5;clear hown5 hgrow5 hnil5 hloc5))
      go_roundg (s.size-j)
      case measure=>omega
      case rel=>exact ⟨j,m++[tok s 2 i j],hjs,rfl,rfl,hP2,hZ⟩
     ·clear hn
      obtain rfl:j=s.size:=by omega
      have CL:=fun w=>clone_any (s.extract i s.size) w hxz
      have SS:=fun w=>run_sub s i s.size (by omega) (by omega) w
      go_wp2_with (first
       | (go_at_call 105;(with_reducible refine (qB _).mono ?_);rintro e w1 ⟨rfl,rfl⟩)
       | (go_at_call 106;(with_reducible refine (qL _).mono ?_);rintro e w1 ⟨rfl,rfl⟩)
       | (go_at_call 108;(with_reducible refine (qD _).mono ?_);rintro e w1 ⟨rfl,rfl⟩)
       | (go_at_call 109;(with_reducible refine (NE _).mono ?_);rintro e w1 ⟨rfl,rfl⟩)
       | (go_at_call 111;(with_reducible refine (CL _).mono ?_);rintro e w4 ⟨rfl,hN4⟩;have hV:Hid (SI w (w4.alloc (.cells #[.int .i64 2,.string (s.extract i s.size),.int .i64 (i:Int)] 175)) _ m):=(hH.out.on hN4).alloc _)
       | (at_builtin;refine wpList_append_own_at _ rfl _ _ 119 rfl w.heap.size 175 i3 zTok 3 32 Tryz.underlying119 hi3 hz3 hs3 hb3 rfl (by decide) _ m.length (tks m) rfl hV.out.own ⟨w4.heap.size,0,none⟩ 1 1 (tkc (tok s 2 i s.size)) rfl rfl (new_tok w4 _) (one_tok _) (by unfold maxLen;omega) (by omega) hV.out.below.size ?_;intro v5 w5 hown5 hgrow5 hnil5 hloc5;have hZ:Hid (SI w w5 v5 (m++[tok s 2 i s.size])):=hV.out.put hgrow5 hown5;clear hown5 hgrow5 hnil5 hloc5))
      go_roundg (s.size-s.size)
      case measure=>omega
      case rel=>exact ⟨s.size,m++[tok s 2 i s.size],by omega,rfl,rfl,hP2,hZ⟩
    ·obtain ⟨h1,h2,h3,h4⟩:=nB_of_S h
     rw [cb_at hlt] at h h1 h2 h3 h4
     obtain ⟨qB,qL,qD,qG⟩:=asked s[i].toNat (fls h1) (fls h3) (fls h4) h
     have h35:((s[i].toNat:Int)==35)=false:=by simp;omega
     clear h h1 h2 h3 h4
     have CL:=fun w=>clone_any (s.extract i (i+1)) w hxz
     have SS:=fun w=>run_sub1 s i hlt w
     go_wp2_with (first
      | (go_at_call 105;(with_reducible refine (qB _).mono ?_);rintro e w1 ⟨rfl,rfl⟩)
      | (go_at_call 106;(with_reducible refine (qL _).mono ?_);rintro e w1 ⟨rfl,rfl⟩)
      | (go_at_call 108;(with_reducible refine (qD _).mono ?_);rintro e w1 ⟨rfl,rfl⟩)
      | (go_at_call 110;(with_reducible refine (qG _).mono ?_);rintro e w1 ⟨rfl,rfl⟩)
      | (go_at_call 111;(with_reducible refine (CL _).mono ?_);rintro e w4 ⟨rfl,hN4⟩;have hV:Hid (SI w (w4.alloc (.cells #[.int .i64 3,.string (s.extract i (i+1)),.int .i64 (i:Int)] 175)) _ m):=(hH.out.on hN4).alloc _)
      | (at_builtin;refine wpList_append_own_at _ rfl _ _ 119 rfl w.heap.size 175 i3 zTok 3 32 Tryz.underlying119 hi3 hz3 hs3 hb3 rfl (by decide) _ m.length (tks m) rfl hV.out.own ⟨w4.heap.size,0,none⟩ 1 1 (tkc (tok s 3 i (i+1))) rfl rfl (new_tok w4 _) (one_tok _) (by unfold maxLen;omega) (by omega) hV.out.below.size ?_;intro v5 w5 hown5 hgrow5 hnil5 hloc5;have hZ:Hid (SI w w5 v5 (m++[tok s 3 i (i+1)])):=hV.out.put hgrow5 hown5;clear hown5 hgrow5 hnil5 hloc5))
     go_roundg (s.size-(i+1))
     case measure=>omega
     case rel=>exact ⟨i+1,m++[tok s 3 i (i+1)],hjs,rfl,by go_num,hP2,hZ⟩
   ·obtain ⟨rfl,rfl,rfl⟩:=HU.out [] j 90 (.inr (.inr ⟨hs6,rfl,rfl,i,m,hP.out,hj⟩))
    have hjl:=hj.sz
    rcases hj with ⟨h,he,hn⟩ | ⟨_,rfl,h1,h2,h3,h4,h5⟩
    ·obtain ⟨h1,h2,h3,h4⟩:=nB_of_D h
     rw [cb_at hlt] at h h1 h2 h3
     rw [cb_at hjl] at hn
     obtain ⟨qB,qL,qD,_⟩:=asked s[i].toNat (fls h1) (fls h3) h rfl
     have NE:=fun w=>numberEnd_any s i a w hs he
     have LJ:=fun w=>letter2_any s[a].toNat w
     rw [hn] at LJ
     have h35:((s[i].toNat:Int)==35)=false:=by simp;omega
     clear h h1 h2 h3 h4 he hn
     go_wp2_with (first
      | (go_at_call 105;(with_reducible refine (qB _).mono ?_);rintro e w1 ⟨rfl,rfl⟩)
      | (go_at_call 106;(with_reducible refine (qL _).mono ?_);rintro e w1 ⟨rfl,rfl⟩)
      | (go_at_call 108;(with_reducible refine (qD _).mono ?_);rintro e w1 ⟨rfl,rfl⟩)
      | (go_at_call 109;(with_reducible refine (NE _).mono ?_);rintro e w1 ⟨rfl,rfl⟩)
      | (go_at_call 106;(with_reducible refine (LJ _).mono ?_);rintro e w1 ⟨rfl,rfl⟩))
     try rw [Exit.noGoto_ret]
     go_ret3
     exact ⟨_,rfl,hH.out.below,World.ownsRow_nil _ _ _ _⟩
    ·rw [cb_at hlt] at h1 h2 h3 h4 h5
     obtain ⟨qB,qL,qD,qG⟩:=asked s[a].toNat h1 h3 h4 h5
     have h35:((s[a].toNat:Int)==35)=false:=by simp;omega
     clear h1 h2 h3 h4 h5
     go_wp2_with (first
      | (go_at_call 105;(with_reducible refine (qB _).mono ?_);rintro e w1 ⟨rfl,rfl⟩)
      | (go_at_call 106;(with_reducible refine (qL _).mono ?_);rintro e w1 ⟨rfl,rfl⟩)
      | (go_at_call 108;(with_reducible refine (qD _).mono ?_);rintro e w1 ⟨rfl,rfl⟩)
      | (go_at_call 110;(with_reducible refine (qG _).mono ?_);rintro e w1 ⟨rfl,rfl⟩))
     try rw [Exit.noGoto_ret]
     go_ret3
     exact ⟨_,rfl,hH.out.below,World.ownsRow_nil _ _ _ _⟩
  ·obtain rfl:i=s.size:=by omega
   obtain ⟨rfl,rfl,rfl⟩:=HU.out m 0 0 (.inr (.inl ⟨hs6,hP.out,rfl,rfl⟩))
   go_wp2
   try rw [Exit.noGoto_ret]
   go_ret3
   exact ⟨_,rfl,hH.out⟩
end Go.Proofs.YtdjfpghgklkejaaGreatDoor
namespace Go.Proofs.YtdjfpghgklkejaaGreatDoor
open Go.RowKit Go.Sort
abbrev flt (q:Fa):PanicEntry:={ v:=.iface 129 (.agg #[.int .i64 q.1,.int .i64 (q.2:Nat)]),recovered:=false }
abbrev tv (t:Tk):Value:=.agg #[.int .i64 t.k,.string t.t,.int .i64 t.p]
def SF (W:World) (v:Value) (l:List Tk):Prop:=∃a c,v=.slice a l.length c∧l.length≤c∧∀k,k<l.length→∃b o,a=some ⟨b,o,none⟩∧RT W b o l
theorem SF.below {W W':World} {v:Value} {l:List Tk} (h:SF W v l) (hb:Below W.heap.size W W'):SF W' v l:=by
 obtain ⟨a,c,e,hc,hr⟩:=h
 exact ⟨a,c,e,hc,fun k hk=>by obtain ⟨b,o,e,r⟩:=hr k hk;exact ⟨b,o,e,r.below hb⟩⟩
theorem SL.form {W:World} {v:Value} {l:List Tk} (h:SL W v l):SF W v l:=by
 rcases h with ⟨rfl,rfl⟩ | ⟨b,o,c,rfl,hc,r⟩
 ·exact ⟨none,0,rfl,Nat.le_refl _,fun k hk=>absurd hk (Nat.not_lt_zero _)⟩
 ·exact ⟨_,c,rfl,hc,fun _ _=>⟨b,o,rfl,r⟩⟩
section
variable {W W1 W2 : World} {rb : Nat}
end
def Ev (w:World) (n:String):Prop:=∃te pe,w.var? Tryz.prog n=some #[.iface te pe]
structure VR (w:World):Prop where
 pow : Lib.TabIs Tryz.prog w "internal/strconv.uint64pow10" .u64 Lib.pow10Tab
 ra : Ev w "strconv.ErrRange"
theorem VR.below {w w':World} (h:VR w) (hb:Below w.heap.size w w'):VR w':=by
 obtain ⟨te,pe,h1⟩:=h.ra
 exact ⟨Go.Joins.tab_stays (g:=0) (by kernel_rfl) h.pow hb (Nat.le_refl _),te,pe,Go.Joins.var_stays (g:=2) (by kernel_rfl) h1 hb (Nat.le_refl _)⟩
structure RS0 (w W:World) (rb:Nat) (ts:Value) (l:List Tk) (n:Int) (i:Nat) (v:Value):Prop where
 tok:SF w ts l
 below:Below w.heap.size w W
 ge:w.heap.size≤rb
 blk:BK W rb #[ts,.int .i64 i,.int .i64 n,v] 132
 le:i≤l.length
 len:l.length≤65536
 all:AllR l
 sz:∀k (h:k<l.length),l[k].t.size≤65536
 vr:VR w
theorem RS0.go {w W W':World} {rb:Nat} {ts:Value} {l:List Tk} {n:Int} {i j:Nat} {v v':Value} (H:RS0 w W rb ts l n i v) (g:GB W W' rb) (hb:BK W' rb #[ts,.int .i64 j,.int .i64 n,v'] 132) (hj:j≤l.length):RS0 w W' rb ts l n j v':=
 ⟨H.tok,H.below.grown g H.below.size (fun k e=>by rw [←Option.some.inj e];exact H.ge),H.ge,hb,hj,H.len,H.all,H.sz,H.vr⟩
theorem RS0.on {w W W':World} {rb:Nat} {ts:Value} {l:List Tk} {n:Int} {i:Nat} {v:Value} (H:RS0 w W rb ts l n i v) (g:Below W.heap.size W W'):RS0 w W' rb ts l n i v:=
 ⟨H.tok,btr H.below g,H.ge,(g.block rb H.blk.lt).trans H.blk,H.le,H.len,H.all,H.sz,H.vr⟩
theorem drop_at {l:List Tk} {i:Nat} (h:i<l.length):l.drop i=l[i]::l.drop (i+1):=List.drop_eq_getElem_cons h
theorem drop_out {l:List Tk} {i:Nat} (h:¬i<l.length):l.drop i=[]:=List.drop_eq_nil_of_le (by omega)
set_option maxHeartbeats 1000000 in
theorem take_ok (w W:World) (rb:Nat) (ts:Value) (l:List Tk) (n:Int) (i:Nat) (v:Value) (H:RS0 w W rb ts l n i v) (hi:i<l.length) :
  Calls Tryz.prog 145 #[.pointer (some ⟨rb,0,none⟩)] W fun e W'=>e=.returned (tv l[i])∧GB W W' rb∧RS0 w W' rb ts l n (i+1) v:=by
 have HH:Hid (RS0 w W rb ts l n i v):=H
 have c0:=H.blk.cell 0
 have c1:=H.blk.cell 1
 have f1:=H.blk.free 1
 have hlt:=H.blk.lt
 have hlen:=H.len
 have hB:=H.below.size
 simp at c0 c1
 have hge:=H.ge
 obtain ⟨a,c,rfl,hc,hr⟩:=H.tok
 obtain ⟨b,o,rfl,r0⟩:=hr i hi
 have hne:rb≠b:=by have:=r0.lt;omega
 have hne2:b≠rb:=by omega
 have r:=r0.below H.below
 have d0:=r.c0 i hi
 have d1:=r.c1 i hi
 have d2:=r.c2 i hi
 have hbl:=r.lt
 clear r r0 hr H
 go_enter Tryz.func145,Tryz.ntmps145
 go_upto_region 1 with (fail)
 go_quiet (fail)
 go_wp2
 go_region
 go_wp2
 have hg:∀(o1:Obj) (m:Nat) (x y1 y2 y3:Value),GB W ((((((W.alloc o1).drewN m).setCell ⟨rb,1,none⟩ x).setCell ⟨W.heap.size,0,none⟩ y1).setCell ⟨W.heap.size,1,none⟩ y2).setCell ⟨W.heap.size,2,none⟩ y3).drew rb:=fun o1 m x y1 y2 y3=>
  gb_drew (gb_set (gb_set (gb_set (gb_set (gb_drewN (gb_alloc (gb_refl _ _) _) _) _ _ _ (.inl rfl)) _ _ _ (.inr (Nat.le_refl _))) _ _ _ (.inr (Nat.le_refl _))) _ _ _ (.inr (Nat.le_refl _)))
 refine bodyPost_ret (v:=tv l[i]) (by simp [results,Tryz.results145,go_sem]) rfl ⟨rfl,hg _ _ _ _ _ _,HH.out.go (hg _ _ _ _ _ _) ?_ (by omega)⟩
 exact ((((BK.set ((HH.out.blk.alloc _).drewN _) 1 _).far (by omega) 0 _).far (by omega) 1 _).far (by omega) 2 _).drew
set_option maxHeartbeats 1000000 in
theorem take_no (w W:World) (rb:Nat) (ts:Value) (l:List Tk) (n:Int) (i:Nat) (v:Value) (H:RS0 w W rb ts l n i v) (hi:¬i<l.length) :
  Calls Tryz.prog 145 #[.pointer (some ⟨rb,0,none⟩)] W fun e W'=>e=.panicked [flt (n,101)]∧GB W W' rb:=by
 have c0:=H.blk.cell 0
 have c1:=H.blk.cell 1
 have c2:=H.blk.cell 2
 have hlt:=H.blk.lt
 have hlen:=H.len
 simp at c0 c1 c2
 obtain ⟨a,c,rfl,hc,hr⟩:=H.tok
 have h1:l.length≤i:=by omega
 clear hr H
 go_enter Tryz.func145,Tryz.ntmps145
 go_upto_region 1 with (fail)
 go_quiet (fail)
 go_wp2
 exact ⟨rfl,rfl,gb_drewN (gb_alloc (gb_refl _ _) _) _⟩
set_option maxHeartbeats 1000000 in
theorem sees_any (w W:World) (rb:Nat) (ts:Value) (l:List Tk) (n:Int) (i:Nat) (v:Value) (c:ByteArray) (H:RS0 w W rb ts l n i v) :
  Calls Tryz.prog 165 #[.pointer (some ⟨rb,0,none⟩),.string c] W fun e W'=>e=.returned (.bool (seesB c (l.drop i)))∧∃m,W'=W.drewN m:=by
 have c0:=H.blk.cell 0
 have c1:=H.blk.cell 1
 have hlt:=H.blk.lt
 have hlen:=H.len
 simp at c0 c1
 by_cases hi:i<l.length
 ·rw [drop_at hi]
  obtain ⟨a,cc,rfl,hc,hr⟩:=H.tok.below H.below
  obtain ⟨b,o,rfl,r⟩:=hr i hi
  have d1:=r.c1 i hi
  have hz:=beq_str l[i].t c
  clear r hr H
  show Calls _ _ _ _ fun e W'=>e=.returned (.bool (decide (l[i].t=c)))∧_
  rw [←hz]
  clear hz
  generalize l[i].t=t at *
  go_enter Tryz.func165,Tryz.ntmps165
  go_upto_region 1 with (fail)
  go_quiet (fail)
  go_wp2
  go_ret
  exact ⟨rfl,_,rfl⟩
 ·rw [drop_out hi]
  obtain ⟨a,cc,rfl,hc,hr⟩:=H.tok
  have h1:l.length≤i:=by omega
  have h2:decide (i<l.length)=false:=decide_eq_false hi
  have h3:decide ((i:Int)<(l.length:Int))=false:=decide_eq_false (by omega)
  clear hr H hi
  go_enter Tryz.func165,Tryz.ntmps165
  go_upto_region 1 with (fail)
  go_quiet (fail)
  go_wp2
  go_ret
  exact ⟨rfl,_,rfl⟩
def Told {α:Type} (w W:World) (rb:Nat) (ts:Value) (l:List Tk) (n:Int) (v:Value) (f:α→Value) (r:Except Fa (α × List Tk)) (e:Ending) (W':World):Prop:=
 GB W W' rb∧((∃q,r=.error q∧e=.panicked [flt q])∨∃x j,r=.ok (x,l.drop j)∧e=.returned (f x)∧RS0 w W' rb ts l n j v)
set_option maxHeartbeats 1000000 in
theorem sign_any' (w W:World) (rb:Nat) (ts:Value) (l:List Tk) (n:Int) (i:Nat) (v:Value) (c:ByteArray) (H:RS0 w W rb ts l n i v) :
  Calls Tryz.prog 150 #[.pointer (some ⟨rb,0,none⟩),.string c] W (Told w W rb ts l n v tv (signP n c (l.drop i))):=by
 have HA:=fun o=>H.on (bal (Below.refl W.heap.size W) o)
 have hlt:=H.blk.lt
 by_cases hi:i<l.length
 ·rw [drop_at hi]
  have TK:=fun o=>take_ok w (W.alloc o) rb ts l n i v (HA o) hi
  have hz:=beq_str l[i].t c
  by_cases hc:l[i].t=c
  ·have e:signP n c (l[i]::l.drop (i+1))=.ok (l[i],l.drop (i+1)):=by simp only [signP,if_pos hc]
   rw [e]
   rw [decide_eq_true hc] at hz
   clear e hc H HA
   unfold Told
   go_enter Tryz.func150,Tryz.ntmps150
   go_wp2_with (go_at_call 145;(with_reducible refine (TK _).mono ?_);rintro e w1 ⟨rfl,hG,hR⟩;have bx:=gb_bk hG (bk_new W _ _) (Nat.ne_of_gt hlt);have hs:=bx.lt;have x0:w1.cell? ⟨W.heap.size,0,none⟩=some (.int .i64 0):=bx.cell 0;have x1:w1.cell? ⟨W.heap.size,1,none⟩=some (.string ⟨#[]⟩):=bx.cell 1;have x2:w1.cell? ⟨W.heap.size,2,none⟩=some (.int .i64 0):=bx.cell 2;have y0:=bx.free 0;have y1:=bx.free 1;have y2:=bx.free 2;clear bx)
   have hg:∀(o1:Obj) (y1 y2 y3:Value),GB W ((((w1.setCell ⟨W.heap.size,0,none⟩ y1).setCell ⟨W.heap.size,1,none⟩ y2).setCell ⟨W.heap.size,2,none⟩ y3).alloc o1) rb:=fun o1 y1 y2 y3=>
    gb_alloc (gb_set (gb_set (gb_set (gb_trans (gb_alloc (gb_refl _ _) _) hG) _ _ _ (.inr (Nat.le_refl _))) _ _ _ (.inr (Nat.le_refl _))) _ _ _ (.inr (Nat.le_refl _))) _
   have hge:=hR.ge
   have hws:=hR.below
   refine bodyPost_ret (v:=tv l[i]) (by simp [results,Tryz.results150,go_sem,x0,x1,x2,hs]) rfl ⟨hg _ _ _ _,.inr ⟨_,i+1,rfl,rfl,?_⟩⟩
   exact ⟨hR.tok,(((hws.setCell (p:=⟨W.heap.size,0,none⟩) (Nat.le_trans hge (Nat.le_of_lt hlt)) _).setCell (p:=⟨W.heap.size,1,none⟩) (Nat.le_trans hge (Nat.le_of_lt hlt)) _).setCell (p:=⟨W.heap.size,2,none⟩) (Nat.le_trans hge (Nat.le_of_lt hlt)) _).alloc (by simp;omega) _,hge,(((hR.blk.far (Nat.ne_of_gt hlt) 0 _).far (Nat.ne_of_gt hlt) 1 _).far (Nat.ne_of_gt hlt) 2 _).alloc _,hR.le,hR.len,hR.all,hR.sz,hR.vr⟩
  ·have e:signP n c (l[i]::l.drop (i+1))=.error (l[i].p,100):=by simp only [signP,if_neg hc]
   rw [e]
   rw [decide_eq_false hc] at hz
   clear e hc H HA
   unfold Told
   go_enter Tryz.func150,Tryz.ntmps150
   go_wp2_with (go_at_call 145;(with_reducible refine (TK _).mono ?_);rintro e w1 ⟨rfl,hG,hR⟩;have bx:=gb_bk hG (bk_new W _ _) (Nat.ne_of_gt hlt);have hs:=bx.lt;have x0:w1.cell? ⟨W.heap.size,0,none⟩=some (.int .i64 0):=bx.cell 0;have x1:w1.cell? ⟨W.heap.size,1,none⟩=some (.string ⟨#[]⟩):=bx.cell 1;have x2:w1.cell? ⟨W.heap.size,2,none⟩=some (.int .i64 0):=bx.cell 2;have y0:=bx.free 0;have y1:=bx.free 1;have y2:=bx.free 2;clear bx)
   exact ⟨rfl,gb_alloc (gb_trans (gb_alloc (gb_refl _ _) _) hG) _,.inl ⟨_,rfl,rfl⟩⟩
 ·rw [drop_out hi]
  have TK:=fun o=>take_no w (W.alloc o) rb ts l n i v (HA o) hi
  clear H
  unfold Told
  go_enter Tryz.func150,Tryz.ntmps150
  go_wp2_with (go_at_call 145;(with_reducible refine (TK _).mono ?_);rintro e w1 ⟨rfl,hG⟩)
  exact ⟨rfl,gb_trans (gb_alloc (gb_refl _ _) _) hG,.inl ⟨_,rfl,rfl⟩⟩
set_option maxHeartbeats 1000000 in
theorem name_any (w W:World) (rb:Nat) (ts:Value) (l:List Tk) (n:Int) (i:Nat) (v:Value) (H:RS0 w W rb ts l n i v) :
  Calls Tryz.prog 147 #[.pointer (some ⟨rb,0,none⟩)] W (Told w W rb ts l n v Value.string (nameP n (l.drop i))):=by
 have hlt:=H.blk.lt
 by_cases hi:i<l.length
 ·rw [drop_at hi]
  have TK:=take_ok w W rb ts l n i v H hi
  have OW:=fun w=>isOwn_any l[i].t w
  by_cases hk:l[i].k=1
  ·cases ho:ownB l[i].t with
   | true=>
    have e:nameP n (l[i]::l.drop (i+1))=.error (l[i].p,100):=by simp only [nameP,plnB,ho];simp
    rw [e]
    rw [ho] at OW
    clear e H ho
    unfold Told
    go_enter Tryz.func147,Tryz.ntmps147
    go_wp2_with (first | (go_at_call 145;(with_reducible refine TK.mono ?_);rintro e w1 ⟨rfl,hG,hR⟩) | (go_at_call 146;(with_reducible refine (OW _).mono ?_);rintro e w2 ⟨rfl,hN⟩;obtain ⟨hc,hf⟩:=bcell hN))
    exact ⟨rfl,gb_below (gb_alloc hG _) hN,.inl ⟨_,rfl,rfl⟩⟩
   | false=>
    have e:nameP n (l[i]::l.drop (i+1))=.ok (l[i].t,l.drop (i+1)):=by simp only [nameP,plnB,ho,hk];simp
    rw [e]
    rw [ho] at OW
    clear e H ho
    unfold Told
    go_enter Tryz.func147,Tryz.ntmps147
    go_wp2_with (first | (go_at_call 145;(with_reducible refine TK.mono ?_);rintro e w1 ⟨rfl,hG,hR⟩) | (go_at_call 146;(with_reducible refine (OW _).mono ?_);rintro e w2 ⟨rfl,hN⟩;obtain ⟨hc,hf⟩:=bcell hN))
    go_ret
    exact ⟨gb_below (gb_alloc hG _) hN,.inr ⟨_,i+1,rfl,rfl,(hR.on (bal (Below.refl _ _) _)).on hN⟩⟩
  ·have e:nameP n (l[i]::l.drop (i+1))=.error (l[i].p,100):=by simp only [nameP,plnB,decide_eq_false hk];simp
   rw [e]
   have hk2:(l[i].k != 1)=true:=by simpa using hk
   clear e H OW hk
   unfold Told
   go_enter Tryz.func147,Tryz.ntmps147
   go_wp2_with (go_at_call 145;(with_reducible refine TK.mono ?_);rintro e w1 ⟨rfl,hG,hR⟩)
   exact ⟨rfl,gb_alloc hG _,.inl ⟨_,rfl,rfl⟩⟩
 ·rw [drop_out hi]
  have TK:=take_no w W rb ts l n i v H hi
  clear H
  unfold Told
  go_enter Tryz.func147,Tryz.ntmps147
  go_wp2_with (go_at_call 145;(with_reducible refine TK.mono ?_);rintro e w1 ⟨rfl,hG⟩)
  exact ⟨rfl,hG,.inl ⟨_,rfl,rfl⟩⟩
end Go.Proofs.YtdjfpghgklkejaaGreatDoor
namespace Go.Proofs.YtdjfpghgklkejaaGreatDoor
open Go.ChangeShapes Go.WideShapes Go.ChangeAt Go.RowKit Go.Joins
theorem Tryz.own:ownKnob Tryz.prog.godebug=none:=by kernel_rfl
theorem Tryz.laidOut:laidOutB Tryz.prog=true:=by kernel_rfl
def seatLaid : List (String × DataW Unit) := [("math/bits.deBruijn32tab", Rows.laid_math_bits_deBruijn32tab), ("math/bits.deBruijn64tab", Rows.laid_math_bits_deBruijn64tab), ("internal/strconv.uint64pow10", Rows.laid_internal_strconv_uint64pow10), ("strconv.ErrRange", Rows.laid_strconv_ErrRange), ("strconv.ErrSyntax", Rows.laid_strconv_ErrSyntax)]
theorem laid_tail {P:Program} {W:World} {x:String × DataW Unit} {l:List (String × DataW Unit)} (h:laidMet P (x::l) W):laidMet P l W:=by
 obtain ⟨ps,hl,hnd,hrows⟩:=h
 obtain ⟨g,t,cs,fuel,p,q,e1,e2,e3,e4,hr,rfl⟩:=hl
 exact ⟨q,hr,hnd.sublist (List.sublist_append_right _ _),fun b off hp=>hrows b off ((List.sublist_append_right _ _).subset hp)⟩
theorem ev_of_reads {w:World} {n:String} {nm:String} {d:DataW Unit} (h:Lib.VarReads Tryz.prog w n (.iface nm d)) {g:Nat} (hg:Tryz.prog.globalNamed n=some g) (ht:(Tryz.prog.globals[g]?).map (·.type)=some 219):Ev w n:=by
 obtain ⟨g',t,cs,fuel,p,h1,h2,h3,h4⟩:=h
 obtain rfl:=Option.some.inj (hg.symm.trans h1)
 obtain rfl:=Option.some.inj (ht.symm.trans h2)
 cases fuel with
 | zero=>simp [DataW.trod] at h4
 | succ fuel=>
  simp only [DataW.trod,Tryz.underlying219] at h4
  split at h4
  all_goals first
   | (rename_i u v a b;exact ⟨u,v,h3.trans (congrArg some (Array.toList_inj.1 (show cs.toList=(#[Value.iface u v]:Array Value).toList from b)))⟩)
   | (rename_i a b;cases a;done)
   | (rename_i b;cases b;done)
   | (cases h4;done)
theorem vr_of_laid {W:World} (h0:laidMetH Tryz.prog seatLaid W):VR W:=by
 rw [MakeChecks.laidMetH_plain _ _ _ (by kernel_rfl)] at h0
 have h' : laidMet Tryz.prog [("math/bits.deBruijn32tab", Rows.laid_math_bits_deBruijn32tab), ("math/bits.deBruijn64tab", Rows.laid_math_bits_deBruijn64tab), ("internal/strconv.uint64pow10", Lib.tabData .u64 Lib.pow10Tab), ("strconv.ErrRange", Rows.laid_strconv_ErrRange), ("strconv.ErrSyntax", Rows.laid_strconv_ErrSyntax)] W := h0
 have h1:=laid_tail h'
 have h2:=laid_tail h1
 exact ⟨Lib.tabIs_of_head (g:=0) (t:=235) (e:=47) (by kernel_rfl) (by kernel_rfl) Tryz.underlying235 Tryz.underlying47 (by kernel_rfl) (by kernel_rfl) h2,
  ev_of_reads (g := 2) (Lib.laidMet.reads h0 (n := "strconv.ErrRange") (d := Rows.laid_strconv_ErrRange) (by simp [seatLaid])) (by kernel_rfl) (by kernel_rfl)⟩
theorem seat_met (os:Os) (args:Array Value):laidMetH Tryz.prog seatLaid ((World.laidAll Tryz.prog os seatLaid).forCall (fun _ _=>0) ⟨#[],args,[]⟩).memory:=by
 rw [MakeChecks.laidMetH_plain _ _ _ (by kernel_rfl)]
 exact laidMet_laidAll _ (by kernel_rfl) (by kernel_rfl)
end Go.Proofs.YtdjfpghgklkejaaGreatDoor
