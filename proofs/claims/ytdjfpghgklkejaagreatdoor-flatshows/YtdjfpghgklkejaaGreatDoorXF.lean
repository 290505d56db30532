/-
  Put together of: KD1 KD2 F1.
-/
import Derived.Test.YtdjfpghgklkejaaGreatDoorXD
import Derived.Test.YtdjfpghgklkejaaGreatDoorXE
import Derived.Test.YtdjfpghgklkejaaGreatDoorXB
namespace Go.Proofs.YtdjfpghgklkejaaGreatDoor
open Go.RowKit Go.Sort
abbrev ndv (a h:Nat):Value:=.agg #[.int .i64 (a:Nat),.int .i64 (h:Nat)]
def opN (o:Oq):Nat:=if o.k=1 then gar o.n else 1
def opH (o:Oq):Nat:=if o.k=1 then ghv o.n else 0
def KE (es:Array MapEntry):Prop:=∀e∈es.toList,∃s,e.key=.string s∧e.val=ndv (gar s) (ghv s)
def KM (W:World) (B:Nat):Prop:=∃es n,W.heap[B]?=some (.map es n)∧KE es
theorem ke_find {s:ByteArray}:∀(l:List MapEntry) (i:Nat),(∀e∈l,∃s,e.key=.string s∧e.val=ndv (gar s) (ghv s))→Instr.findNow .string (.string s) l i=some none∨∃j,Instr.findNow .string (.string s) l i=some (some (j,ndv (gar s) (ghv s)))
 | [],_,_=>.inl rfl
 | e::l,i,h=>by
  obtain ⟨x,ek,ev⟩:=h e (by simp)
  unfold Instr.findNow
  have es:Instr.sameNow .string (.string s) e.key=some (s==x):=by rw [ek];rfl
  rw [es]
  cases hb:(s==x) with
  | true=>
   have hx:s=x:=(MapKept.bytes_beq s x).1 hb
   subst hx
   exact .inr ⟨i,by rw [←ev]⟩
  | false=>exact ke_find l (i+1) (fun e' he=>h e' (by simp [he]))
theorem run_known (W:World) (B:Nat) (es:Array MapEntry) (n:Nat) (s:ByteArray) (j:Nat) (v:Value) (hb:W.heap[B]?=some (.map es n)) (h:Instr.findNow .string (.string s) es.toList 0=some (some (j,v))) :
  (Instr.lookup 150 (.map (some B)) (.string s) true).run Tryz.prog W=.ok (.tuple #[v,.bool true]) W:=by
 have h1:(Instr.checkKey es.isEmpty 10000 9 (.string s)).run Tryz.prog W=.ok () W:=MapKept.run_checkKey Tryz.underlying9 (by simp [MapKept.IsKey]) _ 9999
 have h2:=MapKept.run_findKey (w:=W) Tryz.underlying9 h
 unfold Instr.lookup
 simp only [Sem.run_bind,Sem.run_pure,run_underlying Tryz.underlying150,Result.andThen,MapKept.run_getObj_map hb,h1,h2]
 rfl
theorem zeroNeed (w:World):(zeroValue 152).run Tryz.prog w=.ok (.agg #[.int .i64 0,.int .i64 0]) w:=by kernel_rfl
theorem run_unknown (W:World) (B:Nat) (es:Array MapEntry) (n:Nat) (s:ByteArray) (hb:W.heap[B]?=some (.map es n)) (h:Instr.findNow .string (.string s) es.toList 0=some none) :
  (Instr.lookup 150 (.map (some B)) (.string s) true).run Tryz.prog W=.ok (.tuple #[.agg #[.int .i64 0,.int .i64 0],.bool false]) W:=by
 have h1:(Instr.checkKey es.isEmpty 10000 9 (.string s)).run Tryz.prog W=.ok () W:=MapKept.run_checkKey Tryz.underlying9 (by simp [MapKept.IsKey]) _ 9999
 have h2:=MapKept.run_findKey (w:=W) Tryz.underlying9 h
 unfold Instr.lookup
 simp only [Sem.run_bind,Sem.run_pure,run_underlying Tryz.underlying150,Result.andThen,MapKept.run_getObj_map hb,h1,h2,zeroNeed]
 rfl
def learnt (W:World) (B:Nat) (o:Obj):World:={ W with heap:=W.heap.setIfInBounds B o }
theorem run_learn (W:World) (B:Nat) (es:Array MapEntry) (n:Nat) (s:ByteArray) (v:Value) (hb:W.heap[B]?=some (.map es n)) (h:Instr.findNow .string (.string s) es.toList 0=some none) :
  (Instr.mapUpdate 150 (.map (some B)) (.string s) v).run Tryz.prog W=.ok () (learnt W B (.map (es.push ⟨.string s,v,n⟩) (n+1))):=by
 have h1:(Instr.checkKey false 10000 9 (.string s)).run Tryz.prog W=.ok () W:=MapKept.run_checkKey Tryz.underlying9 (by simp [MapKept.IsKey]) false 9999
 have h2:=MapKept.run_findKey (w:=W) Tryz.underlying9 h
 unfold Instr.mapUpdate
 simp only [Sem.run_bind,run_underlying Tryz.underlying150,Result.andThen,MapKept.run_getObj_map hb,h1,h2,MapKept.run_setObj_map _ hb,learnt]
theorem learnt_gb (W:World) (B:Nat) (o:Obj):GB W (learnt W B o) B:=
 ⟨rfl,rfl,rfl,by simp [learnt],fun k hk hne=>by
  show (W.heap.setIfInBounds B o)[k]?=W.heap[k]?
  rw [Array.getElem?_setIfInBounds_ne (fun e=>hne (by rw [e]))]⟩
theorem KM.learn {W:World} {B:Nat} {es:Array MapEntry} {n:Nat} (hb:W.heap[B]?=some (.map es n)) (hk:KE es) (s:ByteArray):KM (learnt W B (.map (es.push ⟨.string s,ndv (gar s) (ghv s),n⟩) (n+1))) B:=
 ⟨_,_,(MapKept.heap_set hb).1,fun e he=>by
  rw [Array.toList_push,List.mem_append] at he
  rcases he with he | he
  ·exact hk e he
  ·rw [List.mem_singleton] at he
   subst he
   exact ⟨s,rfl,rfl⟩⟩
theorem KM.keep {W W':World} {B:Nat} (h:KM W B) (hb:Below W.heap.size W W'):KM W' B:=by
 obtain ⟨es,n,h1,h2⟩:=h
 exact ⟨es,n,(hb.block B (Array.getElem?_eq_some_iff.1 h1).1).trans h1,h2⟩
theorem KM.set {W:World} {B:Nat} (h:KM W B) (b k:Nat) (v:Value) (hne:B≠b):KM (W.setCell ⟨b,k,none⟩ v) B:=by
 obtain ⟨es,n,h1,h2⟩:=h
 exact ⟨es,n,by rw [Below.heap_setCell _ ⟨b,k,none⟩ _ B hne];exact h1,h2⟩
theorem KM.lt {W:World} {B:Nat} (h:KM W B):B<W.heap.size:=by
 obtain ⟨es,n,h1,_⟩:=h
 exact (Array.getElem?_eq_some_iff.1 h1).1
theorem three_box {w w1:World} {cs ds es:Array Value} {T U V:TypeId} (h:Below (((w.alloc (.cells cs T)).alloc (.cells ds U)).alloc (.cells es V)).heap.size (((w.alloc (.cells cs T)).alloc (.cells ds U)).alloc (.cells es V)) w1):BK w1 w.heap.size cs T∧BK w1 (w.heap.size+1) ds U∧BK w1 (w.heap.size+1+1) es V:=by
 have e:=((bk_new w cs T).alloc (.cells ds U)).alloc (.cells es V)
 have e2:=(bk_new (w.alloc (.cells cs T)) ds U).alloc (.cells es V)
 rw [show (w.alloc (.cells cs T)).heap.size=w.heap.size+1 by simp] at e2
 have e3:=bk_new ((w.alloc (.cells cs T)).alloc (.cells ds U)) es V
 rw [show ((w.alloc (.cells cs T)).alloc (.cells ds U)).heap.size=w.heap.size+1+1 by simp] at e3
 exact ⟨(h.block _ e.lt).trans e,(h.block _ e2.lt).trans e2,(h.block _ e3.lt).trans e3⟩
structure ND (w W:World) (o:Oq) (a:Option Addr) (c B:Nat) (x y:Int) (es:Array MapEntry) (n:Nat):Prop where
 below:Below w.heap.size w W
 box:BK W w.heap.size (opc o a c).toArray 49
 res:BK W (w.heap.size+1) #[.int .i64 0,.int .i64 0] 152
 nb:BK W (w.heap.size+1+1) #[.int .i64 x,.int .i64 y] 152
 map:W.heap[B]?=some (.map es n)
theorem ND.on {w W W':World} {o:Oq} {a:Option Addr} {c B n:Nat} {x y:Int} {es:Array MapEntry} (h:ND w W o a c B x y es n) (hb:Below W.heap.size W W'):ND w W' o a c B x y es n:=
 ⟨btr h.below hb,(hb.block _ h.box.lt).trans h.box,(hb.block _ h.res.lt).trans h.res,(hb.block _ h.nb.lt).trans h.nb,(hb.block _ (Array.getElem?_eq_some_iff.1 h.map).1).trans h.map⟩
theorem ND.put {w W:World} {o:Oq} {a:Option Addr} {c B n:Nat} {x y:Int} {es:Array MapEntry} (h:ND w W o a c B x y es n) (hB:B<w.heap.size) (x' y':Int):ND w ((W.setCell ⟨w.heap.size+1+1,0,none⟩ (.int .i64 x')).setCell ⟨w.heap.size+1+1,1,none⟩ (.int .i64 y')) o a c B x' y' es n:=by
 refine ⟨bset (bset h.below _ _ _ (by omega)) _ _ _ (by omega),(h.box.far (by omega) _ _).far (by omega) _ _,(h.res.far (by omega) _ _).far (by omega) _ _,?_,?_⟩
 ·have:=(h.nb.set 0 (.int .i64 x')).set 1 (.int .i64 y')
  simpa using this
 ·rw [Below.heap_setCell _ ⟨w.heap.size+1+1,1,none⟩ _ B (by show B≠w.heap.size+1+1;omega),Below.heap_setCell _ ⟨w.heap.size+1+1,0,none⟩ _ B (by show B≠w.heap.size+1+1;omega)]
  exact h.map
set_option maxHeartbeats 2000000 in
set_option maxRecDepth 100000 in
theorem need_any (o:Oq) (a:Option Addr) (c B:Nat) (w:World) (hK:KM w B):Calls Tryz.prog 72 #[.map (some B),opv o a c] w fun e w'=>e=.returned (ndv (opN o) (opH o))∧KM w' B∧GB w w' B:=by
 by_cases hk:o.k=1
 case neg=>
  have h1:opN o=1:=by unfold opN;rw [if_neg hk]
  have h2:opH o=0:=by unfold opH;rw [if_neg hk]
  rw [h1,h2]
  have hk1:(o.k != 1)=true:=by simpa using hk
  clear hk h1 h2
  go_enter Tryz.func72,Tryz.ntmps72
  go_wp2
  exact bodyPost_ret (v:=ndv 1 0) (by simp [results,Tryz.results72,go_sem]) rfl ⟨rfl,hK.keep (bal (bal (Below.refl _ _) _) _),gb_alloc (gb_alloc (gb_refl _ _) _) _⟩
 case pos=>
 have h1:opN o=gar o.n:=by unfold opN;rw [if_pos hk]
 have h2:opH o=ghv o.n:=by unfold opH;rw [if_pos hk]
 rw [h1,h2]
 have hk1:(o.k != 1)=false:=by simpa using hk
 clear hk h1 h2
 have hlt:=hK.lt
 obtain ⟨es,n,hb,hE⟩:=hK
 rcases ke_find (s:=o.n) es.toList 0 hE with hF | ⟨j,hF⟩
 case inr=>
  have LK:∀x y,(Instr.lookup 150 (.map (some B)) (.string o.n) true).run Tryz.prog ((w.alloc x).alloc y)=.ok (.tuple #[ndv (gar o.n) (ghv o.n),.bool true]) ((w.alloc x).alloc y):=fun x y=>run_known _ B es n o.n j _ (by rw [Lib.alloc_old _ y B (by simp;omega),Lib.alloc_old _ x B hlt];exact hb) hF
  have HK:Hid (KM w B):=⟨es,n,hb,hE⟩
  clear hb hE hF
  go_enter Tryz.func72,Tryz.ntmps72
  go_wp2
  exact bodyPost_ret (v:=ndv (gar o.n) (ghv o.n)) (by simp [results,Tryz.results72,go_sem]) rfl ⟨rfl,HK.out.keep (bal (bal (bal (Below.refl _ _) _) _) _),gb_alloc (gb_alloc (gb_alloc (gb_refl _ _) _) _) _⟩
 have LK:∀x y,(Instr.lookup 150 (.map (some B)) (.string o.n) true).run Tryz.prog ((w.alloc x).alloc y)=.ok (.tuple #[.agg #[.int .i64 0,.int .i64 0],.bool false]) ((w.alloc x).alloc y):=fun x y=>run_unknown _ B es n o.n (by rw [Lib.alloc_old _ y B (by simp;omega),Lib.alloc_old _ x B hlt];exact hb) hF
 have AR:=fun w=>arity_any o.n w
 have HV:=fun w=>halves_any o.n w
 have HB:Hid (w.heap[B]?=some (.map es n)):=hb
 have HE:Hid (KE es):=hE
 have HF:Hid (Instr.findNow .string (.string o.n) es.toList 0=some none):=hF
 clear hb hE hF
 go_enter Tryz.func72,Tryz.ntmps72
 go_upto_region 5 with (fail)
 have hN:Hid (ND w (((w.alloc (.cells (opc o a c).toArray 49)).alloc (.cells #[.int .i64 0,.int .i64 0] 152)).alloc (.cells #[.int .i64 0,.int .i64 0] 152)) o a c B 0 0 es n):=by
  obtain ⟨b1,b2,b3⟩:=three_box (Below.refl (((w.alloc (.cells (opc o a c).toArray 49)).alloc (.cells #[.int .i64 0,.int .i64 0] 152)).alloc (.cells #[.int .i64 0,.int .i64 0] 152)).heap.size (((w.alloc (.cells (opc o a c).toArray 49)).alloc (.cells #[.int .i64 0,.int .i64 0] 152)).alloc (.cells #[.int .i64 0,.int .i64 0] 152)))
  exact ⟨bal (bal (bal (Below.refl _ _) _) _) _,b1,b2,b3,by rw [Lib.alloc_old _ _ B (by simp;omega),Lib.alloc_old _ _ B (by simp;omega),Lib.alloc_old _ _ B hlt];exact HB.out⟩
 generalize hV:(((w.alloc (.cells (opc o a c).toArray 49)).alloc (.cells #[.int .i64 0,.int .i64 0] 152)).alloc (.cells #[.int .i64 0,.int .i64 0] 152))=V at *
 clear hV LK
 have c1:V.cell? ⟨w.heap.size,1,none⟩=some (.string o.n):=hN.out.box.cell 1
 have l0:w.heap.size<V.heap.size:=hN.out.box.lt
 have l2:w.heap.size+1+1<V.heap.size:=hN.out.nb.lt
 have d0:V.cell? ⟨w.heap.size+1+1,0,none⟩=some (.int .i64 0):=hN.out.nb.cell 0
 have d1:V.cell? ⟨w.heap.size+1+1,1,none⟩=some (.int .i64 0):=hN.out.nb.cell 1
 have f0:=hN.out.nb.free 0
 have f1:=hN.out.nb.free 1
 go_cut [26] from 20 to 26 (fun _ W=>Hid (ND w W o a c B (gar o.n:Nat) (ghv o.n:Nat) es n))
 case first=>
  go_region_with (first
   | (go_at_call 52;(with_reducible refine (AR _).mono ?_);rintro e w1 ⟨rfl,hB1⟩;(first | (have hM1:=hN.out.on hB1) | (have hM1:=hN.out.on (btr (below_drew (Below.refl _ _)) hB1)) | (have hM1:=hM2.on hB1) | (have hM1:=hM2.on (btr (below_drew (Below.refl _ _)) hB1)));have e1:w1.cell? ⟨w.heap.size,1,none⟩=some (.string o.n):=hM1.box.cell 1;have e2:=hM1.box.lt;have e3:=hM1.nb.lt;have e4:w1.cell? ⟨w.heap.size+1+1,0,none⟩=some (.int .i64 0):=hM1.nb.cell 0;have e5:w1.cell? ⟨w.heap.size+1+1,1,none⟩=some (.int .i64 0):=hM1.nb.cell 1;have e6:=hM1.nb.free 0;have e7:=hM1.nb.free 1)
   | (go_at_call 124;(with_reducible refine (HV _).mono ?_);rintro e w2 ⟨rfl,hB2⟩;(first | (have hM2:=hN.out.on hB2) | (have hM2:=hN.out.on (btr (below_drew (Below.refl _ _)) hB2)) | (have hM2:=hM1.on hB2) | (have hM2:=hM1.on (btr (below_drew (Below.refl _ _)) hB2)));have g1:w2.cell? ⟨w.heap.size,1,none⟩=some (.string o.n):=hM2.box.cell 1;have g2:=hM2.box.lt;have g3:=hM2.nb.lt;have g4:w2.cell? ⟨w.heap.size+1+1,0,none⟩=some (.int .i64 0):=hM2.nb.cell 0;have g5:w2.cell? ⟨w.heap.size+1+1,1,none⟩=some (.int .i64 0):=hM2.nb.cell 1;have g6:=hM2.nb.free 0;have g7:=hM2.nb.free 1))
  all_goals
   go_wp2
   go_meet
   case rel=>first | exact hM2.put hlt _ _ | exact hM1.put hlt _ _ | exact (hM2.on (below_drew (Below.refl _ _))).put hlt _ _ | exact (hM1.on (below_drew (Below.refl _ _))).put hlt _ _
 case rest=>
  clear c1 l0 l2 d0 d1 f0 f1 hN
  have hL:=run_learn wc B es n o.n (ndv (gar o.n) (ghv o.n)) hcut.out.map HF.out
  have c1:wc.cell? ⟨w.heap.size,1,none⟩=some (.string o.n):=hcut.out.box.cell 1
  have d0:wc.cell? ⟨w.heap.size+1+1,0,none⟩=some (.int .i64 (gar o.n:Nat)):=hcut.out.nb.cell 0
  have d1:wc.cell? ⟨w.heap.size+1+1,1,none⟩=some (.int .i64 (ghv o.n:Nat)):=hcut.out.nb.cell 1
  have l0:=hcut.out.box.lt
  have l2:=hcut.out.nb.lt
  have G:=learnt_gb wc B (.map (es.push ⟨.string o.n,ndv (gar o.n) (ghv o.n),n⟩) (n+1))
  have KN:Hid (KM (learnt wc B (.map (es.push ⟨.string o.n,ndv (gar o.n) (ghv o.n),n⟩) (n+1))) B):=KM.learn hcut.out.map HE.out o.n
  generalize hX:learnt wc B (.map (es.push ⟨.string o.n,ndv (gar o.n) (ghv o.n),n⟩) (n+1))=X at *
  have b2:BK X (w.heap.size+1+1) _ _:=gb_bk G hcut.out.nb (by omega)
  have b1:BK X (w.heap.size+1) _ _:=gb_bk G hcut.out.res (by omega)
  have x0:X.cell? ⟨w.heap.size+1+1,0,none⟩=some (.int .i64 (gar o.n:Nat)):=b2.cell 0
  have x1:X.cell? ⟨w.heap.size+1+1,1,none⟩=some (.int .i64 (ghv o.n:Nat)):=b2.cell 1
  have y0:X.cell? ⟨w.heap.size+1,0,none⟩=some (.int .i64 0):=b1.cell 0
  have y1:X.cell? ⟨w.heap.size+1,1,none⟩=some (.int .i64 0):=b1.cell 1
  have z0:=b1.free 0
  have z1:=b1.free 1
  have z2:=b1.lt
  have z3:=b2.lt
  have HG:Hid (GB w X B):=gb_trans ⟨hcut.out.below.os,hcut.out.below.tape,hcut.out.below.output,hcut.out.below.size,fun k hk _=>hcut.out.below.block k hk⟩ G
  clear hX G
  go_wp2
  refine bodyPost_ret (v:=ndv (gar o.n) (ghv o.n)) (by simp [results,Tryz.results72,go_sem, *]) rfl ⟨rfl,?_,?_⟩
  ·exact (KN.out.set _ _ _ (by omega)).set _ _ _ (by omega)
  ·exact gb_set (gb_set HG.out _ _ _ (.inr (by omega))) _ _ _ (.inr (by omega))
end Go.Proofs.YtdjfpghgklkejaaGreatDoor
namespace Go.Proofs.YtdjfpghgklkejaaGreatDoor
open Go.RowKit Go.Sort
def lkF (q:Int) (b:Nat):List Oq→Nat→Nat→Nat × Nat × Nat
 | [],_,h=>(0,h,0)
 | o::l,k,h=>if opE o q b (opN o)≠0 then (k,0,opE o q b (opN o)) else if 36<h+opH o then (k,0,116) else lkF q b l (k+1) (h+opH o)
def badC (c:Ci):Prop:=c.q<0∨64<c.q∨c.b<0∨64<c.b
def badB (c:Ci):Bool:=decide (c.q<0∨64<c.q∨c.b<0∨64<c.b)
theorem bad_iff (c:Ci):badB c=true↔badC c:=by unfold badB badC;simp
def lk (c:Ci):Nat × Nat × Nat:=if badB c=true then (0,0,2) else if 4096<c.ops.length then (0,0,115) else lkF c.q c.b.toNat c.ops 0 0
theorem opE_le (o:Oq) (q:Int) (b n:Nat):opE o q b n≤120:=by
 unfold opE
 repeat' split
 all_goals omega
theorem opH_le (o:Oq):opH o≤1:=by
 unfold opH
 have:=ghv_le o.n
 split <;> omega
theorem lk_drop {q:Int} {b:Nat} {l:List Oq} {k h:Nat} (hk:k<l.length):lkF q b (l.drop k) k h=if opE l[k] q b (opN l[k])≠0 then (k,0,opE l[k] q b (opN l[k])) else if 36<h+opH l[k] then (k,0,116) else lkF q b (l.drop (k+1)) (k+1) (h+opH l[k]):=by
 rw [List.drop_eq_getElem_cons hk]
 rfl
structure LW (w W:World) (c:Ci) (a:Option Addr) (k:Nat):Prop where
 below:Below w.heap.size w W
 box:BK W w.heap.size (cic c a k) 27
 map:KM W (w.heap.size+1)
theorem LW.on {w W W':World} {c:Ci} {a:Option Addr} {k:Nat} (h:LW w W c a k) (hb:Below W.heap.size W W'):LW w W' c a k:=
 ⟨btr h.below hb,(hb.block _ h.box.lt).trans h.box,h.map.keep hb⟩
theorem LW.gb {w W W':World} {c:Ci} {a:Option Addr} {k:Nat} (h:LW w W c a k) (hg:GB W W' (w.heap.size+1)) (hk:KM W' (w.heap.size+1)):LW w W' c a k:=
 ⟨h.below.grown hg h.below.size (fun k e=>by cases e;omega),gb_bk hg h.box (by omega),hk⟩
set_option maxHeartbeats 4000000 in
set_option maxRecDepth 100000 in
theorem look_any (c:Ci) (a:Option Addr) (cp:Nat) (A:Nat→Option Addr) (C:Nat→Nat) (w:World) (H:OS w a cp c.ops A C) :
  Calls Tryz.prog 39 #[civ c a cp] w fun e w'=>e=.returned (.tuple #[.int .i64 ((lk c).1:Nat),.int .i64 ((lk c).2.1:Nat),.int .i64 ((lk c).2.2:Nat)])∧Below w.heap.size w w':=by
 by_cases hbad:badC c
 ·have e:lk c=(0,0,2):=by unfold lk;rw [if_pos ((bad_iff c).2 hbad)]
  rw [e]
  have hw:c.q<0∨(¬c.q<0∧64<c.q)∨(¬c.q<0∧¬64<c.q∧c.b<0)∨(¬c.q<0∧¬64<c.q∧¬c.b<0∧64<c.b):=by unfold badC at hbad;omega
  clear e hbad H
  rcases hw with h1 | ⟨h1,h2⟩ | ⟨h1,h2,h3⟩ | ⟨h1,h2,h3,h4⟩
  all_goals
   go_enter Tryz.func39,Tryz.ntmps39
   go_wp2
   go_ret3
   exact ⟨rfl,bal (Below.refl _ _) _⟩
 obtain ⟨q,b,os⟩:=c
 simp only at H
 unfold badC at hbad
 simp only at hbad
 have h1:¬q<0:=by omega
 have h2:¬64<q:=by omega
 have h3:¬b<0:=by omega
 have h4:¬64<b:=by omega
 have hl:=H.l
 by_cases hm:4096<os.length
 ·have e:lk ⟨q,b,os⟩=(0,0,115):=by unfold lk;rw [if_neg (by rw [bad_iff];unfold badC;exact hbad),if_pos hm]
  rw [e]
  have hm2:(4096:Int)<(os.length:Int):=by omega
  clear e hbad H
  go_enter Tryz.func39,Tryz.ntmps39
  go_wp2
  go_ret3
  exact ⟨rfl,bal (Below.refl _ _) _⟩
 have hm2:¬(4096:Int)<(os.length:Int):=by omega
 obtain ⟨bn,hbn⟩:∃bn:Nat,b=(bn:Int):=⟨b.toNat,by omega⟩
 subst hbn
 have hb64:bn≤64:=by omega
 have HLK:Hid (lk ⟨q,bn,os⟩=lkF q bn os 0 0):=by
  show _=_
  unfold lk
  rw [if_neg (by rw [bad_iff];unfold badC;exact hbad),if_neg hm]
  rfl
 generalize lk ⟨q,bn,os⟩=R at *
 have HO:Hid (OS w a cp os A C):=H
 have hcap:=H.cap
 have hmm := @run_makeMap Tryz.prog
 have HLW:Hid (LW w ((w.alloc (.cells (cic ⟨q,bn,os⟩ a cp) 27)).alloc (.map #[] 0)) ⟨q,bn,os⟩ a cp):=
  ⟨bal (bal (Below.refl _ _) _) _,(bk_new w _ 27).alloc _,by
   have:=(MapKept.heap_alloc (w.alloc (.cells (cic ⟨q,bn,os⟩ a cp) 27)) (.map #[] 0)).1
   rw [show (w.alloc (.cells (cic ⟨q,bn,os⟩ a cp) 27)).heap.size=w.heap.size+1 by simp] at this
   exact ⟨_,_,this,fun e he=>by simp at he⟩⟩
 clear hbad H hm
 go_enter Tryz.func39,Tryz.ntmps39
 go_wp2
 go_loopw [6,37] (fun v6 v37 wr=>∃k h:Nat,k≤os.length∧h≤36∧v6=.int .i64 h∧v37=.int .i64 k∧Hid (LW w wr ⟨q,bn,os⟩ a cp)∧Hid (R=lkF q bn (os.drop k) k h)) (fun _ v37 _=>os.length-(intOf v37).toNat)
 case atStart=>exact ⟨0,0,Nat.zero_le _,Nat.zero_le _,rfl,rfl,HLW,HLK⟩
 case round=>
  clear HLW HLK hmm
  obtain ⟨k,h,hk,hh,rfl,rfl,hL,hR⟩:=hrel
  by_cases hlt:k<os.length
  case neg=>
   obtain rfl:k=os.length:=by omega
   obtain rfl:R=(0,h,0):=by rw [hR.out,List.drop_of_length_le (Nat.le_refl _)];rfl
   go_wp2
   go_ret3
   exact ⟨rfl,hL.out.below⟩
  have hO:=HO.out.below hL.out.below
  obtain ⟨b',o',rfl,r⟩:=hO.at_ k hlt
  have hQ:=HO.out.qs k hlt
  have hF:=HO.out.fit k hlt
  have m0:=r.c0 k hlt
  have m1:=r.c1 k hlt
  have m2:=r.c2 k hlt
  have m3:=r.c3 k hlt
  have m4:=r.c4 k hlt
  have m5:=r.c5 k hlt
  have m6:=r.c6 k hlt
  have hbl:=r.lt
  have hR2:=hR.out
  rw [lk_drop hlt] at hR2
  clear r hO hR
  generalize os[k]=o at *
  generalize A k=ak at *
  generalize C k=ck at *
  have hE3:=opE_le o q bn (opN o)
  have hH:=opH_le o
  have HQ:Hid (QS w ak ck o.qs):=hQ
  have HF:Hid (Fit o):=hF
  have NE:=fun w1 h=>need_any o ak ck (w.heap.size+1) w1 h
  have CK:=fun w1 h=>checkOp_any o ak ck q bn (opN o) (some ⟨b',o',none⟩) os.length cp w1 HF.out h hb64
  clear hQ hF
  generalize opE o q bn (opN o)=E at *
  generalize opN o=n at *
  generalize opH o=hv at *
  have hBz:=hL.out.below.size
  have hXz:w.heap.size+1<wr.heap.size:=hL.out.map.lt
  have HR2:Hid (R=if E≠0 then (k,0,E) else if 36<h+hv then (k,0,116) else lkF q bn (os.drop (k+1)) (k+1) (h+hv)):=hR2
  clear hR2
  have hcases:(E≠0)∨(E=0∧36<h+hv)∨(E=0∧¬36<h+hv):=by omega
  rcases hcases with hE | ⟨rfl,hE⟩ | ⟨rfl,hE⟩
  ·obtain rfl:R=(k,0,E):=by rw [HR2.out,if_pos hE]
   have hE1:((E:Int) != 0)=true:=bne_iff_ne.2 (by omega)
   clear HR2 hE
   go_wp2_with (first
    | (go_at_call 72;(with_reducible refine (NE _ (hL.out.map.keep (bal (Below.refl _ _) _))).mono ?_);rintro e w1 ⟨rfl,hK1,hG1⟩;have hL1:=(hL.out.on (bal (Below.refl _ _) _)).gb hG1 hK1;have bO:=gb_bk hG1 (bk_new wr (opc o ak ck).toArray 49) (by omega);have qO:∀j,w1.cell? ⟨wr.heap.size,j,none⟩=_:=bO.cell;have zO:=bO.lt;have qC:∀j,w1.cell? ⟨w.heap.size,j,none⟩=_:=hL1.box.cell;have zC:=hL1.box.lt;clear bO hK1 hG1)
    | (go_at_call 73;(with_reducible refine (CK _ (HQ.out.below (hL1.on (bal (Below.refl _ _) _)).below)).mono ?_);rintro e w2 ⟨rfl,hB2⟩))
   go_ret3
   exact ⟨rfl,(hL1.on (btr (bal (Below.refl _ _) _) hB2)).below⟩
  ·obtain rfl:R=(k,0,116):=by rw [HR2.out,if_neg (by simp),if_pos hE]
   have hE2:(36:Int)<(h:Int)+(hv:Int):=by omega
   clear HR2 hE
   go_wp2_with (first
    | (go_at_call 72;(with_reducible refine (NE _ (hL.out.map.keep (bal (Below.refl _ _) _))).mono ?_);rintro e w1 ⟨rfl,hK1,hG1⟩;have hL1:=(hL.out.on (bal (Below.refl _ _) _)).gb hG1 hK1;have bO:=gb_bk hG1 (bk_new wr (opc o ak ck).toArray 49) (by omega);have qO:∀j,w1.cell? ⟨wr.heap.size,j,none⟩=_:=bO.cell;have zO:=bO.lt;have qC:∀j,w1.cell? ⟨w.heap.size,j,none⟩=_:=hL1.box.cell;have zC:=hL1.box.lt;clear bO hK1 hG1)
    | (go_at_call 73;(with_reducible refine (CK _ (HQ.out.below (hL1.on (bal (Below.refl _ _) _)).below)).mono ?_);rintro e w2 ⟨rfl,hB2⟩;have bN:=one_box hB2;have qN:∀j,w2.cell? ⟨w1.heap.size,j,none⟩=_:=bN.cell;have zN:=bN.lt;clear bN))
   go_ret3
   exact ⟨rfl,(hL1.on (btr (bal (Below.refl _ _) _) hB2)).below⟩
  ·have HR3:Hid (R=lkF q bn (os.drop (k+1)) (k+1) (h+hv)):=by show _=_;rw [HR2.out,if_neg (by simp),if_neg hE]
   have hE2:¬(36:Int)<(h:Int)+(hv:Int):=by omega
   clear HR2
   go_wp2_with (first
    | (go_at_call 72;(with_reducible refine (NE _ (hL.out.map.keep (bal (Below.refl _ _) _))).mono ?_);rintro e w1 ⟨rfl,hK1,hG1⟩;have hL1:=(hL.out.on (bal (Below.refl _ _) _)).gb hG1 hK1;have bO:=gb_bk hG1 (bk_new wr (opc o ak ck).toArray 49) (by omega);have qO:∀j,w1.cell? ⟨wr.heap.size,j,none⟩=_:=bO.cell;have zO:=bO.lt;have qC:∀j,w1.cell? ⟨w.heap.size,j,none⟩=_:=hL1.box.cell;have zC:=hL1.box.lt;clear bO hK1 hG1)
    | (go_at_call 73;(with_reducible refine (CK _ (HQ.out.below (hL1.on (bal (Below.refl _ _) _)).below)).mono ?_);rintro e w2 ⟨rfl,hB2⟩;have bN:=one_box hB2;have qN:∀j,w2.cell? ⟨w1.heap.size,j,none⟩=_:=bN.cell;have zN:=bN.lt;clear bN))
   go_roundw
   case rel=>exact ⟨k+1,h+hv,by omega,by omega,by go_num,by go_num,hL1.on (btr (bal (Below.refl _ _) _) hB2),HR3⟩
   case measure=>simp [intOf];omega
set_option maxHeartbeats 400000 in
theorem check_any (c:Ci) (a:Option Addr) (cp:Nat) (A:Nat→Option Addr) (C:Nat→Nat) (w:World) (H:OS w a cp c.ops A C) :
  Calls Tryz.prog 18 #[civ c a cp] w fun e w'=>e=.returned (.tuple #[.int .i64 ((lk c).1:Nat),.int .i64 ((lk c).2.2:Nat)])∧Below w.heap.size w w':=by
 have L:=fun w1 h=>look_any c a cp A C w1 h
 have HO:Hid (OS w a cp c.ops A C):=H
 clear H
 go_enter Tryz.func18,Tryz.ntmps18
 go_wp2_with (go_at_call 39;(with_reducible refine (L _ (HO.out.below (bal (Below.refl _ _) _))).mono ?_);rintro e w1 ⟨rfl,hB⟩)
 go_ret2
 exact ⟨rfl,btr (bal (Below.refl _ _) _) hB⟩
end Go.Proofs.YtdjfpghgklkejaaGreatDoor
namespace Go.Proofs.YtdjfpghgklkejaaGreatDoor
structure Sd where
 p:Int
 n:Nat
 g:Bool
 m:Nat
 v:Nat
structure TO where
 k:Int
 n:ByteArray
 qs:List Int
 b:Int
 st:Option Sd
structure Mn where
 s:Nat
 f:Nat
 z:Nat
 d:Nat
 l:List TO
structure En where
 nm:ByteArray→Option Mn
 q:Nat
 b:Nat
 pr:List ByteArray
 d:Nat
def en0:En:=⟨fun s=>if 0<gar s then some ⟨3,0,gar s,0,[]⟩ else none,0,0,[],0⟩
def srt (en:En) (s:ByteArray):Nat:=((en.nm s).map Mn.s).getD 0
def putN (f:ByteArray→Option Mn) (s:ByteArray) (m:Mn):ByteArray→Option Mn:=fun t=>if t=s then some m else f t
def hasB (k:ByteArray):Bool:=decide (k=wGate) || decide (k=wRepeat) || decide (k=wIf)
def hasN (k:ByteArray):Bool:=decide (k=wQubits) || decide (k=wBits) || decide (k=wUse) || decide (k=wMeasure) || decide (k=wReset)
def mayB (k:ByteArray) (sd:Sd):Bool:=
 if (decide (k=wUse) || decide (k=wRepeat))=true then true
 else if (decide (k=wQubits) || decide (k=wBits) || decide (k=wGate))=true then decide (sd.n=0)
 else !sd.g
def badF (r:Rw) (behind:Nat):Bool:=if hasB r.kind=true then decide (r.rows<0) || decide ((behind:Int)<r.rows) else if hasN r.kind=true then decide (r.rows≠0) else true
def formE (r:Rw) (behind:Nat) (sd:Sd):Nat:=if badF r behind=true then 100 else if 32<sd.n then 102 else if mayB r.kind sd=true then 0 else 100
def elE (en:En) (a:Ar) (s:Nat):Except Nat Nat:=
 match en.nm a.n with
 | some m=>if m.s=s then (if a.x<0∨(m.z:Int)≤a.x then .error 112 else .ok (m.f+a.x.toNat)) else .error 110
 | none=>.error 110
def idxN (s:ByteArray):List ByteArray→Option Nat
 | []=>none
 | t::l=>if t=s then some 0 else (idxN s l).map (·+1)
def quE (en:En) (g:Bool) (a:Ar):Except Nat Nat:=
 if g=true then (if a.x ≠ -1 then .error 112 else match idxN a.n en.pr with | some j=>.ok j | none=>.error 110) else elE en a 1
def quL (en:En) (g:Bool):List Ar→Except Nat (List Nat)
 | []=>.ok []
 | a::l=>match quE en g a with
  | .error e=>.error e
  | .ok n=>match quL en g l with
   | .error e=>.error e
   | .ok ns=>.ok (n::ns)
def ilN (l:List Nat):List Int:=l.map fun (n:Nat)=>(n:Int)
def subT (qs:List Int) (st:Option Sd) (t:TO):TO:=⟨t.k,t.n,if qs=[] then t.qs else t.qs.map fun j=>qs.getD j.toNat 0,t.b,match t.st with | some s=>some s | none=>st⟩
def stO (sd:Sd):Option Sd:=if sd.g=true then none else some sd
def mskN (m:Mn):Nat:=(2 ^ m.z-1)*2 ^ m.f
def valN (m:Mn) (x:Nat):Nat:=x*2 ^ m.f
abbrev RecT:=En→Sd→List Rw→Except Fa (En × List TO)
def deeper (sd:Sd):Sd:=⟨sd.p,sd.n+1,sd.g,sd.m,sd.v⟩
def decE (en:En) (r:Rw) (all:Nat):Nat:=if srt en r.name≠0 then 110 else if r.num<1 then 112 else if ((64:Int)-all)<r.num then 1 else 0
def defE (en:En) (r:Rw):Nat:=if srt en r.name≠0 then 110 else if r.args=[] then 111 else if (r.args.any fun a=>decide (a.x ≠ -1))=true then 112 else if (r.args.map Ar.n).Nodup then 0 else 113
def useE (en:En) (sd:Sd) (r:Rw):Nat:=
 if srt en r.name=4 then 114 else if srt en r.name≠3∧srt en r.name≠5 then 80 else
 match en.nm r.name with
 | none=>80
 | some m=>if r.args.length≠m.z then 111 else
  match quL en sd.g r.args with
  | .error e=>e
  | .ok qs=>if ¬qs.Nodup then 113 else if sd.g=true∧32<max en.d (m.d+1) then 102 else 0
def useD (en:En) (sd:Sd) (r:Rw):Nat:=if sd.g=true then max en.d (((en.nm r.name).map Mn.d).getD 0+1) else en.d
def useL (en:En) (sd:Sd) (r:Rw):List TO:=
 match en.nm r.name,quL en sd.g r.args with
 | some m,.ok qs=>if m.s=3 then [⟨1,r.name,ilN qs,0,stO sd⟩] else m.l.map (subT (ilN qs) (stO sd))
 | _,_=>[]
def rowR (rec:RecT) (en:En) (sd:Sd) (r:Rw) (body:List Rw):Except Fa (En × List TO):=
 if r.kind=wQubits then (if decE en r en.q≠0 then .error (sd.p,decE en r en.q) else .ok (⟨putN en.nm r.name ⟨1,en.q,r.num.toNat,0,[]⟩,en.q+r.num.toNat,en.b,en.pr,en.d⟩,[]))
 else if r.kind=wBits then (if decE en r en.b≠0 then .error (sd.p,decE en r en.b) else .ok (⟨putN en.nm r.name ⟨2,en.b,r.num.toNat,0,[]⟩,en.q,en.b+r.num.toNat,en.pr,en.d⟩,[]))
 else if r.kind=wGate then
  (if defE en r≠0 then .error (sd.p,defE en r) else
   match rec ⟨putN en.nm r.name ⟨4,0,0,0,[]⟩,en.q,en.b,r.args.map Ar.n,1⟩ ⟨sd.p,sd.n+1,true,sd.m,sd.v⟩ body with
   | .error e=>.error e
   | .ok (en1,L)=>.ok (⟨putN en1.nm r.name ⟨5,0,r.args.length,en1.d,L⟩,en1.q,en1.b,en1.pr,en1.d⟩,[]))
 else if r.kind=wRepeat then
  (if r.num<0 then .error (sd.p,112) else
   match rec en (deeper sd) body with
   | .error e=>.error e
   | .ok (en1,L)=>.ok (en1,(List.replicate r.num.toNat L).flatten))
 else if r.kind=wIf then
  (match en.nm r.name with
   | none=>.error (sd.p,110)
   | some m=>if m.s≠2 then .error (sd.p,110) else if r.num<0∨((2 ^ m.z:Nat):Int)≤r.num then .error (sd.p,112) else
    match rec en ⟨sd.p,sd.n+1,sd.g,sd.m|||mskN m,sd.v|||valN m r.num.toNat⟩ body with
    | .error e=>.error e
    | .ok (en1,L)=>.ok (en1,if sd.m&&&mskN m≠0∧sd.v&&&mskN m≠valN m r.num.toNat then [] else L))
 else if r.kind=wMeasure then
  (match r.args with
   | [a,c]=>match elE en a 1 with
    | .error e=>.error (sd.p,e)
    | .ok q=>match elE en c 2 with
     | .error e=>.error (sd.p,e)
     | .ok b=>.ok (en,[⟨2,⟨#[]⟩,[(q:Int)],b,stO sd⟩])
   | _=>.error (sd.p,111))
 else if r.kind=wReset then
  (match r.args with
   | [a]=>match elE en a 1 with
    | .error e=>.error (sd.p,e)
    | .ok q=>.ok (en,[⟨3,⟨#[]⟩,[(q:Int)],0,stO sd⟩])
   | _=>.error (sd.p,111))
 else if useE en sd r≠0 then .error (sd.p,useE en sd r) else .ok (⟨en.nm,en.q,en.b,en.pr,useD en sd r⟩,useL en sd r)
def lookB:Nat→RecT
 | 0,en,_,_=>.ok (en,[])
 | _+1,en,_,[]=>.ok (en,[])
 | k+1,en,sd,r::rs=>
  if formE r rs.length sd≠0 then .error (r.place,formE r rs.length sd)
  else match rowR (lookB k) en ⟨r.place,sd.n,sd.g,sd.m,sd.v⟩ r (rs.take r.rows.toNat) with
   | .error e=>.error e
   | .ok (en1,L1)=>match lookB k en1 sd (rs.drop r.rows.toNat) with
    | .error e=>.error e
    | .ok (en2,L2)=>.ok (en2,L1++L2)
abbrev sd0:Sd:=⟨0,0,false,0,0⟩
def sdT (t:TO):Sd:=t.st.getD sd0
def opT (t:TO):Oq:=⟨t.k,t.n,t.qs,t.b,decide ((sdT t).m≠0),(sdT t).m,(sdT t).v⟩
def FlS (rs:List Rw) (c:Ci) (p:Int) (e:Nat):Prop:=
 match lookB (rs.length+1) en0 sd0 rs with
 | .error x=>c=noCi∧p=x.1∧e=x.2
 | .ok (en,L)=>
  if 4096<L.length then c=noCi∧e=115∧∃t,L[4096]?=some t∧p=(sdT t).p
  else if (lk ⟨en.q,en.b,L.map opT⟩).2.2=0 then c=⟨en.q,en.b,L.map opT⟩∧p=0∧e=0
  else c=noCi∧e=(lk ⟨en.q,en.b,L.map opT⟩).2.2∧∃t,L[(lk ⟨en.q,en.b,L.map opT⟩).1]?=some t∧p=(sdT t).p
def T4 (a b:List TO):Prop:=a.take 4097=b.take 4097
theorem T4.refl (a:List TO):T4 a a:=rfl
theorem T4.len {a b:List TO} (h:T4 a b):min 4097 a.length=min 4097 b.length:=by
 have:=congrArg List.length h
 rwa [List.length_take,List.length_take] at this
theorem T4.app {a b c d:List TO} (h:T4 a b) (g:T4 c d):T4 (a++c) (b++d):=by
 have hl:=h.len
 unfold T4 at *
 rw [List.take_append,List.take_append,h]
 congr 1
 have e:4097-a.length=4097-b.length:=by omega
 rw [e]
 have:=congrArg (List.take (4097-b.length)) g
 rwa [List.take_take,List.take_take,Nat.min_eq_left (by omega)] at this
theorem T4.map {a b:List TO} (h:T4 a b) (f:TO→TO):T4 (a.map f) (b.map f):=by
 unfold T4 at *
 rw [←List.map_take,←List.map_take,h]
theorem T4.rep {a b:List TO} (h:T4 a b):∀n,T4 (List.replicate n a).flatten (List.replicate n b).flatten
 | 0=>T4.refl _
 | n+1=>by
  rw [List.replicate_succ,List.replicate_succ,List.flatten_cons,List.flatten_cons]
  exact h.app (h.rep n)
theorem T4.trans {a b c:List TO} (h:T4 a b) (g:T4 b c):T4 a c:=Eq.trans h g
theorem T4.nil_iff {a b:List TO} (h:T4 a b):a=[]↔b=[]:=by
 have:=h.len
 constructor
 ·intro e
  subst e
  exact List.eq_nil_of_length_eq_zero (by rw [List.length_nil] at this;omega)
 ·intro e
  subst e
  exact List.eq_nil_of_length_eq_zero (by rw [List.length_nil] at this;omega)
end Go.Proofs.YtdjfpghgklkejaaGreatDoor
