import Derived.BigQuiet
import Derived.Deep.QuietTactic
import Derived.OwnWalk
import Derived.Deep.LoopGhost
import Derived.Deep.RegionHeld3
import Derived.Test.YtolookeddknmoaaGreatQAG
import Derived.Test.YtolookeddknmoaaGreatQAH
import Derived.Test.YtolookeddknmoaaGreatQAK
set_option maxRecDepth 100000
set_option maxHeartbeats 8000000
namespace Go.Proofs.YtolookeddknmoaaGreat
section
open Go.RowKit
def Zqb (w:World) (l:List (Int×Int)) (kn kd:Int) (e:Ending) (w':World):Prop:=∃ v,e=.returned (.agg #[v,.int .i64 kn,.int .i64 kd])/\Zb w' v l/\Below w.heap.size w w'/\Zs w.heap.size v
theorem Zb.setCell {w:World} {B:Nat} {v:Value} {l:List (Int×Int)} (h:Zb w v l) (f:Zs B v) {p:Addr} (hp:p.block<B) (x:Value):Zb (w.setCell p x) v l:=by
 obtain ⟨A,c,rfl,h2,h3,h4⟩:=h
 refine ⟨A,c,rfl,h2,h3,h4.1,fun hn=>?_⟩
 obtain ⟨ad,rfl,hb,hc⟩:=h4.2 hn
 have:=f ad.block rfl
 refine ⟨ad,rfl,by rw [World.size_setCell];exact hb,fun j u hu=>?_⟩
 rw [World.cell?_setCell_other _ _ _ _ (fun e=>by have:=congrArg Addr.block e;rw [ZL] at this;omega)]
 exact hc j u hu
theorem Zhn (l:List (Int×Int)):(Zw l).length<=l.length:=by
 unfold Zw
 rw [List.length_reverse]
 have:=(List.dropWhile_sublist (fun x:Int×Int=>x.1==0) (l:=l.reverse)).length_le
 rwa [List.length_reverse] at this
theorem ZpZ (w:World):Calls Tryz.prog 36 #[] w fun r w'=>r=.returned (.agg #[.slice none 0 0,.int .i64 0,.int .i64 1])/\Below w.heap.size w w':=by
 go_enter Tryz.func36,Tryz.ntmps36
 go_wp2_with fail
 exact bodyPost_ret (v:=.agg #[.slice none 0 0,.int .i64 0,.int .i64 1]) (by simp [results,Tryz.results36,go_sem]) rfl ⟨rfl,Za _ _⟩
theorem ZdQ {w w1 w2:World} {x0 x1 x2:Value} (hb:Below w1.heap.size w1 w2)
  (h:(w1.cell? ⟨w.heap.size,0,none⟩=some x0/\w1.cell? ⟨w.heap.size,1,none⟩=some x1/\w1.cell? ⟨w.heap.size,2,none⟩=some x2)/\w.heap.size+1<w1.heap.size/\Below w.heap.size w w1/\(w1.cell? ⟨w.heap.size+1,0,none⟩=some (Zi w1 ⟨w.heap.size+1,0,none⟩)/\w1.cell? ⟨w.heap.size+1,1,none⟩=some (Zi w1 ⟨w.heap.size+1,1,none⟩)/\w1.cell? ⟨w.heap.size+1,2,none⟩=some (Zi w1 ⟨w.heap.size+1,2,none⟩))/\(w1.frozen? ⟨w.heap.size+1,0,none⟩=false/\w1.frozen? ⟨w.heap.size+1,1,none⟩=false/\w1.frozen? ⟨w.heap.size+1,2,none⟩=false)) :
  (w2.cell? ⟨w.heap.size,0,none⟩=some x0/\w2.cell? ⟨w.heap.size,1,none⟩=some x1/\w2.cell? ⟨w.heap.size,2,none⟩=some x2)/\w.heap.size+1<w2.heap.size/\Below w.heap.size w w2/\(w2.cell? ⟨w.heap.size+1,0,none⟩=some (Zi w2 ⟨w.heap.size+1,0,none⟩)/\w2.cell? ⟨w.heap.size+1,1,none⟩=some (Zi w2 ⟨w.heap.size+1,1,none⟩)/\w2.cell? ⟨w.heap.size+1,2,none⟩=some (Zi w2 ⟨w.heap.size+1,2,none⟩))/\(w2.frozen? ⟨w.heap.size+1,0,none⟩=false/\w2.frozen? ⟨w.heap.size+1,1,none⟩=false/\w2.frozen? ⟨w.heap.size+1,2,none⟩=false):=by
 obtain ⟨⟨a0,a1,a2⟩,g,k,⟨i0,i1,i2⟩,⟨j0,j1,j2⟩⟩:=h
 have hs:=hb.size
 exact ⟨⟨Zf hb (by omega) a0,Zf hb (by omega) a1,Zf hb (by omega) a2⟩,by omega,k.trans (hb.mono k.size),⟨ZJ (Zf hb (by omega) i0),ZJ (Zf hb (by omega) i1),ZJ (Zf hb (by omega) i2)⟩,⟨Zu hb (by omega) j0,Zu hb (by omega) j1,Zu hb (by omega) j2⟩⟩
theorem ZdW {w w1:World} {x0 x1 x2:Value} {o:Nat} {x:Value}
  (h:(w1.cell? ⟨w.heap.size,0,none⟩=some x0/\w1.cell? ⟨w.heap.size,1,none⟩=some x1/\w1.cell? ⟨w.heap.size,2,none⟩=some x2)/\w.heap.size+1<w1.heap.size/\Below w.heap.size w w1/\(w1.cell? ⟨w.heap.size+1,0,none⟩=some (Zi w1 ⟨w.heap.size+1,0,none⟩)/\w1.cell? ⟨w.heap.size+1,1,none⟩=some (Zi w1 ⟨w.heap.size+1,1,none⟩)/\w1.cell? ⟨w.heap.size+1,2,none⟩=some (Zi w1 ⟨w.heap.size+1,2,none⟩))/\(w1.frozen? ⟨w.heap.size+1,0,none⟩=false/\w1.frozen? ⟨w.heap.size+1,1,none⟩=false/\w1.frozen? ⟨w.heap.size+1,2,none⟩=false)) :
  ((w1.setCell ⟨w.heap.size+1,o,none⟩ x).cell? ⟨w.heap.size,0,none⟩=some x0/\(w1.setCell ⟨w.heap.size+1,o,none⟩ x).cell? ⟨w.heap.size,1,none⟩=some x1/\(w1.setCell ⟨w.heap.size+1,o,none⟩ x).cell? ⟨w.heap.size,2,none⟩=some x2)/\w.heap.size+1<(w1.setCell ⟨w.heap.size+1,o,none⟩ x).heap.size/\Below w.heap.size w (w1.setCell ⟨w.heap.size+1,o,none⟩ x)/\((w1.setCell ⟨w.heap.size+1,o,none⟩ x).cell? ⟨w.heap.size+1,0,none⟩=some (Zi (w1.setCell ⟨w.heap.size+1,o,none⟩ x) ⟨w.heap.size+1,0,none⟩)/\(w1.setCell ⟨w.heap.size+1,o,none⟩ x).cell? ⟨w.heap.size+1,1,none⟩=some (Zi (w1.setCell ⟨w.heap.size+1,o,none⟩ x) ⟨w.heap.size+1,1,none⟩)/\(w1.setCell ⟨w.heap.size+1,o,none⟩ x).cell? ⟨w.heap.size+1,2,none⟩=some (Zi (w1.setCell ⟨w.heap.size+1,o,none⟩ x) ⟨w.heap.size+1,2,none⟩))/\((w1.setCell ⟨w.heap.size+1,o,none⟩ x).frozen? ⟨w.heap.size+1,0,none⟩=false/\(w1.setCell ⟨w.heap.size+1,o,none⟩ x).frozen? ⟨w.heap.size+1,1,none⟩=false/\(w1.setCell ⟨w.heap.size+1,o,none⟩ x).frozen? ⟨w.heap.size+1,2,none⟩=false):=by
 obtain ⟨⟨a0,a1,a2⟩,g,k,⟨i0,i1,i2⟩,⟨j0,j1,j2⟩⟩:=h
 have q:∀ b o',b≠w.heap.size+1->(w1.setCell ⟨w.heap.size+1,o,none⟩ x).cell? ⟨b,o',none⟩=w1.cell? ⟨b,o',none⟩:=fun b o' hb=>World.cell?_setCell_other _ _ _ _ (by intro e;injection e with e;exact hb e.symm)
 exact ⟨⟨(q _ _ (by omega)).trans a0,(q _ _ (by omega)).trans a1,(q _ _ (by omega)).trans a2⟩,by rw [World.size_setCell];exact g,k.setCell (by show w.heap.size<=w.heap.size+1;omega) _,⟨Zap i0,Zap i1,Zap i2⟩,⟨by rw [World.frozen?_setCell];exact j0,by rw [World.frozen?_setCell];exact j1,by rw [World.frozen?_setCell];exact j2⟩⟩
theorem Zor (w:World) (A:Option Addr) (n c:Nat) (kn kd:Int):((((w.alloc (.cells #[.slice A n c,.int .i64 kn,.int .i64 kd] 27)).alloc (.cells #[.slice none 0 0,.int .i64 0,.int .i64 0] 27))).cell? ⟨w.heap.size,0,none⟩=some (.slice A n c)/\(((w.alloc (.cells #[.slice A n c,.int .i64 kn,.int .i64 kd] 27)).alloc (.cells #[.slice none 0 0,.int .i64 0,.int .i64 0] 27))).cell? ⟨w.heap.size,1,none⟩=some (.int .i64 kn)/\(((w.alloc (.cells #[.slice A n c,.int .i64 kn,.int .i64 kd] 27)).alloc (.cells #[.slice none 0 0,.int .i64 0,.int .i64 0] 27))).cell? ⟨w.heap.size,2,none⟩=some (.int .i64 kd))/\w.heap.size+1<(((w.alloc (.cells #[.slice A n c,.int .i64 kn,.int .i64 kd] 27)).alloc (.cells #[.slice none 0 0,.int .i64 0,.int .i64 0] 27))).heap.size/\Below w.heap.size w (((w.alloc (.cells #[.slice A n c,.int .i64 kn,.int .i64 kd] 27)).alloc (.cells #[.slice none 0 0,.int .i64 0,.int .i64 0] 27)))/\((((w.alloc (.cells #[.slice A n c,.int .i64 kn,.int .i64 kd] 27)).alloc (.cells #[.slice none 0 0,.int .i64 0,.int .i64 0] 27))).cell? ⟨w.heap.size+1,0,none⟩=some (Zi (((w.alloc (.cells #[.slice A n c,.int .i64 kn,.int .i64 kd] 27)).alloc (.cells #[.slice none 0 0,.int .i64 0,.int .i64 0] 27))) ⟨w.heap.size+1,0,none⟩)/\(((w.alloc (.cells #[.slice A n c,.int .i64 kn,.int .i64 kd] 27)).alloc (.cells #[.slice none 0 0,.int .i64 0,.int .i64 0] 27))).cell? ⟨w.heap.size+1,1,none⟩=some (Zi (((w.alloc (.cells #[.slice A n c,.int .i64 kn,.int .i64 kd] 27)).alloc (.cells #[.slice none 0 0,.int .i64 0,.int .i64 0] 27))) ⟨w.heap.size+1,1,none⟩)/\(((w.alloc (.cells #[.slice A n c,.int .i64 kn,.int .i64 kd] 27)).alloc (.cells #[.slice none 0 0,.int .i64 0,.int .i64 0] 27))).cell? ⟨w.heap.size+1,2,none⟩=some (Zi (((w.alloc (.cells #[.slice A n c,.int .i64 kn,.int .i64 kd] 27)).alloc (.cells #[.slice none 0 0,.int .i64 0,.int .i64 0] 27))) ⟨w.heap.size+1,2,none⟩))/\((((w.alloc (.cells #[.slice A n c,.int .i64 kn,.int .i64 kd] 27)).alloc (.cells #[.slice none 0 0,.int .i64 0,.int .i64 0] 27))).frozen? ⟨w.heap.size+1,0,none⟩=false/\(((w.alloc (.cells #[.slice A n c,.int .i64 kn,.int .i64 kd] 27)).alloc (.cells #[.slice none 0 0,.int .i64 0,.int .i64 0] 27))).frozen? ⟨w.heap.size+1,1,none⟩=false/\(((w.alloc (.cells #[.slice A n c,.int .i64 kn,.int .i64 kd] 27)).alloc (.cells #[.slice none 0 0,.int .i64 0,.int .i64 0] 27))).frozen? ⟨w.heap.size+1,2,none⟩=false):=
 ⟨⟨by go_simp,by go_simp,by go_simp⟩,by simp,ZI _ _ _,⟨ZJ (v:=.slice none 0 0) (by go_simp),ZJ (v:=.int .i64 0) (by go_simp),ZJ (v:=.int .i64 0) (by go_simp)⟩,⟨by go_simp,by go_simp,by go_simp⟩⟩
end
section
open Go.RowKit
theorem ZeY {α:Type} (p:α->Bool):∀ l:List α,(l.dropWhile p).dropWhile p=l.dropWhile p
 | []=>rfl
 | x::r=>by
  rw [List.dropWhile_cons]
  split
  ·exact ZeY p r
  ·rename_i h
   rw [List.dropWhile_cons,if_neg h]
theorem Zh7 (l:List (Int×Int)):Zw (Zw l)=Zw l:=by
 unfold Zw
 rw [List.reverse_reverse,ZeY]
theorem ZoV (l:List (Int×Int)):∀ x,x∈Zw l->x∈l:=by
 intro x hx
 unfold Zw at hx
 rw [List.mem_reverse] at hx
 exact List.mem_reverse.1 ((List.dropWhile_sublist _).mem hx)
theorem ZnM (l:List (Int×Int)):∀ x,(Zw l)[(Zw l).length-1]? = some x->0<(Zw l).length->x.1≠0:=by
 intro x hx hl hz
 have e:(Zw l).getLast? = some x:=by rw [List.getLast?_eq_getElem?];exact hx
 unfold Zw at e
 rw [List.getLast?_reverse] at e
 cases hd:l.reverse.dropWhile (fun x=>x.1==0) with
 | nil=>rw [hd] at e;cases e
 | cons y r=>
  rw [hd] at e
  obtain rfl:y=x:=by simpa using e
  have:=List.head?_dropWhile_not (fun x:Int×Int=>x.1==0) l.reverse
  rw [hd] at this
  simp [hz] at this
end
section
open Go.RowKit
def atL (l:List (Int×Int)) (i:Int):Int×Int:=if 0<=i then (l[i.toNat]?).getD (0,1) else (0,1)
theorem Zbt {l:List (Int×Int)} {i:Int} (h:i<0\/(l.length:Int)<=i):atL l i=(0,1):=by
 unfold atL
 split
 ·rw [List.getElem?_eq_none (by omega)]
  rfl
 ·rfl
theorem ZcT {l:List (Int×Int)} {k:Nat} {x:Int×Int} (h:l[k]? = some x):atL l (k:Int)=x:=by
 unfold atL
 rw [if_pos (by omega),Int.toNat_natCast,h]
 rfl
theorem ZoH (w:World):Calls Tryz.prog 82 #[] w fun r w'=>r=.returned (Ze 0 1)/\Below w.heap.size w w':=by
 go_enter Tryz.func82,Tryz.ntmps82
 go_wp2_with fail
 exact bodyPost_ret (v:=Ze 0 1) (by simp [results,Tryz.results82,go_sem]) rfl ⟨rfl,Za _ _⟩
theorem Zbx (w:World) (v:Value) (l:List (Int×Int)) (kn kd i:Int) (h:Zb w v l) :
  Calls Tryz.prog 56 #[.agg #[v,.int .i64 kn,.int .i64 kd],.int .i64 i] w fun r w'=>r=.returned (Ze (atL l i).1 (atL l i).2)/\Below w.heap.size w w':=by
 obtain ⟨A,c,rfl,h2,h3,h4⟩:=h
 have hb0:=ZI w (.cells #[.slice A l.length c,.int .i64 kn,.int .i64 kd] 27) (.cells #[.int .i64 0,.int .i64 0] 25)
 by_cases hi:i<0
 ·rw [Zbt (.inl hi)]
  have d1:decide (i<0)=true:=decide_eq_true hi
  clear h2 h3 h4
  go_enter Tryz.func56,Tryz.ntmps56
  go_wp2_with fail
  exact bodyPost_ret (v:=Ze 0 1) (by simp [results,Tryz.results56,go_sem]) rfl ⟨rfl,(ZI _ _ _)⟩
 ·have d1:decide (i<0)=false:=decide_eq_false hi
  by_cases hl:(l.length:Int)<=i
  ·rw [Zbt (.inr hl)]
   have d2:decide ((l.length:Int)<=i)=true:=decide_eq_true hl
   clear h2 h3 h4
   generalize l.length=n at *
   go_enter Tryz.func56,Tryz.ntmps56
   go_wp2_with fail
   exact bodyPost_ret (v:=Ze 0 1) (by simp [results,Tryz.results56,go_sem]) rfl ⟨rfl,(ZI _ _ _)⟩
  ·obtain ⟨k,rfl⟩:∃ k:Nat,i=k:=⟨i.toNat,by omega⟩
   have hk:k<l.length:=by omega
   obtain ⟨x,hx⟩:∃ x,l[k]? = some x:=⟨_,List.getElem?_eq_getElem hk⟩
   rw [ZcT hx]
   obtain ⟨ad,rfl,d3,d4⟩:=Za8 h4 hb0 hx (by omega)
   have d2:decide ((l.length:Int)<=(k:Int))=false:=decide_eq_false hl
   have i1:(k:Int)<(l.length:Int):=by omega
   have i2:(0:Int)<=(k:Int):=by omega
   clear h2 h3 h4 hx hi hl hk
   generalize l.length=n at *
   go_enter Tryz.func56,Tryz.ntmps56
   go_wp2_with fail
   exact bodyPost_ret (v:=Ze x.1 x.2) (by simp [results,Tryz.results56,go_sem]) rfl ⟨rfl,(ZI _ _ _)⟩
end
section
open Go.RowKit
def OkR (x:Int×Int):Prop:=∃ d:Nat,x.2=d/\Valid x.1 d
def ZF (l:List (Int×Int)):Prop:=∀ x,x∈l->OkR x
theorem ZfI {x:Int×Int} (h:Zas x.1 x.2=true) (hx:(-9223372036854775808<=x.1/\x.1<=9223372036854775807)/\(-9223372036854775808<=x.2/\x.2<=9223372036854775807)):OkR x:=
 ZpY h hx.1.1 hx.1.2 hx.2.2
theorem OkR.right {x:Int×Int} (h:OkR x):Zas x.1 x.2=true:=by
 obtain ⟨d,e,v⟩:=h
 rw [e]
 exact v.right
theorem OkR.wide {x:Int×Int} (h:OkR x):(-9223372036854775808<=x.1/\x.1<=9223372036854775807)/\(-9223372036854775808<=x.2/\x.2<=9223372036854775807):=by
 obtain ⟨d,e,v⟩:=h
 have:=v.pos;have:=v.n_le;have:=v.d_le
 omega
theorem OkR.pos {x:Int×Int} (h:OkR x):0<x.2.toNat:=by
 obtain ⟨d,e,v⟩:=h
 have:=v.pos
 omega
theorem OkR.eta {x:Int×Int} (h:OkR x):x.2=(x.2.toNat:Int)/\Valid x.1 x.2.toNat:=by
 obtain ⟨d,e,v⟩:=h
 rw [e]
 exact ⟨rfl,v⟩
theorem Zah:OkR (0,1):=⟨1,rfl,by decide,by decide,by decide,by decide⟩
theorem ZfT {l:List (Int×Int)} (h:Zbd l=true) (hw:Zv l):ZF l:=fun x hx=>ZfI (List.all_eq_true.1 h x hx) (hw x hx)
theorem ZF.all {l:List (Int×Int)} (h:ZF l):Zbd l=true:=List.all_eq_true.2 fun x hx=>(h x hx).right
theorem ZF.wide {l:List (Int×Int)} (h:ZF l):Zv l:=fun x hx=>(h x hx).wide
theorem ZF.at {l:List (Int×Int)} (h:ZF l) (i:Int):OkR (atL l i):=by
 unfold atL
 split
 ·cases e:l[i.toNat]? with
  | none=>exact Zah
  | some x=>exact h x (List.mem_of_getElem? e)
 ·exact Zah
theorem ZF.trim {l:List (Int×Int)} (h:ZF l):ZF (Zw l):=fun x hx=>h x (ZoV l x hx)
theorem Zam {l:List (Int×Int)} {kn kd:Int} (h:ZO l kn kd=true) (hw:Zv l) (h1:-9223372036854775808<=kn) (h2:kn<=9223372036854775807) (h3:-9223372036854775808<=kd) (h4:kd<=9223372036854775807):l.length<=8/\ZF l/\OkR (kn,kd):=by
 unfold ZO at h
 simp only [Bool.and_eq_true,decide_eq_true_eq] at h
 exact ⟨h.1.1,ZfT h.2 hw,ZfI h.1.2 ⟨⟨h1,h2⟩,h3,h4⟩⟩
theorem ZaA {l:List (Int×Int)} {kn kd:Int} (h:l.length<=8) (ha:ZF l) (hk:OkR (kn,kd)):ZO l kn kd=true:=by
 unfold ZO
 rw [ha.all,decide_eq_true h,hk.right]
 rfl
def Zcr (P:Int) (Q:Nat):(Int×Int)×Int:=((ZcK P Q,ZcP P Q),ZcJ P Q)
theorem ZmR {P:Int} {Q:Nat} (hQ:0<Q) (h:(Zcr P Q).2=0):OkR (Zcr P Q).1:=by
 obtain ⟨d,h1,h2,_⟩:=ZoA hQ h
 exact ⟨d,h1,h2⟩
theorem ZmP {P:Int} {Q:Nat} (h:(Zcr P Q).2≠0):Zcr P Q=((0,0),3):=by
 obtain ⟨a,b,c⟩:=Zq8 h
 unfold Zcr
 rw [a,b,c]
abbrev How:=(Int×Int)->(Int×Int)->(Int×Int)×Int
structure HowOk (h:How):Prop where
 ok:∀ x y,OkR x->OkR y->(h x y).2=0->OkR (h x y).1
 no:∀ x y,OkR x->OkR y->(h x y).2≠0->h x y=((0,0),3)
def Zo:How:=fun x y=>Zcr (x.1*y.2+y.1*x.2) (x.2.toNat*y.2.toNat)
def ZT:How:=fun x y=>Zcr (x.1*y.1) (x.2.toNat*y.2.toNat)
def Zx (k:Int×Int):How:=fun x _=>ZT x k
theorem Zbn:HowOk Zo:=⟨fun _ _ hx hy h=>ZmR (Nat.mul_pos hx.pos hy.pos) h,fun _ _ _ _ h=>ZmP h⟩
theorem Zb3:HowOk ZT:=⟨fun _ _ hx hy h=>ZmR (Nat.mul_pos hx.pos hy.pos) h,fun _ _ _ _ h=>ZmP h⟩
theorem Zcl {k:Int×Int} (hk:OkR k):HowOk (Zx k):=⟨fun x _ hx _ h=>Zb3.ok x k hx hk h,fun x _ hx _ h=>Zb3.no x k hx hk h⟩
def Zbr (h:How) (l m:List (Int×Int)) (n k:Nat):List (Int×Int):=(List.range n).map fun i:Nat=>if i<k then (h (atL l i) (atL m i)).1 else (0,0)
def ZaD (h:How) (l m:List (Int×Int)):List (Int×Int):=(List.range (max l.length m.length)).map fun i:Nat=>(h (atL l i) (atL m i)).1
def Zad (h:How) (l m:List (Int×Int)) (k:Nat):Prop:=∀ i:Nat,i<k->(h (atL l i) (atL m i)).2=0
theorem Zgi (h:How) (l m:List (Int×Int)) (n k:Nat):(Zbr h l m n k).length=n:=by simp [Zbr]
theorem Zea (h:How) (l m:List (Int×Int)):(ZaD h l m).length=max l.length m.length:=by simp [ZaD]
theorem Zlj (h:How) (l m:List (Int×Int)):Zbr h l m (max l.length m.length) (max l.length m.length)=ZaD h l m:=by
 unfold Zbr ZaD
 refine List.map_congr_left fun i hi=>?_
 rw [if_pos (List.mem_range.1 hi)]
theorem Ze6 (h:How) (l m:List (Int×Int)) (n k:Nat):Zbr h l m n (k+1)=(Zbr h l m n k).set k (h (atL l k) (atL m k)).1:=by
 apply List.ext_getElem?
 intro i
 rw [List.getElem?_set]
 simp only [Zgi]
 by_cases hi:i<n
 ·rw [Zbr,Zbr,List.getElem?_map,List.getElem?_map,List.getElem?_range hi]
  simp only [Option.map_some]
  by_cases e:k=i
  ·subst e
   rw [if_pos rfl,if_pos hi,if_pos (by omega)]
  ·rw [if_neg e]
   by_cases g:i<k
   ·rw [if_pos g,if_pos (by omega)]
   ·rw [if_neg g,if_neg (by omega)]
 ·rw [List.getElem?_eq_none (by rw [Zgi];omega),List.getElem?_eq_none (by rw [Zgi];omega)]
  by_cases e:k=i
  ·rw [if_pos e,if_neg (by omega)]
  ·rw [if_neg e]
theorem Zcx:∀ (l:List (Int×Int)) (k:Nat) (x:Int×Int),Zr (l.set k x)=((Zr l).set (k*2) (.int .i64 x.1)).set (k*2+1) (.int .i64 x.2)
 | [],k,x=>by simp [Zr]
 | y::r,0,x=>by simp [Zr]
 | y::r,k+1,x=>by
  rw [List.set_cons_succ,Zr,Zr,Zcx r k x,show (k+1)*2=k*2+1+1 by omega,show k*2+1+1+1=(k*2+1)+1+1 by omega]
  simp only [List.set_cons_succ]
theorem ZdH (h:How) (l m:List (Int×Int)) (n:Nat):(madeCells (.agg #[.int .i64 0,.int .i64 0]:Value).cells (n*2)).toList=Zr (Zbr h l m n 0):=by
 apply List.ext_getElem?
 intro j
 have hl:(Zr (Zbr h l m n 0)).length=n*2:=by rw [Zck,Zgi]
 by_cases hj:j<n*2
 ·have a:(madeCells (.agg #[.int .i64 0,.int .i64 0]:Value).cells (n*2)).toList[j]? = some (.int .i64 0):=by
   rw [Array.getElem?_toList]
   unfold madeCells
   rw [Array.getElem?_map,Array.getElem?_range,if_pos hj]
   simp only [Option.map_some,Value.cells]
   rcases Nat.mod_two_eq_zero_or_one j with e | e<;>simp [e]
  rw [a]
  have:j<(Zr (Zbr h l m n 0)).length:=by omega
  obtain ⟨u,hu⟩:∃ u,(Zr (Zbr h l m n 0))[j]? = some u:=⟨_,List.getElem?_eq_getElem this⟩
  rw [hu]
  have key:∀ (q:List (Int×Int)),(∀ x,x∈q->x=(0,0))->∀ (j:Nat) (u:Value),(Zr q)[j]? = some u->u=Value.int .i64 0:=by
   intro q
   induction q with
   | nil=>intro _ j u hu;simp [Zr] at hu
   | cons y r ih=>
    intro hq j u hu
    obtain rfl:=hq y (by simp)
    match j,hu with
    | 0,hu=>simpa [Zr] using hu.symm
    | 1,hu=>simpa [Zr] using hu.symm
    | j+2,hu=>exact ih (fun x hx=>hq x (by simp [hx])) j u (by simpa [Zr] using hu)
  rw [key _ (fun x hx=>by
   unfold Zbr at hx
   obtain ⟨i,_,rfl⟩:=List.mem_map.1 hx
   rw [if_neg (by omega)]) j u hu]
 ·rw [List.getElem?_eq_none (by rw [Array.length_toList,size_madeCells];omega),List.getElem?_eq_none (by omega)]
theorem ZcW {h:How} (hh:HowOk h) {l m:List (Int×Int)} (hl:ZF l) (hm:ZF m) (hc:Zad h l m (max l.length m.length)):ZF (ZaD h l m):=by
 intro x hx
 unfold ZaD at hx
 obtain ⟨i,hi,rfl⟩:=List.mem_map.1 hx
 exact hh.ok _ _ (hl.at i) (hm.at i) (hc i (List.mem_range.1 hi))
end
section
open Go.RowKit
theorem Zfe (w:World) (x y z x' y' z':Value) (ty:TypeId):FracBox ((w.alloc (.cells #[x,y,z] ty)).alloc (.cells #[x',y',z'] ty)) w.heap.size x y z/\FracBox ((w.alloc (.cells #[x,y,z] ty)).alloc (.cells #[x',y',z'] ty)) (w.heap.size+1) x' y' z':=
 ⟨(FracBox.start w x y z ty).keep (Za _ _),by
   have h:=FracBox.start (w.alloc (.cells #[x,y,z] ty)) x' y' z' ty
   rwa [World.size_alloc] at h⟩
theorem FracBox.drewN {w:World} {b:Nat} {x y z:Value} (h:FracBox w b x y z) (q:Nat):FracBox (w.drewN q) b x y z:=h.keep (below_drewN (Below.refl _ _) _)
end
section
open Go.RowKit
instance combOkDec (h:How) (l m:List (Int×Int)) (k:Nat):Decidable (Zad h l m k):=by unfold Zad;infer_instance
def ZaS (w:World) (l:List (Int×Int)) (k:Int×Int) (E:Int) (e:Ending) (w':World):Prop:=
 ∃ v,e=.returned (.tuple #[.agg #[v,.int .i64 k.1,.int .i64 k.2],.int .i64 E])/\Zb w' v l/\Below w.heap.size w w'/\Zs w.heap.size v
theorem ZaG (w:World) (x y z x' y' z' x2 y2 z2:Value) (ty:TypeId):FracBox (((w.alloc (.cells #[x,y,z] ty)).alloc (.cells #[x',y',z'] ty)).alloc (.cells #[x2,y2,z2] ty)) w.heap.size x y z/\FracBox (((w.alloc (.cells #[x,y,z] ty)).alloc (.cells #[x',y',z'] ty)).alloc (.cells #[x2,y2,z2] ty)) (w.heap.size+1) x' y' z'/\FracBox (((w.alloc (.cells #[x,y,z] ty)).alloc (.cells #[x',y',z'] ty)).alloc (.cells #[x2,y2,z2] ty)) (w.heap.size+1+1) x2 y2 z2 ∧
  Below w.heap.size w (((w.alloc (.cells #[x,y,z] ty)).alloc (.cells #[x',y',z'] ty)).alloc (.cells #[x2,y2,z2] ty)):=by
 obtain ⟨F,G⟩:=Zfe w x y z x' y' z' ty
 have h:=FracBox.start ((w.alloc (.cells #[x,y,z] ty)).alloc (.cells #[x',y',z'] ty)) x2 y2 z2 ty
 rw [World.size_alloc,World.size_alloc] at h
 have a:=Za ((w.alloc (.cells #[x,y,z] ty)).alloc (.cells #[x',y',z'] ty)) (.cells #[x2,y2,z2] ty)
 exact ⟨F.keep a,G.keep a,h,(ZI w _ _).trans (a.mono (by simp;omega))⟩
theorem FracBox.keepB {w1 w2:World} {b B:Nat} {x y z:Value} (h:FracBox w1 b x y z) (hb:Below B w1 w2) (hlt:b<B):FracBox w2 b x y z:=
 have t:=hb.size
 have l:=h.lt
 {k0:=(hb.cell (p:=⟨b,0,none⟩) hlt).trans h.k0,k1:=(hb.cell (p:=⟨b,1,none⟩) hlt).trans h.k1,k2:=(hb.cell (p:=⟨b,2,none⟩) hlt).trans h.k2,
  l0:=(hb.frozen (p:=⟨b,0,none⟩) hlt).trans h.l0,l1:=(hb.frozen (p:=⟨b,1,none⟩) hlt).trans h.l1,l2:=(hb.frozen (p:=⟨b,2,none⟩) hlt).trans h.l2,lt:=by omega }
theorem RatAt.keepB {w1 w2:World} {b B:Nat} {n d:Int} (h:RatAt w1 b n d) (hb:Below B w1 w2) (hlt:b<B):RatAt w2 b n d:=
 have z:=hb.size
 have l:=h.lt
 {k0:=(hb.cell (p:=⟨b,0,none⟩) hlt).trans h.k0,k1:=(hb.cell (p:=⟨b,1,none⟩) hlt).trans h.k1,lt:=by omega }
theorem ZH {w w1:World} {base n:Nat} {v:Value} {xs:List Value} (h:w.ownsRow base 25 2 v n xs) (hb:Below w.heap.size w w1):w1.ownsRow base 25 2 v n xs:=by
 refine ⟨h.1,?_⟩
 rcases h.2 with h2 | ⟨g,cap,cur,hv,hg,hh,r⟩
 ·exact .inl h2
 ·exact .inr ⟨g,cap,cur,hv,hg,by rw [hb.block g (by
   rcases Nat.lt_or_ge g w.heap.size with q | q
   ·exact q
   ·rw [Array.getElem?_eq_none q] at hh;cases hh)];exact hh,r⟩
def Zia (w:World) (v:Value) (l:List (Int×Int)) (e:Ending) (w':World):Prop:=∃ v',e=.returned v'/\Zb w' v' l/\Below w.heap.size w w'/\v'.ownBlock=v.ownBlock
theorem Zho (w:World) (v:Value) (l:List (Int×Int)) (h:Zb w v l):Calls Tryz.prog 75 #[v] w (Zia w v (Zw l)):=
 (Zml w v l h).mono fun _ _ h=>by
  obtain ⟨v',he,hr,rfl,ho⟩:=h
  exact ⟨v',he,hr,Below.refl _ _,ho⟩
structure CombS (w wr:World) (b n:Nat) (s:Value) (xn xd:Int) (t:Value) (yn yd zn zd:Int):Prop where
 F:FracBox wr w.heap.size s (.int .i64 xn) (.int .i64 xd)
 G:FracBox wr (w.heap.size+1) t (.int .i64 yn) (.int .i64 yd)
 E:FracBox wr (w.heap.size+1+1) (.slice none 0 0) (.int .i64 0) (.int .i64 0)
 R:RatAt wr b zn zd
 o:∃ xs,wr.ownsRow (w.heap.size+3) 25 2 (.slice (some ⟨b+1,0,none⟩) n n) n xs
 lt:w.heap.size+1+1<b
 below:Below w.heap.size w wr
section
variable {w wr w2:World} {b n:Nat} {s t:Value} {xn xd yn yd zn zd:Int}
theorem CombS.keep (h:CombS w wr b n s xn xd t yn yd zn zd) (hb:Below wr.heap.size wr w2):CombS w w2 b n s xn xd t yn yd zn zd:=
 ⟨h.F.keep hb,h.G.keep hb,h.E.keep hb,h.R.keep hb,by
  obtain ⟨xs,hx⟩:=h.o
  exact ⟨xs,ZH hx hb⟩,h.lt,h.below.trans (hb.mono h.below.size)⟩
theorem CombS.set (h:CombS w wr b n s xn xd t yn yd zn zd) (j:Nat) (u:Value):CombS w (wr.setCell ⟨b+1,j,none⟩ u) b n s xn xd t yn yd zn zd:=by
 have hl:=h.lt
 have hb:Below (b+1) wr (wr.setCell ⟨b+1,j,none⟩ u):=(Below.refl (b+1) wr).setCell (p:=⟨b+1,j,none⟩) (Nat.le_refl (b+1)) u
 obtain ⟨xs,hx⟩:=h.o
 exact ⟨h.F.keepB hb (by omega),h.G.keepB hb (by omega),h.E.keepB hb (by omega),h.R.keepB hb (by omega),⟨_,(hx.stored j u).1⟩,hl,h.below.trans (hb.mono (by omega))⟩
theorem CombS.row (h:CombS w wr b n s xn xd t yn yd zn zd) {j:Nat} (hj:j<n*2):wr.cell? ⟨b+1,j,none⟩=some (Zi wr ⟨b+1,j,none⟩)/\wr.frozen? ⟨b+1,j,none⟩=false:=by
 obtain ⟨xs,hx⟩:=h.o
 have hl:=hx.1
 exact ⟨ZJ ((hx.cellAt j hj).trans (List.getElem?_eq_getElem (by omega))),hx.frozenAt j⟩
theorem CombS.cells {k:Nat} (hk:k<n) (h:CombS w wr b n s xn xd t yn yd zn zd) :
  (((wr.cell? ⟨w.heap.size,0,none⟩=some s/\wr.cell? ⟨w.heap.size,1,none⟩=some (.int .i64 xn)/\wr.cell? ⟨w.heap.size,2,none⟩=some (.int .i64 xd))/\(wr.cell? ⟨w.heap.size+1,0,none⟩=some t/\wr.cell? ⟨w.heap.size+1,1,none⟩=some (.int .i64 yn)/\wr.cell? ⟨w.heap.size+1,2,none⟩=some (.int .i64 yd))) ∧
    ((wr.cell? ⟨b+1,k*2,none⟩=some (Zi wr ⟨b+1,k*2,none⟩)/\wr.cell? ⟨b+1,k*2+1,none⟩=some (Zi wr ⟨b+1,k*2+1,none⟩))/\(wr.frozen? ⟨b+1,k*2,none⟩=false/\wr.frozen? ⟨b+1,k*2+1,none⟩=false)))/\CombS w wr b n s xn xd t yn yd zn zd:=
 have r0:=h.row (j:=k*2) (by omega)
 have r1:=h.row (j:=k*2+1) (by omega)
 ⟨⟨⟨⟨h.F.k0,h.F.k1,h.F.k2⟩,⟨h.G.k0,h.G.k1,h.G.k2⟩⟩,⟨⟨r0.1,r1.1⟩,⟨r0.2,r1.2⟩⟩⟩,h⟩
theorem Zn {A:Prop} (h:A/\CombS w wr b n s xn xd t yn yd zn zd):CombS w wr b n s xn xd t yn yd zn zd:=h.2
end
structure EndS (w wr:World) (b:Nat) (zn zd:Int):Prop where
 R:RatAt wr b zn zd
 c0:wr.cell? ⟨w.heap.size+1+1,0,none⟩=some (Zi wr ⟨w.heap.size+1+1,0,none⟩)
 c1:wr.cell? ⟨w.heap.size+1+1,1,none⟩=some (Zi wr ⟨w.heap.size+1+1,1,none⟩)
 c2:wr.cell? ⟨w.heap.size+1+1,2,none⟩=some (Zi wr ⟨w.heap.size+1+1,2,none⟩)
 l0:wr.frozen? ⟨w.heap.size+1+1,0,none⟩=false
 l1:wr.frozen? ⟨w.heap.size+1+1,1,none⟩=false
 l2:wr.frozen? ⟨w.heap.size+1+1,2,none⟩=false
 sz:w.heap.size+1+1<wr.heap.size
 lt:w.heap.size+1+1<b
 below:Below w.heap.size w wr
section
variable {w wr w2:World} {b:Nat} {zn zd:Int}
theorem EndS.keep (h:EndS w wr b zn zd) (hb:Below wr.heap.size wr w2):EndS w w2 b zn zd:=
 have z:=hb.size
 have s:=h.sz
 ⟨h.R.keep hb,ZJ (Zf hb s h.c0),ZJ (Zf hb s h.c1),ZJ (Zf hb s h.c2),Zu hb s h.l0,Zu hb s h.l1,Zu hb s h.l2,by omega,h.lt,h.below.trans (hb.mono h.below.size)⟩
theorem EndS.set (h:EndS w wr b zn zd) (o:Nat) (x:Value):EndS w (wr.setCell ⟨w.heap.size+1+1,o,none⟩ x) b zn zd:=by
 have hl:=h.lt
 have q:∀ o',(wr.setCell ⟨w.heap.size+1+1,o,none⟩ x).cell? ⟨b,o',none⟩=wr.cell? ⟨b,o',none⟩:=fun o'=>World.cell?_setCell_far _ _ _ _ (by show w.heap.size+1+1≠b;omega)
 exact ⟨⟨(q 0).trans h.R.k0,(q 1).trans h.R.k1,by rw [World.size_setCell];exact h.R.lt⟩,Zap h.c0,Zap h.c1,Zap h.c2,by rw [World.frozen?_setCell];exact h.l0,by rw [World.frozen?_setCell];exact h.l1,by rw [World.frozen?_setCell];exact h.l2,by rw [World.size_setCell];exact h.sz,hl,h.below.setCell (by show w.heap.size<=w.heap.size+1+1;omega) _⟩
theorem EndS.cells (h:EndS w wr b zn zd):((wr.cell? ⟨b,0,none⟩=some (.int .i64 zn)/\wr.cell? ⟨b,1,none⟩=some (.int .i64 zd)) ∧
  (wr.cell? ⟨w.heap.size+1+1,0,none⟩=some (Zi wr ⟨w.heap.size+1+1,0,none⟩)/\wr.cell? ⟨w.heap.size+1+1,1,none⟩=some (Zi wr ⟨w.heap.size+1+1,1,none⟩)/\wr.cell? ⟨w.heap.size+1+1,2,none⟩=some (Zi wr ⟨w.heap.size+1+1,2,none⟩)) ∧
  (wr.frozen? ⟨w.heap.size+1+1,0,none⟩=false/\wr.frozen? ⟨w.heap.size+1+1,1,none⟩=false/\wr.frozen? ⟨w.heap.size+1+1,2,none⟩=false))/\EndS w wr b zn zd:=
 ⟨⟨⟨h.R.k0,h.R.k1⟩,⟨h.c0,h.c1,h.c2⟩,⟨h.l0,h.l1,h.l2⟩⟩,h⟩
theorem ZfA {A:Prop} (h:A/\EndS w wr b zn zd):EndS w wr b zn zd:=h.2
theorem ZiF {f w1:World} {x y z:Value} (hf:f=((w1.setCell ⟨w.heap.size+1+1,0,none⟩ x).setCell ⟨w.heap.size+1+1,1,none⟩ y).setCell ⟨w.heap.size+1+1,2,none⟩ z) (h:EndS w f b zn zd) :
  f.cell? ⟨w.heap.size+1+1,0,none⟩=some x/\f.cell? ⟨w.heap.size+1+1,1,none⟩=some y/\f.cell? ⟨w.heap.size+1+1,2,none⟩=some z/\Below w.heap.size w f:=by
 have i0:=h.c0;have i1:=h.c1;have i2:=h.c2;have k:=h.below
 subst hf
 obtain ⟨e0,e1,e2⟩:=Zek i0 i1 i2
 exact ⟨i0.trans (congrArg some e0),i1.trans (congrArg some e1),i2.trans (congrArg some e2),k⟩
end
theorem CombS.ends {w wr:World} {b n:Nat} {s t:Value} {xn xd yn yd zn zd:Int} (h:CombS w wr b n s xn xd t yn yd zn zd):EndS w wr b zn zd:=
 ⟨h.R,ZJ h.E.k0,ZJ h.E.k1,ZJ h.E.k2,h.E.l0,h.E.l1,h.E.l2,h.E.lt,h.lt,h.below⟩
theorem Zaj {w1:World} {b:Nat} {x y z u0 u1 u2:Value} (h0:w1.cell? ⟨b,0,none⟩=some u0) (h1:w1.cell? ⟨b,1,none⟩=some u1) (h2:w1.cell? ⟨b,2,none⟩=some u2) :
  (((w1.setCell ⟨b,0,none⟩ x).setCell ⟨b,1,none⟩ y).setCell ⟨b,2,none⟩ z).cell? ⟨b,0,none⟩=some x/\(((w1.setCell ⟨b,0,none⟩ x).setCell ⟨b,1,none⟩ y).setCell ⟨b,2,none⟩ z).cell? ⟨b,1,none⟩=some y/\(((w1.setCell ⟨b,0,none⟩ x).setCell ⟨b,1,none⟩ y).setCell ⟨b,2,none⟩ z).cell? ⟨b,2,none⟩=some z:=by
 obtain ⟨v0,g0⟩:=cell?_setCell_some (p:=⟨b,2,none⟩) (x:=z) (cell?_setCell_some (p:=⟨b,1,none⟩) (x:=y) (cell?_setCell_some (p:=⟨b,0,none⟩) (x:=x) h0).choose_spec).choose_spec
 obtain ⟨v1,g1⟩:=cell?_setCell_some (p:=⟨b,2,none⟩) (x:=z) (cell?_setCell_some (p:=⟨b,1,none⟩) (x:=y) (cell?_setCell_some (p:=⟨b,0,none⟩) (x:=x) h1).choose_spec).choose_spec
 obtain ⟨v2,g2⟩:=cell?_setCell_some (p:=⟨b,2,none⟩) (x:=z) (cell?_setCell_some (p:=⟨b,1,none⟩) (x:=y) (cell?_setCell_some (p:=⟨b,0,none⟩) (x:=x) h2).choose_spec).choose_spec
 obtain ⟨e0,e1,e2⟩:=Zek g0 g1 g2
 exact ⟨g0.trans (congrArg some e0),g1.trans (congrArg some e1),g2.trans (congrArg some e2)⟩
end
end Go.Proofs.YtolookeddknmoaaGreat
