import Derived.Test.YtkongcicmajolaaGreatDoorQAN
set_option maxRecDepth 100000
set_option maxHeartbeats 8000000
namespace Go.Proofs.YtkongcicmajolaaGreatDoor
section
open Go.RowKit
theorem PrS.deep {w0 w:World} {bp dp:Nat} {t:Txt} {vn:Value} (h:PrS w0 w bp t dp vn) (d:Nat):PrS w0 (w.setCell ⟨bp,1,none⟩ (.int .i64 (d:Int))) bp t d vn:=by
 obtain ⟨v,h1,h2⟩:=h.box
 exact ⟨⟨v,by simpa using h1.set 1 (.int .i64 (d:Int)),ZdJ h2 (h1.off h2 (by decide))⟩,h.below.setCell h.ge _,h.ge⟩
theorem Fr.cell (w:World) (bp i:Nat) (v:Value):Fr w (w.setCell ⟨bp,i,none⟩ v) bp:=
 ⟨by simp [World.setCell],fun b ty cs h1 _ h3=>Zh.other h3 (fun e=>h1 e.symm) _⟩
theorem PrS.cells {w0 w:World} {bp dp:Nat} {t:Txt} {vn:Value} (h:PrS w0 w bp t dp vn):w.cell? ⟨bp,1,none⟩=some (.int .i64 dp)/\w.frozen? ⟨bp,1,none⟩=false/\w.cell? ⟨bp,2,none⟩=some vn:=by
 obtain ⟨v,h1,_⟩:=h.box
 have c1:=h1.blk.cell 1
 have c2:=h1.blk.cell 2
 have f1:=h1.blk.free 1
 simp only [List.getElem?_toArray,List.getElem?_cons_zero,List.getElem?_cons_succ] at c1 c2
 exact ⟨c1,f1,c2⟩
theorem ZgQ (F:Nat) (hF:Enters F) (w0 w:World) (bp dp:Nat) (t:Txt) (vn:Value) (ns:List Nd) (A:Option Addr) (c:Nat) (ks:List Int) (Ok:Nd->Prop) (T:Nd->Txt) (h:PrS w0 w bp t dp vn) (hN:Zs w0 vn ns) (hd:dp<4000)
  (hK:ZM w0 w0.heap.size 1 A ks.length (ks.map (Value.int .i64))) (hkl:ks.length<=maxLen) (hok:Zaa ns ks Ok) (hE:Zc1 F w0 ns (dp+1) Ok T) (hl:t.length+(ZI dp (ks.map fun k=>T (Za ns k))).length+10000<=140737488355328) :
  Calls Tryz.prog 37 #[.pointer (some ⟨bp,0,none⟩),.slice A ks.length c,.func (.func F) #[.pointer (some ⟨bp,0,none⟩)] #[]] w fun e w'=>e=.returned (.tuple #[])/\PrS w0 w' bp (t++ZI dp (ks.map fun k=>T (Za ns k))) dp vn/\Fr w w' bp:=by
 by_cases hz:ks=[]
 ·subst hz
  have e1:ZI dp (([]:List Int).map fun k=>T (Za ns k))=[32,123,32,125]:=rfl
  rw [e1] at hl ⊢
  have AD:=zh (Zaf w0 w bp dp t vn [32,123,32,125] h (by simp only [List.length_cons,List.length_nil] at hl ⊢;omega))
  have t0:(((([]:List Int).length:Nat):Int)==0)=true:=rfl
  clear hl e1 hE hok hkl hK hN h
  go_enter Tryz.func37,Tryz.ntmps37
  go_wp2_with (go_at_call 36;(refine AD.out.mono ?_);rintro e w1 ⟨rfl,hp,hf⟩;have H1:=zh (zi hp hf);clear hp hf)
  refine bodyPost_ret (v:=.tuple #[]) (results_none (by kernel_rfl) _ _ _) rfl ⟨rfl,H1.out⟩
 ·have e1:ZI dp (ks.map fun k=>T (Za ns k))=[32,123,10]++Zbq (dp+1) (ks.map fun k=>T (Za ns k))++Zdi dp++[125]:=by
   cases ks with
   | nil=>exact absurd rfl hz
   | cons a r=>rfl
  rw [e1] at hl ⊢
  simp only [List.length_append,List.length_cons,List.length_nil] at hl
  have t0:((ks.length:Int)==0)=false:=by
   cases ks with
   | nil=>exact absurd rfl hz
   | cons a r=>rw [beq_eq_false_iff_ne];simp only [List.length_cons];omega
  have wd:IntKind.i64.wrap ((dp:Int)+1)=((dp+1:Nat):Int):=(IntWalk.i64_in _ (by omega)).trans (by push_cast;rfl)
  have wd2:IntKind.i64.wrap (((dp+1:Nat):Int)-1)=(dp:Int):=(IntWalk.i64_in _ (by omega)).trans (by push_cast;omega)
  have wd3:IntKind.i64.wrap (dp:Int)=(dp:Int):=IntWalk.i64_in _ (by omega)
  have wd4:wrap64 (dp:Int)=(dp:Int):=IntWalk.wrap64_in _ (by omega)
  have AD:=zh (Zaf w0 w bp dp t vn [32,123,10] h (by simp only [List.length_cons,List.length_nil];omega))
  have HL:=zh (fun (w1:World) (p1:PrS w0 w1 bp (t++[32,123,10]) (dp+1) vn)=>ZjW F hF w0 w1 bp (dp+1) _ vn ns A c ks Ok T p1 hN (by omega) hK hkl hok hE (by simp only [List.length_append,List.length_cons,List.length_nil];omega))
  have HS:=zh (zi hl hd)
  clear hz e1 hE hok hkl hK hN h hd hl
  go_enter Tryz.func37,Tryz.ntmps37
  go_upto_region 3 with (go_at_call 36;(refine AD.out.mono ?_);rintro e w1 ⟨rfl,hp,hf⟩;have H1:=zh (zi hp hf);clear hp hf)
  obtain ⟨c1,f1,c2⟩:=H1.out.1.cells
  have P2:=zh (H1.out.1.deep (dp+1))
  have L2:=zh (HL.out _ P2.out)
  go_upto_region 5 with (go_at_call 17;(refine L2.out.mono ?_);rintro e w3 ⟨rfl,hp,hf⟩;have H3:=zh (zi hp hf);clear hp hf)
  obtain ⟨d1,g1,d2⟩:=H3.out.1.cells
  have P4:=zh (H3.out.1.deep dp)
  have IN:=zh (ZiT w0 _ bp dp _ vn P4.out (by have:=HS.out.2;omega) (by have:=HS.out.1;simp only [List.length_append,List.length_cons,List.length_nil];omega))
  go_upto_region 7 with (go_at_call 35;(refine IN.out.mono ?_);rintro e w5 ⟨rfl,hp,hf⟩;have H5:=zh (zi hp hf);clear hp hf)
  have AE:=zh (Zaf w0 w5 bp dp _ vn [125] H5.out.1 (by have:=HS.out.1;simp only [List.length_append,List.length_cons,List.length_nil];omega))
  go_wp2_with (go_at_call 36;(refine AE.out.mono ?_);rintro e w6 ⟨rfl,hp,hf⟩;have H6:=zh (zi hp hf);clear hp hf)
  go_end0
  refine ⟨rfl,?_,((((H1.out.2.trans (Fr.cell _ _ _ _)).trans H3.out.2).trans (Fr.cell _ _ _ _)).trans H5.out.2).trans H6.out.2⟩
  have:=H6.out.1
  simp only [List.append_assoc] at this ⊢
  exact this
end
section
open Go.RowKit
theorem Zhy (s:Txt) (a b:List Txt):Lib.joinTail s (a++b)=Lib.joinTail s a++Lib.joinTail s b:=by
 unfold Lib.joinTail
 rw [List.map_append,List.flatten_append]
theorem Zps (s:Txt) (l:List Txt) (x:Txt) (h:l≠[]):Zal s (l++[x])=Zal s l++s++x:=by
 cases l with
 | nil=>exact absurd rfl h
 | cons a r=>rw [List.cons_append,ZeM,ZeM,Zhy];simp [Lib.joinTail]
theorem ZmM (s:Txt) (l:List Txt) (k:Nat):(Zal s (l.take k)).length<=(Zal s l).length:=by
 cases l with
 | nil=>simp
 | cons a r=>
  cases k with
  | zero=>simp [Zal]
  | succ k=>
   rw [List.take_succ_cons,ZeM,ZeM]
   have e:Lib.joinTail s r=Lib.joinTail s (r.take k)++Lib.joinTail s (r.drop k):=by rw [<- Zhy,List.take_append_drop]
   rw [e]
   simp only [List.length_append]
   omega
def Zsr (F:Nat) (fr:Array Value) (w0 w1:World) (bp dp:Nat) (vn:Value) (L:List Txt):Prop:=
 ∀ (k:Nat) (x:Txt) (w:World) (t:Txt),L[k]? = some x->PrS w0 w bp t dp vn->Fr w1 w bp->t.length+x.length+10000<=140737488355328 ->
  Calls Tryz.prog F (#[.int .i64 (k:Int)]++fr) w fun e w'=>e=.returned (.tuple #[])/\PrS w0 w' bp (t++x) dp vn/\Fr w w' bp
theorem ZfB (F:Nat) (fr:Array Value) (hF:Enters F) (w0 w:World) (bp dp:Nat) (t s:Txt) (vn:Value) (L:List Txt) (h:PrS w0 w bp t dp vn) (hE:Zsr F fr w0 w bp dp vn L) (hll:L.length<=maxLen) (hl:t.length+(Zal s L).length+10000<=140737488355328) :
  Calls Tryz.prog 64 #[.pointer (some ⟨bp,0,none⟩),txt s,.int .i64 (L.length:Nat),.func (.func F) #[] fr] w fun e w'=>e=.returned (.tuple #[])/\PrS w0 w' bp (t++Zal s L) dp vn/\Fr w w' bp:=by
 have HS:=zh (zi h (zi hE (zi hll hl)))
 have door:=hF
 unfold Enters at door
 clear h hE hll hl
 obtain ⟨m,hm⟩:∃ m,m=L.length:=⟨_,rfl⟩
 rw [<- hm]
 have HM:=zh hm
 clear hm
 go_enter Tryz.func64,Tryz.ntmps64
 go_wp2_with fail
 go_loopg [10] m (fun g v10 wr=>∃ k:Nat,v10=.int .i64 k/\k<=m/\g=m-k/\PrS w0 wr bp (t++Zal s (L.take k)) dp vn/\Fr w wr bp)
 case atStart=>exact ⟨0,rfl,Nat.zero_le _,rfl,by simpa [Zal] using HS.out.1,Fr.refl _ _⟩
 case round=>
  obtain ⟨k,rfl,hk,hg,hS,hFr⟩:=hrel
  by_cases hkn:k=m
  ·have j1:decide (k<m)=false:=decide_eq_false (by omega)
   have j2:¬ ((k:Int)<(m:Int)):=by omega
   have FIN:=zh (zi (show PrS w0 wr bp (t++Zal s L) dp vn by rw [show L.take k=L by rw [hkn,HM.out,List.take_length]] at hS;exact hS) hFr)
   clear hk hg hS hFr hkn
   go_wp2_with fail
   go_end0
   exact ⟨rfl,FIN.out⟩
  ·have hlt:k<m:=by omega
   obtain ⟨x,hx⟩:∃ x,L[k]? = some x:=⟨_,List.getElem?_eq_getElem (by rw [<- HM.out];exact hlt)⟩
   have j1:(k:Int)<(m:Int):=by omega
   have wk:IntKind.i64.wrap ((k:Int)+1)=(k:Int)+1:=IntWalk.i64_in _ (by have:=HS.out.2.2.1;have:=HM.out;have e:maxLen=9223372036854775807:=rfl;omega)
   have le:=ZmM s L (k+1)
   rw [List.take_add_one,hx] at le
   dsimp only [Option.toList] at le
   by_cases hk0:k=0
   ·have e0:Zal s (L.take k)=[]:=by rw [hk0];rfl
    have e1:Zal s (L.take (k+1))=x:=by rw [List.take_add_one,hx,hk0];rfl
    have j2:¬ ((0:Int)<(k:Int)):=by omega
    rw [e0,List.append_nil] at hS
    have EC:=zh (HS.out.2.1 k x wr _ hx hS hFr (by
     have:=HS.out.2.2.2
     rw [hk0] at le
     have:(Zal s (L.take 0++[x]))=x:=rfl
     rw [this] at le
     omega))
    have HK:=zh (zi hlt (zi hg (zi e1 hFr)))
    clear hkn hlt hk hg hFr hS hx e0 e1 le hk0
    go_wp2_with (with_reducible refine EC.out.mono ?_;rintro e w2 ⟨rfl,hp,hf⟩;have H2:=zh (zi hp hf);clear hp hf)
    go_roundg (m-(k+1))
    case measure=>have:=HK.out.1;have:=HK.out.2.1;omega
    case rel=>exact ⟨k+1,by push_cast;rfl,HK.out.1,rfl,by rw [HK.out.2.2.1];exact H2.out.1,HK.out.2.2.2.trans H2.out.2⟩
   ·have ne:L.take k≠[]:=fun e=>by
     have:=congrArg List.length e
     rw [List.length_take,List.length_nil] at this
     have:=HM.out
     omega
    have e1:Zal s (L.take (k+1))=Zal s (L.take k)++s++x:=by rw [List.take_add_one,hx];exact Zps s _ x ne
    have j2:(0:Int)<(k:Int):=by omega
    have le2:(Zal s (L.take k)).length+s.length+x.length<=(Zal s L).length:=by
     have:=ZmM s L (k+1)
     rw [e1] at this
     simp only [List.length_append] at this
     exact this
    have AD:=zh (Zaf w0 wr bp dp _ vn s hS (by have:=HS.out.2.2.2;rw [List.length_append];omega))
    have HK:=zh (zi hlt (zi hg (zi e1 (zi hFr (zi hx le2)))))
    clear hkn hlt hk hg hFr hS hx e1 le le2 hk0 ne
    go_upto_region 5 with (go_at_call 36;(refine AD.out.mono ?_);rintro e w1 ⟨rfl,hp,hf⟩;have H1:=zh (zi hp hf);clear hp hf)
    have EC:=zh (HS.out.2.1 k x w1 _ HK.out.2.2.2.2.1 H1.out.1 (HK.out.2.2.2.1.trans H1.out.2) (by
     have:=HS.out.2.2.2
     have:=HK.out.2.2.2.2.2
     simp only [List.length_append]
     omega))
    go_wp2_with (with_reducible refine EC.out.mono ?_;rintro e w2 ⟨rfl,hp,hf⟩;have H2:=zh (zi hp hf);clear hp hf)
    go_roundg (m-(k+1))
    case measure=>have:=HK.out.1;have:=HK.out.2.1;omega
    case rel=>
     refine ⟨k+1,by push_cast;rfl,HK.out.1,rfl,?_,(HK.out.2.2.2.1.trans H1.out.2).trans H2.out.2⟩
     rw [HK.out.2.2.1]
     have:=H2.out.1
     simp only [List.append_assoc] at this ⊢
     exact this
end
section
open Go.RowKit
theorem enters_of {f:FuncId} {fn:Func} {c:Code} (hf:Tryz.prog.funcs[f]? = some fn) (hname:(fn.name=="runtime.NumGoroutine")=false) (hb:fn.body=some c):Enters f:=fun args w=>by
 have h1:fn.name≠"runtime.NumGoroutine":=by simpa using hname
 simp [callFunc,hf,h1,hb,go_sem]
theorem Zbv {w0 w:World} {bp dp b:Nat} {t:Txt} {vn:Value} {cs:Array Value} {ty:TypeId} (h:PrS w0 w bp t dp vn) (k:Zh w b ty cs) (hty:ty≠47):b≠bp:=by
 obtain ⟨v,h1,_⟩:=h.box
 intro e
 subst e
 exact absurd (ZhR k h1) hty
theorem one_cell {w:World} {b:Nat} {ty:TypeId} {v:Value} (h:Zh w b ty #[v]):w.cell? ⟨b,0,none⟩=some v:=by
 have c:=h.blk.cell 0
 simpa using c
abbrev ZaE (b:Nat):Value:=.pointer (some ⟨b,0,none⟩)
theorem Zor (F:Nat) (hF:Enters F) (w0 w:World) (bp dp b1 b2 b3:Nat) (t:Txt) (vn:Value) (ns:List Nd) (A:Option Addr) (c:Nat) (ks:List Int) (Ok:Nd->Prop) (T:Nd->Txt) (k:Nat) (y:Int) (h:PrS w0 w bp t dp vn) (hN:Zs w0 vn ns)
  (hB1:Zh w b1 49 #[.func (.func F) #[ZaE bp] #[]]) (hB2:Zh w b2 42 #[ZaE bp]) (hB3:Zh w b3 35 #[.slice A ks.length c])
  (hK:ZM w0 w0.heap.size 1 A ks.length (ks.map (Value.int .i64))) (hok:Zaa ns ks Ok) (hE:Zc1 F w0 ns dp Ok T) (hy:ks[k]? = some y) (hl:t.length+(T (Za ns y)).length+10000<=140737488355328) :
  Calls Tryz.prog 66 #[.int .i64 (k:Int),ZaE b1,ZaE b2,ZaE b3] w fun e w'=>e=.returned (.tuple #[])/\PrS w0 w' bp (t++T (Za ns y)) dp vn/\Fr w w' bp:=by
 obtain ⟨An,cn,rs,rfl,_,hcn,hm,hR,hNd⟩:=id hN
 have hkl:=(List.getElem?_eq_some_iff.1 hy).1
 obtain ⟨hy0,hyn,hyo⟩:=hok y (List.mem_of_getElem? hy)
 obtain ⟨n,rfl⟩:=Int.eq_ofNat_of_zero_le hy0
 have hnl:n<ns.length:=by omega
 obtain ⟨r,hr⟩:∃ r,rs[n]? = some r:=⟨_,List.getElem?_eq_getElem (by rw [<- hm,List.length_map] at hnl;exact hnl)⟩
 have hrn:ns[n]? = some r.2:=by rw [<- hm,List.getElem?_map,hr];rfl
 rw [ZbC hrn] at hyo hl ⊢
 obtain ⟨ak,rfl,q0⟩:=ints_at hK h.below hy (by omega)
 obtain ⟨an,rfl,n0,n1,n2,n3,n4⟩:=ZbA hR h.below hr (by omega)
 have j1:(k:Int)<(ks.length:Int):=by omega
 have j0:(0:Int)<=(k:Int):=by omega
 have i0:(0:Int)<=(n:Int):=by omega
 have i1:(n:Int)<(ns.length:Int):=by omega
 have e1:=one_cell hB1
 have e2:=one_cell hB2
 have e3:=one_cell hB3
 have c2:=h.cells.2.2
 have hb:=Zj w
 have EC:=zh (hE w.drew bp t _ r (h.keep hb) hN (hNd r (List.mem_of_getElem? hr)) hyo hl)
 have HB:=zh (Fr.of_below bp hb)
 have hr2:=hNd r (List.mem_of_getElem? hr)
 clear h hN hB1 hB2 hB3 hK hok hE hy hl hm hR hNd hkl hy0 hyn hyo hnl hr hrn hb
 obtain ⟨⟨yw,yu,yk⟩,kd2,ws2,nums2,ks2,ps2⟩:=r
 obtain ⟨h61,h62,h63⟩:=hr2
 dsimp only at h61 h62 h63
 obtain ⟨Bw,dw,rfl,_⟩:=h61
 obtain ⟨Bu,du,rfl,_⟩:=h62
 obtain ⟨Bk,dk,rfl,_⟩:=h63
 unfold ndX at EC
 dsimp only at n0 n1 n2 n3 n4 EC
 have door:=hF
 unfold Enters at door
 clear hF
 go_enter Tryz.func66,Tryz.ntmps66
 go_upto_region 0 with fail
 refine wp_region_still_tail 11 (by kernel_rfl) (by kernel_rfl) ?_
 simp only [List.take_succ_cons,List.take_zero,List.drop_succ_cons,List.drop_zero]
 iterate 11 still_step
 refine wpStill_nil ?_
 change wpList _ _ _ _ _ w.drew
 go_wp2_with (with_reducible refine EC.out.mono ?_;rintro e w2 ⟨rfl,hp,hf⟩;have H2:=zh (zi hp hf);clear hp hf)
 go_end0
 exact ⟨rfl,H2.out.1,HB.out.trans H2.out.2⟩
theorem Zf3 (F:Nat) (hF:Enters F) (w0 w:World) (bp dp:Nat) (t:Txt) (vn:Value) (ns:List Nd) (A:Option Addr) (c:Nat) (ks:List Int) (Ok:Nd->Prop) (T:Nd->Txt) (h:PrS w0 w bp t dp vn) (hN:Zs w0 vn ns)
  (hK:ZM w0 w0.heap.size 1 A ks.length (ks.map (Value.int .i64))) (hkl:ks.length<=maxLen) (hok:Zaa ns ks Ok) (hE:Zc1 F w0 ns dp Ok T) (hl:t.length+(Zal [44,32] (ks.map fun k=>T (Za ns k))).length+10002<=140737488355328) :
  Calls Tryz.prog 39 #[ZaE bp,.slice A ks.length c,.func (.func F) #[ZaE bp] #[]] w fun e w'=>e=.returned (.tuple #[])/\PrS w0 w' bp (t++([40]++Zal [44,32] (ks.map fun k=>T (Za ns k))++[41])) dp vn/\Fr w w' bp:=by
 have a1:=below_alloc1 w (.cells #[ZaE bp] 42)
 have B2:Zh _ _ _ _:=Zh.start w #[ZaE bp] 42
 generalize hw1:w.alloc (.cells #[ZaE bp] 42)=w1 at *
 have z1:w1.heap.size=w.heap.size+1:=by rw [<- hw1,World.size_alloc]
 have a2:=below_alloc1 w1 (.cells #[.slice A ks.length c] 35)
 have B3:Zh _ _ _ _:=Zh.start w1 #[.slice A ks.length c] 35
 generalize hw2:w1.alloc (.cells #[.slice A ks.length c] 35)=w2 at *
 have z2:w2.heap.size=w.heap.size+2:=by rw [<- hw2,World.size_alloc,z1]
 have a3:=below_alloc1 w2 (.cells #[.func (.func F) #[ZaE bp] #[]] 49)
 have B1:Zh _ _ _ _:=Zh.start w2 #[.func (.func F) #[ZaE bp] #[]] 49
 generalize hw3:w2.alloc (.cells #[.func (.func F) #[ZaE bp] #[]] 49)=w3 at *
 have B2':=(B2.keep a2).keep a3
 have B3':=B3.keep a3
 have p3:=((h.keep a1).keep a2).keep a3
 have F3:=((Fr.of_below bp a1).trans (Fr.of_below bp a2)).trans (Fr.of_below bp a3)
 have c1:=one_cell B1
 have c2:=one_cell B2'
 have c3:=one_cell B3'
 have AD:=zh (Zaf w0 w3 bp dp t vn [40] p3 (by simp only [List.length_cons,List.length_nil];omega))
 have HX:=zh (zi p3 (zi B1 (zi B2' (zi B3' (zi F3 hl)))))
 have HY:=zh (zi hN (zi hK (zi hkl (zi hok hE))))
 have HF:=zh hF
 have HZ:=zh (zi z1 z2)
 clear a1 a2 a3 B1 B2 B3 B2' B3' p3 F3 h hN hK hkl hok hE hl hF z1 z2
 go_enter Tryz.func39,Tryz.ntmps39
 go_upto_region 2 with (go_at_call 36;(refine AD.out.mono ?_);rintro e w4 ⟨rfl,hp,hf⟩;have H4:=zh (zi hp hf);clear hp hf)
 have T1:=H4.out.2.at_ _ _ _ (Zbv HX.out.1 HX.out.2.1 (by decide)) (by decide) HX.out.2.1
 have T2:=H4.out.2.at_ _ _ _ (Zbv HX.out.1 HX.out.2.2.1 (by decide)) (by decide) HX.out.2.2.1
 have T3:=H4.out.2.at_ _ _ _ (Zbv HX.out.1 HX.out.2.2.2.1 (by decide)) (by decide) HX.out.2.2.2.1
 have d1:=one_cell T1
 have d2:=one_cell T2
 have d3:=one_cell T3
 have e1:=one_cell (T1.keep (Zj w4))
 have e2:=one_cell (T2.keep (Zj w4))
 have e3:=one_cell (T3.keep (Zj w4))
 have SP:=zh (ZfB 66 #[ZaE w2.heap.size,ZaE w.heap.size,ZaE w1.heap.size] (enters_of Tryz.func66 (by kernel_rfl) rfl) w0 w4.drew bp dp _ [44,32] vn (ks.map fun k=>T (Za ns k)) (H4.out.1.keep (Zj w4)) (fun k x w' t' hx hp hf hl'=>by
  rw [List.getElem?_map] at hx
  cases hy:ks[k]? with
  | none=>rw [hy] at hx;cases hx
  | some y=>
   rw [hy] at hx
   obtain rfl:=Option.some.inj hx
   exact Zor F HF.out w0 w' bp dp _ _ _ t' vn ns A c ks Ok T k y hp HY.out.1
    (hf.at_ _ _ _ (Zbv HX.out.1 HX.out.2.1 (by decide)) (by decide) (T1.keep (Zj w4)))
    (hf.at_ _ _ _ (Zbv HX.out.1 HX.out.2.2.1 (by decide)) (by decide) (T2.keep (Zj w4)))
    (hf.at_ _ _ _ (Zbv HX.out.1 HX.out.2.2.2.1 (by decide)) (by decide) (T3.keep (Zj w4)))
    HY.out.2.1 HY.out.2.2.2.1 HY.out.2.2.2.2 hy hl') (by rw [List.length_map];exact HY.out.2.2.1) (by have:=HX.out.2.2.2.2.2;simp only [List.length_append,List.length_cons,List.length_nil];omega))
 rw [List.length_map] at SP
 clear T1 T2 T3
 go_region_with (go_at_call 64;(refine SP.out.mono ?_);rintro e w5 ⟨rfl,hp,hf⟩;have H5:=zh (zi hp hf);clear hp hf)
 all_goals
  have AE:=zh (Zaf w0 w5 bp dp _ vn [41] H5.out.1 (by have:=HX.out.2.2.2.2.2;simp only [List.length_append,List.length_cons,List.length_nil];omega))
  have T2:=H4.out.2.at_ _ _ _ (Zbv HX.out.1 HX.out.2.2.1 (by decide)) (by decide) HX.out.2.2.1
  have g2:=one_cell (H5.out.2.at_ _ _ _ (Zbv HX.out.1 HX.out.2.2.1 (by decide)) (by decide) (T2.keep (Zj w4)))
  go_wp2_with (go_at_call 36;(refine AE.out.mono ?_);rintro e w6 ⟨rfl,hp,hf⟩;have H6:=zh (zi hp hf);clear hp hf)
  go_end0
  refine ⟨rfl,?_,(((HX.out.2.2.2.2.1.trans H4.out.2).trans (Fr.of_below bp (Zj w4))).trans H5.out.2).trans H6.out.2⟩
  have:=H6.out.1
  simp only [List.append_assoc] at this ⊢
  exact this
end
section
open Go.RowKit
theorem ZlJ:Enters 69:=enters_of Tryz.func69 (by kernel_rfl) rfl
theorem ZgP (w0:World) (ns:List Nd) (dp:Nat) (S:Nd->Prop) (T:Nd->Txt) (hd:dp<4000) (hS:Zc1 69 w0 ns (dp+1) S T):Zc1 41 w0 ns dp (Zck ns S) (fun m=>ZI dp (m.kids.map fun k=>T (Za ns k))):=by
 intro w bp t vn x h hN hx hok hl
 have hq:=hx
 obtain ⟨⟨vw,vu,vk⟩,kd,ws,nums,ks,ps⟩:=x
 obtain ⟨hw,hu,hkk⟩:=hx
 dsimp only at hok hw hu hkk hl ⊢
 obtain ⟨Aw,cw,rfl,hwl,hwm,hW,hWl⟩:=hw
 obtain ⟨Au,cu,rfl,hul,hum,hU⟩:=hu
 obtain ⟨Ak,ck,rfl,hkl,hkm,hK⟩:=hkk
 have a1:=below_alloc1 w (.cells #[.int .i64 kd,.slice Aw ws.length cw,.slice Au nums.length cu,.slice Ak ks.length ck,.int .i64 ps] 37)
 have B1:Zh _ _ _ _:=Zh.start w #[.int .i64 kd,.slice Aw ws.length cw,.slice Au nums.length cu,.slice Ak ks.length ck,.int .i64 ps] 37
 have p1:=h.keep a1
 have hok:Zaa ns ks S:=hok
 obtain ⟨c0,c1,c2,c3,c4⟩:=Zg (x:=((.slice Aw ws.length cw,.slice Au nums.length cu,.slice Ak ks.length ck),⟨kd,ws,nums,ks,ps⟩)) (B1)
 dsimp only at c0 c1 c2 c3 c4
 generalize hw1:w.alloc (.cells #[.int .i64 kd,.slice Aw ws.length cw,.slice Au nums.length cu,.slice Ak ks.length ck,.int .i64 ps] 37)=w1 at *
 have BR:=zh (ZgQ _ ZlJ w0 w1 bp dp t vn ns Ak ck ks S T p1 hN hd hK (by omega) hok hS hl)
 have HX:=zh a1
 clear p1 B1 a1 hq hwl hwm hW hWl hul hum hU hkl hkm hK h hl hN hok hS hd
 go_enter Tryz.func41,Tryz.ntmps41
 go_wp2_with (go_at_call 37;(refine BR.out.mono ?_);rintro e w2 ⟨rfl,hp,hf⟩;have H2:=zh (zi hp hf);clear hp hf)
 go_end0
 exact ⟨rfl,H2.out.1,(Fr.of_below bp (hw1▸HX.out)).trans H2.out.2⟩
theorem Zoh (w0 w:World) (bp dp b2 b3:Nat) (t:Txt) (vn:Value) (ns:List Nd) (A:Option Addr) (c:Nat) (ks:List Int) (Ok:Nd->Prop) (T:Nd->Txt) (k:Nat) (y:Int) (h:PrS w0 w bp t dp vn) (hN:Zs w0 vn ns)
  (hB2:Zh w b2 42 #[ZaE bp]) (hB3:Zh w b3 35 #[.slice A ks.length c])
  (hK:ZM w0 w0.heap.size 1 A ks.length (ks.map (Value.int .i64))) (hok:Zaa ns ks Ok) (hE:Zc1 41 w0 ns dp Ok T) (hy:ks[k]? = some y) (hl:t.length+(T (Za ns y)).length+10000<=140737488355328) :
  Calls Tryz.prog 119 #[.int .i64 (k:Int),ZaE b2,ZaE b3] w fun e w'=>e=.returned (.tuple #[])/\PrS w0 w' bp (t++T (Za ns y)) dp vn/\Fr w w' bp:=by
 obtain ⟨An,cn,rs,rfl,_,hcn,hm,hR,hNd⟩:=id hN
 have hkl:=(List.getElem?_eq_some_iff.1 hy).1
 obtain ⟨hy0,hyn,hyo⟩:=hok y (List.mem_of_getElem? hy)
 obtain ⟨n,rfl⟩:=Int.eq_ofNat_of_zero_le hy0
 have hnl:n<ns.length:=by omega
 obtain ⟨r,hr⟩:∃ r,rs[n]? = some r:=⟨_,List.getElem?_eq_getElem (by rw [<- hm,List.length_map] at hnl;exact hnl)⟩
 have hrn:ns[n]? = some r.2:=by rw [<- hm,List.getElem?_map,hr];rfl
 rw [ZbC hrn] at hyo hl ⊢
 obtain ⟨ak,rfl,q0⟩:=ints_at hK h.below hy (by omega)
 obtain ⟨an,rfl,n0,n1,n2,n3,n4⟩:=ZbA hR h.below hr (by omega)
 have j1:(k:Int)<(ks.length:Int):=by omega
 have j0:(0:Int)<=(k:Int):=by omega
 have i0:(0:Int)<=(n:Int):=by omega
 have i1:(n:Int)<(ns.length:Int):=by omega
 have e2:=one_cell hB2
 have e3:=one_cell hB3
 have c2:=h.cells.2.2
 have hb:=Zj w
 have EC:=zh (hE w.drew bp t _ r (h.keep hb) hN (hNd r (List.mem_of_getElem? hr)) hyo hl)
 have HB:=zh (Fr.of_below bp hb)
 have hr2:=hNd r (List.mem_of_getElem? hr)
 clear h hN hB2 hB3 hK hok hE hy hl hm hR hNd hkl hy0 hyn hyo hnl hr hrn hb
 obtain ⟨⟨yw,yu,yk⟩,kd2,ws2,nums2,ks2,ps2⟩:=r
 obtain ⟨h61,h62,h63⟩:=hr2
 dsimp only at h61 h62 h63
 obtain ⟨Bw,dw,rfl,_⟩:=h61
 obtain ⟨Bu,du,rfl,_⟩:=h62
 obtain ⟨Bk,dk,rfl,_⟩:=h63
 unfold ndX at EC
 dsimp only at n0 n1 n2 n3 n4 EC
 go_enter Tryz.func119,Tryz.ntmps119
 go_upto_region 0 with fail
 refine wp_region_still_tail 11 (by kernel_rfl) (by kernel_rfl) ?_
 simp only [List.take_succ_cons,List.take_zero,List.drop_succ_cons,List.drop_zero]
 iterate 11 still_step
 refine wpStill_nil ?_
 change wpList _ _ _ _ _ w.drew
 go_wp2_with (go_at_call 41;refine EC.out.mono ?_;rintro e w2 ⟨rfl,hp,hf⟩;have H2:=zh (zi hp hf);clear hp hf)
 go_end0
 exact ⟨rfl,H2.out.1,HB.out.trans H2.out.2⟩
theorem Zhp (w0 w:World) (bp dp:Nat) (t:Txt) (vn:Value) (ns:List Nd) (A:Option Addr) (c:Nat) (ks:List Int) (Ok:Nd->Prop) (T:Nd->Txt) (h:PrS w0 w bp t dp vn) (hN:Zs w0 vn ns)
  (hK:ZM w0 w0.heap.size 1 A ks.length (ks.map (Value.int .i64))) (hkl:ks.length<=maxLen) (hok:Zaa ns ks Ok) (hE:Zc1 41 w0 ns dp Ok T) (hl:t.length+(Zal [32,101,108,115,101] (ks.map fun k=>T (Za ns k))).length+10000<=140737488355328) :
  Calls Tryz.prog 91 #[ZaE bp,.slice A ks.length c] w fun e w'=>e=.returned (.tuple #[])/\PrS w0 w' bp (t++Zal [32,101,108,115,101] (ks.map fun k=>T (Za ns k))) dp vn/\Fr w w' bp:=by
 have a1:=below_alloc1 w (.cells #[ZaE bp] 42)
 have B2:Zh _ _ _ _:=Zh.start w #[ZaE bp] 42
 generalize hw1:w.alloc (.cells #[ZaE bp] 42)=w1 at *
 have a2:=below_alloc1 w1 (.cells #[.slice A ks.length c] 35)
 have B3:Zh _ _ _ _:=Zh.start w1 #[.slice A ks.length c] 35
 generalize hw2:w1.alloc (.cells #[.slice A ks.length c] 35)=w2 at *
 have B2':=B2.keep a2
 have p2:=(h.keep a1).keep a2
 have F2:=(Fr.of_below bp a1).trans (Fr.of_below bp a2)
 have c2:=one_cell B2'
 have c3:=one_cell B3
 have T2:=B2'.keep (Zj w2)
 have T3:=B3.keep (Zj w2)
 have d2:=one_cell T2
 have d3:=one_cell T3
 have p3:=p2.keep (Zj w2)
 have SP:=zh (ZfB 119 #[ZaE w.heap.size,ZaE w1.heap.size] (enters_of Tryz.func119 (by kernel_rfl) rfl) w0 w2.drew bp dp t [32,101,108,115,101] vn (ks.map fun k=>T (Za ns k)) p3 (fun k x w' t' hx hp hf hl'=>by
  rw [List.getElem?_map] at hx
  cases hy:ks[k]? with
  | none=>rw [hy] at hx;cases hx
  | some y=>
   rw [hy] at hx
   obtain rfl:=Option.some.inj hx
   exact Zoh w0 w' bp dp _ _ t' vn ns A c ks Ok T k y hp hN (hf.at_ _ _ _ (Zbv p3 T2 (by decide)) (by decide) T2) (hf.at_ _ _ _ (Zbv p3 T3 (by decide)) (by decide) T3) hK hok hE hy hl') (by rw [List.length_map];exact hkl) hl)
 rw [List.length_map] at SP
 have HX:=zh F2
 clear a1 a2 B2 B3 B2' p2 F2 T2 T3 p3 h hN hK hkl hok hE hl
 go_enter Tryz.func91,Tryz.ntmps91
 go_upto_region 1 with fail
 go_region_with (go_at_call 64;(refine SP.out.mono ?_);rintro e w5 ⟨rfl,hp,hf⟩;have H5:=zh (zi hp hf);clear hp hf)
 all_goals
  go_wp2_with fail
  go_end0
  exact ⟨rfl,H5.out.1,(HX.out.trans (Fr.of_below bp (Zj w2))).trans H5.out.2⟩
theorem Zlb (w0:World) (ns:List Nd) (dp:Nat) (Ok:Nd->Prop) (T:Nd->Txt) (hB:Zc1 41 w0 ns dp Ok T):Zc1 120 w0 ns dp (fun n=>(∃ s r,n.words=s::r)/\∃ k,n.kids=[k]/\Zaa ns [k] Ok) (fun n=>word n 0++T (Zw ns n 0)):=by
 intro w bp t vn x h hN hx hok hl
 obtain ⟨⟨s,r,hn⟩,kz,hi,hko⟩:=hok
 obtain ⟨hk0,hk1,hv⟩:=hko kz (by simp)
 obtain ⟨k,rfl⟩:=Int.eq_ofNat_of_zero_le hk0
 have hkn:k<ns.length:=by omega
 have hq:=hx
 obtain ⟨⟨vw,vu,vk⟩,kd,ws,nums,ks,ps⟩:=x
 obtain ⟨hw,hu,hkk⟩:=hx
 dsimp only at hn hi hw hu hkk hl ⊢
 obtain ⟨Aw,cw,rfl,hwl,hwm,hW,hWl⟩:=hw
 obtain ⟨Au,cu,rfl,hul,hum,hU⟩:=hu
 obtain ⟨Ak,ck,rfl,hkl,hkm,hK⟩:=hkk
 have a1:=below_alloc1 w (.cells #[.int .i64 kd,.slice Aw ws.length cw,.slice Au nums.length cu,.slice Ak ks.length ck,.int .i64 ps] 37)
 have B1:Zh _ _ _ _:=Zh.start w #[.int .i64 kd,.slice Aw ws.length cw,.slice Au nums.length cu,.slice Ak ks.length ck,.int .i64 ps] 37
 have p1:=h.keep a1
 obtain ⟨z,hz⟩:∃ z,ns[k]? = some z:=⟨_,List.getElem?_eq_getElem hkn⟩
 have he:word ⟨kd,ws,nums,ks,ps⟩ 0++T (Zw ns ⟨kd,ws,nums,ks,ps⟩ 0)=s++T z:=by
  unfold word
  rw [ZbU (n:=⟨kd,ws,nums,ks,ps⟩) (k:=k) (by rw [hi];rfl) hz]
  dsimp only
  rw [hn]
  rfl
 rw [ZbC hz] at hv
 rw [he] at hl ⊢
 simp only [List.length_append] at hl
 obtain ⟨c0,c1,c2,c3,c4⟩:=Zg (x:=((.slice Aw ws.length cw,.slice Au nums.length cu,.slice Ak ks.length ck),⟨kd,ws,nums,ks,ps⟩)) (B1)
 dsimp only at c0 c1 c2 c3 c4
 generalize hw1:w.alloc (.cells #[.int .i64 kd,.slice Aw ws.length cw,.slice Au nums.length cu,.slice Ak ks.length ck,.int .i64 ps] 37)=w1 at *
 obtain ⟨au,rfl,u0⟩:=Zcl (k:=0) (x:=s) hW (p1.keep (Zj w1)).below (by rw [hn];rfl) (by rw [hn];exact Nat.succ_pos _)
 have u1:w1.drew.cell? au=some (txt s):=u0
 have u2:w1.cell? au=some (txt s):=u0
 have hl2:0<ws.length:=by rw [hn];exact Nat.succ_pos _
 obtain ⟨d0,d1,d2,d3,d4⟩:=Zg (x:=((.slice (some au) ws.length cw,.slice Au nums.length cu,.slice Ak ks.length ck),⟨kd,ws,nums,ks,ps⟩)) (B1.keep (Zj w1))
 dsimp only at d0 d1 d2 d3 d4
 have AD:=zh (Zaf w0 w1.drew bp dp t vn s (p1.keep (Zj w1)) (by omega))
 have HX:=zh (zi a1 (zi (B1.keep (Zj w1)) (zi hq (zi hN (zi hB (zi hl (p1.keep (Zj w1))))))))
 have HI:=zh (zi (show ks[0]? = some (k:Int) by rw [hi];rfl) (zi hkn (zi hz hv)))
 clear p1 B1 a1 hq hwl hwm hW hWl hul hum hU hkl hkm hK h hl he u0 hn hi hkn hz hv hB hN hko hk0 hk1
 go_enter Tryz.func120,Tryz.ntmps120
 go_upto_region 1 with fail
 go_region_with (go_at_call 36;(refine AD.out.mono ?_);rintro e w3 ⟨rfl,hp,hf⟩;have H3:=zh (zi hp hf);clear hp hf)
 all_goals
  have K3:=H3.out.2.at_ _ _ _ (ZcV HX.out.2.2.2.2.2.2 HX.out.2.1) (by decide) HX.out.2.1
  obtain ⟨b0,b1,b2,b3,b4⟩:=Zg (x:=((.slice (some au) ws.length cw,.slice Au nums.length cu,.slice Ak ks.length ck),⟨kd,ws,nums,ks,ps⟩)) (K3)
  dsimp only at b0 b1 b2 b3 b4
  have KI:=zh (ZbB w0 w3 bp dp _ vn ns _ 0 k ⟨H3.out.1,HX.out.2.2.2.1⟩ HX.out.2.2.1 HI.out.1 HI.out.2.1)
  clear K3
  go_wp2_with (first
   | (go_at_call 42;(refine KI.out.mono ?_);rintro e w4 ⟨y,rfl,hy,hy2,hb⟩;have ey:y.2=z:=Option.some.inj (hy.symm.trans HI.out.2.2.1);have H4:=zh (zi hy2 (zi hb ey));clear hy hy2 hb ey;have EX:=zh (HX.out.2.2.2.2.1 w4 bp _ vn y (H3.out.1.keep H4.out.2.1) HX.out.2.2.2.1 H4.out.1 (H4.out.2.2▸HI.out.2.2.2) (by rw [H4.out.2.2];have:=HX.out.2.2.2.2.2.1;simp only [List.length_append];omega)))
   | (go_at_call 41;(refine EX.out.mono ?_);rintro e w5 ⟨rfl,hp,hf⟩;have H5:=zh (zi (show PrS w0 w5 bp (t++s++T z) dp vn from H4.out.2.2▸hp) hf);clear hp hf))
  go_end0
  refine ⟨rfl,?_,((((Fr.of_below bp (hw1▸HX.out.1)).trans (Fr.of_below bp (Zj w1))).trans H3.out.2).trans (Fr.of_below bp H4.out.2.1)).trans H5.out.2⟩
  have:=H5.out.1
  simp only [List.append_assoc] at this ⊢
  exact this
end
end Go.Proofs.YtkongcicmajolaaGreatDoor
