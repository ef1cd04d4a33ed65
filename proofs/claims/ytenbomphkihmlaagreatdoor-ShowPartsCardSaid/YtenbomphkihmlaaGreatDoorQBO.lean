import Derived.Test.YtenbomphkihmlaaGreatDoorQBJ
import Derived.Test.YtenbomphkihmlaaGreatDoorQBN
set_option maxRecDepth 100000
set_option maxHeartbeats 8000000
namespace Go.Proofs.YtenbomphkihmlaaGreatDoor
section
open Go.RowKit
theorem Zf7 (d:Nat) (l:List Txt) (x:Txt):Zav d (l++[x])=Zav d l++(ZbG d++x++[10]):=by
 unfold Zav
 rw [List.map_append,List.flatten_append]
 simp
theorem ZeN (d:Nat) (l:List Txt) (k:Nat) (x:Txt) (h:l[k]? = some x):Zav d (l.take (k+1))=Zav d (l.take k)++(ZbG d++x++[10]):=by
 rw [List.take_add_one,h]
 exact Zf7 d _ x
theorem Zh4 (d:Nat) (l:List Txt) (k:Nat):(Zav d (l.take k)).length<=(Zav d l).length:=by
 have e:Zav d l=Zav d (l.take k)++Zav d (l.drop k):=by
  unfold Zav
  rw [<- List.flatten_append,<- List.map_append,List.take_append_drop]
 rw [e,List.length_append]
 omega
def Zbb (F:Nat):Prop:=∀ (args:Array Value) (w:World),Sem.run Tryz.prog (callFunc F args) w=.ok (.enter F args) w
def Za4 (F:Nat) (w0:World) (ns:List Nd) (dp:Nat) (Ok:Nd->Prop) (T:Nd->Txt):Prop:=
 ∀ (w:World) (bp:Nat) (t:Txt) (vn:Value) (x:NdV×Nd),PrS w0 w bp t dp vn->Zf w0 vn ns->Zv w0 x->Ok x.2->t.length+(T x.2).length+10000<=140737488355328 ->
  Calls Tryz.prog F #[.pointer (some ⟨bp,0,none⟩),ndX x] w fun e w'=>e=.returned (.tuple #[])/\PrS w0 w' bp (t++T x.2) dp vn/\Fr w w' bp
theorem ZeO (F:Nat) (hF:Zbb F) (w0 w:World) (bp dp:Nat) (t:Txt) (vn:Value) (ns:List Nd) (A:Option Addr) (c:Nat) (ks:List Int) (Ok:Nd->Prop) (T:Nd->Txt) (h:PrS w0 w bp t dp vn) (hN:Zf w0 vn ns) (hd:dp<=4000)
  (hK:ZB w0 w0.heap.size 1 A ks.length (ks.map (Value.int .i64))) (hkl:ks.length<=maxLen) (hok:ZM ns ks Ok) (hE:Za4 F w0 ns dp Ok T) (hl:t.length+(Zav dp (ks.map fun k=>T (Ze ns k))).length+10000<=140737488355328) :
  Calls Tryz.prog 12 #[.pointer (some ⟨bp,0,none⟩),.slice A ks.length c,.func (.func F) #[.pointer (some ⟨bp,0,none⟩)] #[]] w fun e w'=>e=.returned (.tuple #[])/\PrS w0 w' bp (t++Zav dp (ks.map fun k=>T (Ze ns k))) dp vn/\Fr w w' bp:=by
 obtain ⟨An,cn,rs,rfl,_,hcn,hm,hR,hNd⟩:=id hN
 generalize hL:(ks.map fun k=>T (Ze ns k))=L at *
 have HS:=Lib.hid (And.intro h (And.intro hN (And.intro hd (And.intro hK (And.intro hkl (And.intro hok (And.intro hE (And.intro hl hL))))))))
 have HR:=Lib.hid (And.intro hcn (And.intro hm (And.intro hR hNd)))
 clear h hN hd hK hkl hok hE hl hL hcn hm hR hNd
 go_enter Tryz.func12,Tryz.ntmps12
 go_wp2_with fail
 go_loopg [10] ks.length (fun g v10 wr=>∃ k:Nat,v10=.int .i64 k/\k<=ks.length/\g=ks.length-k/\PrS w0 wr bp (t++Zav dp (L.take k)) dp (.slice An ns.length cn)/\Fr w wr bp)
 case atStart=>exact ⟨0,rfl,Nat.zero_le _,rfl,by simpa [Zav] using HS.out.1,Fr.refl _ _⟩
 case round=>
  obtain ⟨k,rfl,hk,hg,hS,hF⟩:=hrel
  by_cases hkn:k=ks.length
  ·have j1:decide (k<ks.length)=false:=decide_eq_false (by omega)
   have j2:¬ ((k:Int)<(ks.length:Int)):=by omega
   have FIN:=Lib.hid (And.intro (show PrS w0 wr bp (t++Zav dp L) dp (.slice An ns.length cn) by rw [show L.take k=L by rw [<- HS.out.2.2.2.2.2.2.2.2,hkn,List.take_of_length_le];rw [List.length_map];exact Nat.le_refl _] at hS;exact hS) hF)
   clear hk hg hS hF hkn
   go_wp2_with fail
   go_end0
   exact ⟨rfl,FIN.out⟩
  ·have hlt:k<ks.length:=by omega
   obtain ⟨y,hy⟩:∃ y,ks[k]? = some y:=⟨_,List.getElem?_eq_getElem hlt⟩
   obtain ⟨hy0,hyn,hyo⟩:=HS.out.2.2.2.2.2.1 y (List.mem_of_getElem? hy)
   obtain ⟨n,rfl⟩:=Int.eq_ofNat_of_zero_le hy0
   have hnl:n<ns.length:=by omega
   obtain ⟨r,hr⟩:∃ r,rs[n]? = some r:=⟨_,List.getElem?_eq_getElem (by rw [<- HR.out.2.1,List.length_map] at hnl;exact hnl)⟩
   have hrn:ns[n]? = some r.2:=by rw [<- HR.out.2.1,List.getElem?_map,hr];rfl
   have hL1:L[k]? = some (T r.2):=by rw [<- HS.out.2.2.2.2.2.2.2.2,List.getElem?_map,hy];exact congrArg some (congrArg T (Zat hrn))
   obtain ⟨ak,rfl,q0⟩:=Zp HS.out.2.2.2.1 hS.below hy (by omega)
   have j1:(k:Int)<(ks.length:Int):=by omega
   have j0:(0:Int)<=(k:Int):=by omega
   have wk:IntKind.i64.wrap ((k:Int)+1)=(k:Int)+1:=IntWalk.i64_in _ (by have:=HS.out.2.2.2.2.1;have e:maxLen=9223372036854775807:=rfl;omega)
   have i0:(0:Int)<=(n:Int):=by omega
   have i1:(n:Int)<(ns.length:Int):=by omega
   have hlen:t.length+(Zav dp (L.take k)).length+(ZbG dp).length+(T r.2).length+1+10000<=140737488355328:=by
    have e1:=ZeN dp L k _ hL1
    have e2:=Zh4 dp L (k+1)
    have e3:=HS.out.2.2.2.2.2.2.2.1
    rw [e1] at e2
    simp only [List.length_append,List.length_cons,List.length_nil] at e2
    omega
   have IN:=Lib.hid (Zd7 w0 wr bp dp _ _ hS HS.out.2.2.1 (by rw [List.length_append];omega))
   have HK:=Lib.hid (And.intro hlt (And.intro hg (And.intro hF (And.intro hr (And.intro hL1 (And.intro hlen ((Zat hrn)▸hyo)))))))
   clear hkn hlt hk hg hF hS hy hy0 hyn hyo hnl hrn hL1 hlen
   obtain ⟨⟨yw,yu,yk⟩,kd2,ws2,nums2,ks2,ps2⟩:=r
   have HY:=Lib.hid (HR.out.2.2.2 _ (List.mem_of_getElem? HK.out.2.2.2.1))
   obtain ⟨h61,h62,h63⟩:=HY.out
   dsimp only at h61 h62 h63
   obtain ⟨Bw,dw,rfl,_⟩:=h61
   obtain ⟨Bu,du,rfl,_⟩:=h62
   obtain ⟨Bk,dk,rfl,_⟩:=h63
   go_upto_region 4 with (go_at_call 25;(refine IN.out.mono ?_);rintro e w1 ⟨rfl,hp,hf⟩;have H1:=Lib.hid (And.intro hp hf);clear hp hf)
   obtain ⟨an,rfl,n0,n1,n2,n3,n4⟩:=ZK HR.out.2.2.1 H1.out.1.below HK.out.2.2.2.1 (by omega)
   dsimp only at n0 n1 n2 n3 n4
   obtain ⟨v,hv,_⟩:=H1.out.1.box
   have c2:=hv.blk.cell 2
   simp only [List.getElem?_toArray,List.getElem?_cons_zero,List.getElem?_cons_succ] at c2
   clear hv
   have EC:=Lib.hid (HS.out.2.2.2.2.2.2.1 w1 bp _ _ _ H1.out.1 HS.out.2.1 HY.out HK.out.2.2.2.2.2.2 (by have:=HK.out.2.2.2.2.2.1;simp only [List.length_append];omega))
   unfold ndX at EC
   dsimp only at EC
   have door:=hF
   unfold Zbb at door
   go_upto_region 5 with (with_reducible refine EC.out.mono ?_;rintro e w2 ⟨rfl,hp,hf⟩;have H2:=Lib.hid (And.intro hp hf);clear hp hf)
   have AD:=Lib.hid (ZH w0 w2 bp dp _ _ [10] H2.out.1 (by have:=HK.out.2.2.2.2.2.1;simp only [List.length_append,List.length_cons,List.length_nil];omega))
   go_wp2_with (go_at_call 26;(refine AD.out.mono ?_);rintro e w3 ⟨rfl,hp,hf⟩;have H3:=Lib.hid (And.intro hp hf);clear hp hf)
   go_roundg (ks.length-(k+1))
   case measure=>have:=HK.out.1;have:=HK.out.2.1;omega
   case rel=>
    refine ⟨k+1,by push_cast;rfl,HK.out.1,rfl,?_,((HK.out.2.2.1.trans H1.out.2).trans H2.out.2).trans H3.out.2⟩
    rw [ZeN dp L k _ HK.out.2.2.2.2.1]
    have:=H3.out.1
    simp only [List.append_assoc] at this ⊢
    exact this
end
section
open Go.RowKit
theorem PrS.deep {w0 w:World} {bp dp:Nat} {t:Txt} {vn:Value} (h:PrS w0 w bp t dp vn) (d:Nat):PrS w0 (w.setCell ⟨bp,1,none⟩ (.int .i64 (d:Int))) bp t d vn:=by
 obtain ⟨v,h1,h2⟩:=h.box
 exact ⟨⟨v,by simpa using h1.set 1 (.int .i64 (d:Int)),Zb4 h2 (h1.off h2 (by decide))⟩,h.below.setCell h.ge _,h.ge⟩
theorem Fr.cell (w:World) (bp i:Nat) (v:Value):Fr w (w.setCell ⟨bp,i,none⟩ v) bp:=
 ⟨by simp [World.setCell],fun b ty cs h1 _ h3=>Zm.other h3 (fun e=>h1 e.symm) _⟩
theorem PrS.cells {w0 w:World} {bp dp:Nat} {t:Txt} {vn:Value} (h:PrS w0 w bp t dp vn):w.cell? ⟨bp,1,none⟩=some (.int .i64 dp)/\w.frozen? ⟨bp,1,none⟩=false/\w.cell? ⟨bp,2,none⟩=some vn:=by
 obtain ⟨v,h1,_⟩:=h.box
 have c1:=h1.blk.cell 1
 have c2:=h1.blk.cell 2
 have f1:=h1.blk.free 1
 simp only [List.getElem?_toArray,List.getElem?_cons_zero,List.getElem?_cons_succ] at c1 c2
 exact ⟨c1,f1,c2⟩
theorem ZcT (F:Nat) (hF:Zbb F) (w0 w:World) (bp dp:Nat) (t:Txt) (vn:Value) (ns:List Nd) (A:Option Addr) (c:Nat) (ks:List Int) (Ok:Nd->Prop) (T:Nd->Txt) (h:PrS w0 w bp t dp vn) (hN:Zf w0 vn ns) (hd:dp<4000)
  (hK:ZB w0 w0.heap.size 1 A ks.length (ks.map (Value.int .i64))) (hkl:ks.length<=maxLen) (hok:ZM ns ks Ok) (hE:Za4 F w0 ns (dp+1) Ok T) (hl:t.length+(ZA dp (ks.map fun k=>T (Ze ns k))).length+10000<=140737488355328) :
  Calls Tryz.prog 27 #[.pointer (some ⟨bp,0,none⟩),.slice A ks.length c,.func (.func F) #[.pointer (some ⟨bp,0,none⟩)] #[]] w fun e w'=>e=.returned (.tuple #[])/\PrS w0 w' bp (t++ZA dp (ks.map fun k=>T (Ze ns k))) dp vn/\Fr w w' bp:=by
 by_cases hz:ks=[]
 ·subst hz
  have e1:ZA dp (([]:List Int).map fun k=>T (Ze ns k))=[32,123,32,125]:=rfl
  rw [e1] at hl ⊢
  have AD:=Lib.hid (ZH w0 w bp dp t vn [32,123,32,125] h (by simp only [List.length_cons,List.length_nil] at hl ⊢;omega))
  have t0:(((([]:List Int).length:Nat):Int)==0)=true:=rfl
  clear hl e1 hE hok hkl hK hN h
  go_enter Tryz.func27,Tryz.ntmps27
  go_wp2_with (go_at_call 26;(refine AD.out.mono ?_);rintro e w1 ⟨rfl,hp,hf⟩;have H1:=Lib.hid (And.intro hp hf);clear hp hf)
  refine bodyPost_ret (v:=.tuple #[]) (results_none (by kernel_rfl) _ _ _) rfl ⟨rfl,H1.out⟩
 ·have e1:ZA dp (ks.map fun k=>T (Ze ns k))=[32,123,10]++Zav (dp+1) (ks.map fun k=>T (Ze ns k))++ZbG dp++[125]:=by
   cases ks with
   | nil=>exact absurd rfl hz
   | cons a r=>rfl
  rw [e1] at hl ⊢
  simp only [List.length_append,List.length_cons,List.length_nil] at hl
  have t0:((ks.length:Int)==0)=false:=by
   cases ks with
   | nil=>exact absurd rfl hz
   | cons a r=>rw [beq_eq_false_iff_ne];simp only [List.length_cons];omega
  have wd:IntKind.i64.wrap ((dp:Int)+1)=((dp+1:Nat):Int):=(IntWalk.i64_in _ (by omega)).trans (by push_cast;rfl)
  have wd2:IntKind.i64.wrap (((dp+1:Nat):Int)-1)=(dp:Int):=(IntWalk.i64_in _ (by omega)).trans (by push_cast;omega)
  have wd3:IntKind.i64.wrap (dp:Int)=(dp:Int):=IntWalk.i64_in _ (by omega)
  have wd4:wrap64 (dp:Int)=(dp:Int):=IntWalk.wrap64_in _ (by omega)
  have AD:=Lib.hid (ZH w0 w bp dp t vn [32,123,10] h (by simp only [List.length_cons,List.length_nil];omega))
  have HL:=Lib.hid (fun (w1:World) (p1:PrS w0 w1 bp (t++[32,123,10]) (dp+1) vn)=>ZeO F hF w0 w1 bp (dp+1) _ vn ns A c ks Ok T p1 hN (by omega) hK hkl hok hE (by simp only [List.length_append,List.length_cons,List.length_nil];omega))
  have HS:=Lib.hid (And.intro hl hd)
  clear hz e1 hE hok hkl hK hN h hd hl
  go_enter Tryz.func27,Tryz.ntmps27
  go_upto_region 3 with (go_at_call 26;(refine AD.out.mono ?_);rintro e w1 ⟨rfl,hp,hf⟩;have H1:=Lib.hid (And.intro hp hf);clear hp hf)
  obtain ⟨c1,f1,c2⟩:=H1.out.1.cells
  have P2:=Lib.hid (H1.out.1.deep (dp+1))
  have L2:=Lib.hid (HL.out _ P2.out)
  go_upto_region 5 with (go_at_call 12;(refine L2.out.mono ?_);rintro e w3 ⟨rfl,hp,hf⟩;have H3:=Lib.hid (And.intro hp hf);clear hp hf)
  obtain ⟨d1,g1,d2⟩:=H3.out.1.cells
  have P4:=Lib.hid (H3.out.1.deep dp)
  have IN:=Lib.hid (Zd7 w0 _ bp dp _ vn P4.out (by have:=HS.out.2;omega) (by have:=HS.out.1;simp only [List.length_append,List.length_cons,List.length_nil];omega))
  go_upto_region 7 with (go_at_call 25;(refine IN.out.mono ?_);rintro e w5 ⟨rfl,hp,hf⟩;have H5:=Lib.hid (And.intro hp hf);clear hp hf)
  have AE:=Lib.hid (ZH w0 w5 bp dp _ vn [125] H5.out.1 (by have:=HS.out.1;simp only [List.length_append,List.length_cons,List.length_nil];omega))
  go_wp2_with (go_at_call 26;(refine AE.out.mono ?_);rintro e w6 ⟨rfl,hp,hf⟩;have H6:=Lib.hid (And.intro hp hf);clear hp hf)
  go_end0
  refine ⟨rfl,?_,((((H1.out.2.trans (Fr.cell _ _ _ _)).trans H3.out.2).trans (Fr.cell _ _ _ _)).trans H5.out.2).trans H6.out.2⟩
  have:=H6.out.1
  simp only [List.append_assoc] at this ⊢
  exact this
end
section
open Go.RowKit
theorem Zdl (s:Txt) (a b:List Txt):Lib.joinTail s (a++b)=Lib.joinTail s a++Lib.joinTail s b:=by
 unfold Lib.joinTail
 rw [List.map_append,List.flatten_append]
theorem ZiA (s:Txt) (l:List Txt) (x:Txt) (h:l≠[]):ZS s (l++[x])=ZS s l++s++x:=by
 cases l with
 | nil=>exact absurd rfl h
 | cons a r=>rw [List.cons_append,ZbQ,ZbQ,Zdl];simp [Lib.joinTail]
theorem ZgH (s:Txt) (l:List Txt) (k:Nat):(ZS s (l.take k)).length<=(ZS s l).length:=by
 cases l with
 | nil=>simp
 | cons a r=>
  cases k with
  | zero=>simp [ZS]
  | succ k=>
   rw [List.take_succ_cons,ZbQ,ZbQ]
   have e:Lib.joinTail s r=Lib.joinTail s (r.take k)++Lib.joinTail s (r.drop k):=by rw [<- Zdl,List.take_append_drop]
   rw [e]
   simp only [List.length_append]
   omega
def Zkv (F:Nat) (fr:Array Value) (w0 w1:World) (bp dp:Nat) (vn:Value) (L:List Txt):Prop:=
 ∀ (k:Nat) (x:Txt) (w:World) (t:Txt),L[k]? = some x->PrS w0 w bp t dp vn->Fr w1 w bp->t.length+x.length+10000<=140737488355328 ->
  Calls Tryz.prog F (#[.int .i64 (k:Int)]++fr) w fun e w'=>e=.returned (.tuple #[])/\PrS w0 w' bp (t++x) dp vn/\Fr w w' bp
theorem Zce (F:Nat) (fr:Array Value) (hF:Zbb F) (w0 w:World) (bp dp:Nat) (t s:Txt) (vn:Value) (L:List Txt) (h:PrS w0 w bp t dp vn) (hE:Zkv F fr w0 w bp dp vn L) (hll:L.length<=maxLen) (hl:t.length+(ZS s L).length+10000<=140737488355328) :
  Calls Tryz.prog 42 #[.pointer (some ⟨bp,0,none⟩),txt s,.int .i64 (L.length:Nat),.func (.func F) #[] fr] w fun e w'=>e=.returned (.tuple #[])/\PrS w0 w' bp (t++ZS s L) dp vn/\Fr w w' bp:=by
 have HS:=Lib.hid (And.intro h (And.intro hE (And.intro hll hl)))
 have door:=hF
 unfold Zbb at door
 clear h hE hll hl
 obtain ⟨m,hm⟩:∃ m,m=L.length:=⟨_,rfl⟩
 rw [<- hm]
 have HM:=Lib.hid hm
 clear hm
 go_enter Tryz.func42,Tryz.ntmps42
 go_wp2_with fail
 go_loopg [10] m (fun g v10 wr=>∃ k:Nat,v10=.int .i64 k/\k<=m/\g=m-k/\PrS w0 wr bp (t++ZS s (L.take k)) dp vn/\Fr w wr bp)
 case atStart=>exact ⟨0,rfl,Nat.zero_le _,rfl,by simpa [ZS] using HS.out.1,Fr.refl _ _⟩
 case round=>
  obtain ⟨k,rfl,hk,hg,hS,hFr⟩:=hrel
  by_cases hkn:k=m
  ·have j1:decide (k<m)=false:=decide_eq_false (by omega)
   have j2:¬ ((k:Int)<(m:Int)):=by omega
   have FIN:=Lib.hid (And.intro (show PrS w0 wr bp (t++ZS s L) dp vn by rw [show L.take k=L by rw [hkn,HM.out,List.take_length]] at hS;exact hS) hFr)
   clear hk hg hS hFr hkn
   go_wp2_with fail
   go_end0
   exact ⟨rfl,FIN.out⟩
  ·have hlt:k<m:=by omega
   obtain ⟨x,hx⟩:∃ x,L[k]? = some x:=⟨_,List.getElem?_eq_getElem (by rw [<- HM.out];exact hlt)⟩
   have j1:(k:Int)<(m:Int):=by omega
   have wk:IntKind.i64.wrap ((k:Int)+1)=(k:Int)+1:=IntWalk.i64_in _ (by have:=HS.out.2.2.1;have:=HM.out;have e:maxLen=9223372036854775807:=rfl;omega)
   have le:=ZgH s L (k+1)
   rw [List.take_add_one,hx] at le
   dsimp only [Option.toList] at le
   by_cases hk0:k=0
   ·have e0:ZS s (L.take k)=[]:=by rw [hk0];rfl
    have e1:ZS s (L.take (k+1))=x:=by rw [List.take_add_one,hx,hk0];rfl
    have j2:¬ ((0:Int)<(k:Int)):=by omega
    rw [e0,List.append_nil] at hS
    have EC:=Lib.hid (HS.out.2.1 k x wr _ hx hS hFr (by
     have:=HS.out.2.2.2
     rw [hk0] at le
     have:(ZS s (L.take 0++[x]))=x:=rfl
     rw [this] at le
     omega))
    have HK:=Lib.hid (And.intro hlt (And.intro hg (And.intro e1 hFr)))
    clear hkn hlt hk hg hFr hS hx e0 e1 le hk0
    go_wp2_with (with_reducible refine EC.out.mono ?_;rintro e w2 ⟨rfl,hp,hf⟩;have H2:=Lib.hid (And.intro hp hf);clear hp hf)
    go_roundg (m-(k+1))
    case measure=>have:=HK.out.1;have:=HK.out.2.1;omega
    case rel=>exact ⟨k+1,by push_cast;rfl,HK.out.1,rfl,by rw [HK.out.2.2.1];exact H2.out.1,HK.out.2.2.2.trans H2.out.2⟩
   ·have ne:L.take k≠[]:=fun e=>by
     have:=congrArg List.length e
     rw [List.length_take,List.length_nil] at this
     have:=HM.out
     omega
    have e1:ZS s (L.take (k+1))=ZS s (L.take k)++s++x:=by rw [List.take_add_one,hx];exact ZiA s _ x ne
    have j2:(0:Int)<(k:Int):=by omega
    have le2:(ZS s (L.take k)).length+s.length+x.length<=(ZS s L).length:=by
     have:=ZgH s L (k+1)
     rw [e1] at this
     simp only [List.length_append] at this
     exact this
    have AD:=Lib.hid (ZH w0 wr bp dp _ vn s hS (by have:=HS.out.2.2.2;rw [List.length_append];omega))
    have HK:=Lib.hid (And.intro hlt (And.intro hg (And.intro e1 (And.intro hFr (And.intro hx le2)))))
    clear hkn hlt hk hg hFr hS hx e1 le le2 hk0 ne
    go_upto_region 5 with (go_at_call 26;(refine AD.out.mono ?_);rintro e w1 ⟨rfl,hp,hf⟩;have H1:=Lib.hid (And.intro hp hf);clear hp hf)
    have EC:=Lib.hid (HS.out.2.1 k x w1 _ HK.out.2.2.2.2.1 H1.out.1 (HK.out.2.2.2.1.trans H1.out.2) (by
     have:=HS.out.2.2.2
     have:=HK.out.2.2.2.2.2
     simp only [List.length_append]
     omega))
    go_wp2_with (with_reducible refine EC.out.mono ?_;rintro e w2 ⟨rfl,hp,hf⟩;have H2:=Lib.hid (And.intro hp hf);clear hp hf)
    go_roundg (m-(k+1))
    case measure=>have:=HK.out.1;have:=HK.out.2.1;omega
    case rel=>
     refine ⟨k+1,by push_cast;rfl,HK.out.1,rfl,?_,(HK.out.2.2.2.1.trans H1.out.2).trans H2.out.2⟩
     rw [HK.out.2.2.1]
     have:=H2.out.1
     simp only [List.append_assoc] at this ⊢
     exact this
end
end Go.Proofs.YtenbomphkihmlaaGreatDoor
