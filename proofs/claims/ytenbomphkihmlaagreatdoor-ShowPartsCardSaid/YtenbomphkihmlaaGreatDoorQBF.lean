import Derived.Test.YtenbomphkihmlaaGreatDoorRows
import Derived.ProofKit
import Derived.Below
import Derived.Lib.SmallJoins
import Derived.OpenShut
import Derived.WalkKit
import Derived.ChangeSlices
import Derived.SliceStrings
import Derived.Deep.Slices
import Derived.SizedLaws
import Derived.Test.YtenbomphkihmlaaGreatDoorQAS
import Derived.Test.YtenbomphkihmlaaGreatDoorQBD
import Derived.Test.YtenbomphkihmlaaGreatDoorQBE
set_option maxRecDepth 100000
set_option maxHeartbeats 8000000
namespace Go.Proofs.YtenbomphkihmlaaGreatDoor
section
open Go.RowKit
theorem Ze9 {ns:List Nd} (h:ZbY ns):ZcL ns:=fun i d hd=>(h.2 i d hd).2
theorem Zdq {w:World} {v:Value} {ns:List Nd} (hN:Zf w v ns) {q:Nat} (hq:q<ns.length):∃ (d:Nd) (ad:Addr) (cp:Nat) (B1 B2 B3:Option Addr) (e1 e2 e3:Nat),ns[q]? = some d/\v=.slice (some ad) ns.length cp/\Zv w ((.slice B1 d.words.length e1,.slice B2 d.nums.length e2,.slice B3 d.kids.length e3),d)/\∀ wr:World,Below w.heap.size w wr ->
  wr.cell? (ad.add (q*5))=some (.int .i64 d.kind)/\wr.cell? ⟨(ad.add (q*5)).block,(ad.add (q*5)).off+1,none⟩=some (.slice B1 d.words.length e1)/\wr.cell? ⟨(ad.add (q*5)).block,(ad.add (q*5)).off+2,none⟩=some (.slice B2 d.nums.length e2)/\wr.cell? ⟨(ad.add (q*5)).block,(ad.add (q*5)).off+3,none⟩=some (.slice B3 d.kids.length e3)/\wr.cell? ⟨(ad.add (q*5)).block,(ad.add (q*5)).off+4,none⟩=some (.int .i64 d.pos):=by
 obtain ⟨A,c,rs,rfl,g2,g3,g4,g5,g6⟩:=hN
 obtain ⟨y,hy⟩:∃ y,rs[q]? = some y:=⟨_,List.getElem?_eq_getElem (by have:=congrArg List.length g4;rw [List.length_map] at this;omega)⟩
 have hd:ns[q]? = some y.2:=by rw [<- g4,List.getElem?_map,hy];rfl
 obtain ⟨ad,rfl,_⟩:=ZK g5 (Below.refl _ _) hy (by omega)
 have hn:=g6 y (List.mem_of_getElem? hy)
 obtain ⟨⟨B1,e1,h1,j1⟩,⟨B2,e2,h2,j2⟩,B3,e3,h3,j3⟩:=id hn
 refine ⟨y.2,ad,c,B1,B2,B3,e1,e2,e3,hd,rfl,⟨⟨B1,e1,rfl,j1⟩,⟨B2,e2,rfl,j2⟩,B3,e3,rfl,j3⟩,fun wr hb=>?_⟩
 obtain ⟨ad',e,d0,d1,d2,d3,d4⟩:=ZK g5 hb hy (by omega)
 injection e with e
 subst e
 rw [h1] at d1
 rw [h2] at d2
 rw [h3] at d3
 exact ⟨d0,d1,d2,d3,d4⟩
theorem Zel (w:World) (v:Value) (ns:List Nd) (hN:Zf w v ns) (hs:Zbw ns) :
  Calls Tryz.prog 6 #[v] w fun e w'=>OkB (ZaI ns=true) e/\Below w.heap.size w w':=by
 obtain ⟨A,c,rfl⟩:∃ A c,v=.slice A ns.length c:=by obtain ⟨A,c,_,e,_⟩:=hN;exact ⟨A,c,e⟩
 by_cases q:1500<ns.length
 ·have tq:(1500:Int)<(ns.length:Int):=by omega
  clear hN hs q
  go_enter Tryz.func6,Tryz.ntmps6
  go_wp2_with fail
  go_ret
  exact ⟨Zj,Below.refl _ _⟩
 ·have tq:¬ (1500:Int)<(ns.length:Int):=by omega
  have tq2:(ns.length:Int)<=1500:=by omega
  have LI:=Lib.hid (Zgl w _ ns hN (by omega) hs)
  have HN:=Lib.hid (And.intro hN (And.intro hs q))
  have D0:=Lib.hid (fun (h0:0<ns.length)=>Zdq hN h0)
  have DE:=Lib.hid (fun (h:ZbY ns)=>ZeW w _ ns hN hs (Ze9 h) ns.length 0 (by omega) h.1 (by omega))
  clear hN hs q
  go_enter Tryz.func6,Tryz.ntmps6
  go_wp2_with (go_at_call 8;(with_reducible refine LI.out.mono ?_);rintro e1 w1 ⟨⟨b,rfl,hq⟩,rfl⟩;have HQ:=Lib.hid hq;clear hq;cases b)
  ·go_ret
   exact ⟨Zj,Below.refl _ _⟩
  ·have hL:=HQ.out trivial
   have h1:=hL.1
   have tz:(0:Int)<(ns.length:Int):=by omega
   obtain ⟨d,ad,cp,B1,B2,B3,e1,e2,e3,hd,ev,hI,hc⟩:=D0.out h1
   injection ev with ea _ ec
   subst ea ec
   obtain ⟨m0,m1,m2,m3,m4⟩:=hc _ (Below.refl _ _)
   rw [show ad.add (0*5)=ad by unfold Addr.add;simp] at m0
   have HL:=Lib.hid (And.intro hL hd)
   have DE1:=Lib.hid (DE.out hL)
   clear hL hd hI hc m1 m2 m3 m4 LI HQ
   cases zk:(d.kind==0)
   ·have uk:(d.kind != 0)=true:=by rw [bne,zk];rfl
    go_wp2_with fail
    go_ret
    exact ⟨Zj,Below.refl _ _⟩
   ·have uk:(d.kind != 0)=false:=by rw [bne,zk];rfl
    have K0:=Lib.hid (show Zq ns 0=0 from (Zbi (k:=0) HL.out.2).trans (by simpa using zk))
    rw [show (((0:Nat):Int))=0 from rfl] at DE1
    obtain ⟨hz,hhz⟩:∃ hz,hz=htF ns ns.length 0:=⟨_,rfl⟩
    rw [<- hhz] at DE1
    have HZ:=Lib.hid hhz
    clear hhz
    by_cases q24:24<hz
    ·go_wp2_with (go_at_call 9;(with_reducible refine DE1.out.mono ?_);rintro e2 w2 ⟨rfl,rfl⟩)
     go_ret
     exact ⟨Zj,Below.refl _ _⟩
    ·have q25:hz<=24:=by omega
     go_wp2_with (go_at_call 9;(with_reducible refine DE1.out.mono ?_);rintro e2 w2 ⟨rfl,rfl⟩)
     clear m0 uk
     go_loopg [3] ns.length (fun gk v3 wr=>∃ j:Nat,v3=.int .i64 j/\j<=ns.length/\gk=ns.length-j/\(ns.take j).all (Zw ns)=true/\Below w.heap.size w wr)
     case atStart=>exact ⟨0,rfl,Nat.zero_le _,rfl,rfl,Below.refl _ _⟩
     case round=>
      obtain ⟨j,rfl,hj,hgk,hall,hb⟩:=hrel
      by_cases hjn:j=ns.length
      ·have tj:¬ (j:Int)<(ns.length:Int):=by omega
       have e:ns.take j=ns:=by rw [hjn];exact List.take_length
       rw [e] at hall
       have FIN:=Lib.hid (And.intro (Zjg HL.out.1 (by have:=HN.out.2.2;omega) K0.out (by rw [<- HZ.out];exact q25) (fun d hd=>List.all_eq_true.mp hall d hd)) hb)
       clear e hall hb hgk hj
       go_wp2_with fail
       go_ret
       exact ⟨Zae FIN.out.1,FIN.out.2⟩
      ·have hlt:j<ns.length:=by omega
       obtain ⟨dj,adj,cpj,B1,B2,B3,e1,e2,e3,hdj,ev,hIj,hcj⟩:=Zdq HN.out.1 hlt
       injection ev with ea _ ec
       injection ea with ea
       subst ea ec
       obtain ⟨m0,m1,m2,m3,m4⟩:=hcj _ hb
       have nxt:=ZaZ (f:=Zw ns) hdj hall
       have ND:=Lib.hid (Zir wr _ ns ((.slice B1 dj.words.length e1,.slice B2 dj.nums.length e2,.slice B3 dj.kids.length e3),dj) (HN.out.1.below hb) (hIj.below hb) (fun k hk=>by have:=(HL.out.1.2 j dj hdj).2 k hk;omega))
       have tj:(j:Int)<(ns.length:Int):=by omega
       have tj2:(0:Int)<=(j:Int):=by omega
       have wj:IntKind.i64.wrap ((j:Int)+1)=(j:Int)+1:=IntWalk.i64_in _ (by omega)
       have HJ:=Lib.hid (And.intro hgk (And.intro hlt (And.intro nxt hb)))
       clear hgk hlt nxt hb hjn hj hall hIj hcj hdj
       obtain ⟨dk,dw,dn,dks,dp⟩:=dj
       unfold ndV at ND
       dsimp only at m0 m1 m2 m3 m4 ND HJ
       go_wp2_with (go_at_call 10;(with_reducible refine ND.out.mono ?_);rintro e2 w2 ⟨⟨b,rfl,hq⟩,hb2⟩;have HQ2:=Lib.hid (And.intro hq hb2);clear hq hb2;cases b)
       ·go_ret
        exact ⟨Zj,HJ.out.2.2.2.trans (HQ2.out.2.mono HJ.out.2.2.2.size)⟩
       ·go_roundg (ns.length-(j+1))
        case measure=>have:=HJ.out;omega
        case rel=>exact ⟨j+1,by push_cast;rfl,by have:=HJ.out;omega,rfl,HJ.out.2.2.1.trans (HQ2.out.1 trivial),HJ.out.2.2.2.trans (HQ2.out.2.mono HJ.out.2.2.2.size)⟩
end
section
open Go.RowKit
def Zj9 (ns:List Nd):Prop:=ns.length<=1000/\∀ d∈ns,d.words.length<=1000
theorem ZdH (w:World) (v:Value) (ns:List Nd) (hN:Zf w v ns) (hs:Zbw ns) :
  Calls Tryz.prog 5 #[v] w fun e w'=>OkB (Zj9 ns) e/\Below w.heap.size w w':=by
 obtain ⟨A,c,rfl⟩:∃ A c,v=.slice A ns.length c:=by obtain ⟨A,c,_,e,_⟩:=hN;exact ⟨A,c,e⟩
 have hm:ns.length<=maxLen:=by obtain ⟨_,_,_,e,a,b,_⟩:=hN;omega
 have HN:=Lib.hid (And.intro hN (And.intro hm hs))
 clear hN hm hs
 go_enter Tryz.func5,Tryz.ntmps5
 go_wp2_with fail
 go_loopg [3,4] ns.length (fun gk v3 v4 wr=>∃ (z i:Nat),v3=.int .i64 (z:Int)/\v4=.int .i64 i/\i<=ns.length/\gk=ns.length-i/\Below w.heap.size w wr/\ns.length<=z/\∀ d∈ns.take i,d.words.length<=z)
 case atStart=>exact ⟨ns.length,0,rfl,rfl,Nat.zero_le _,rfl,Below.refl _ _,Nat.le_refl _,fun d hd=>by cases hd⟩
 case round=>
  obtain ⟨z,i,rfl,rfl,hi,hgk,hb,hlz,hall⟩:=hrel
  by_cases hin:i<ns.length
  ·have ti:(i:Int)<(ns.length:Int):=by omega
   by_cases hz:(z:Int)<=1000
   ·obtain ⟨d,ad,cp,B1,B2,B3,e1,e2,e3,hd,ev,hI,hc⟩:=Zdq HN.out.1 hin
    injection ev with ea _ ec
    subst ea ec
    obtain ⟨m0,m1,m2,m3,m4⟩:=hc _ hb
    have ti2:(0:Int)<=(i:Int):=by omega
    have wi:IntKind.i64.wrap ((i:Int)+1)=(i:Int)+1:=IntWalk.i64_in _ (by have:=HN.out.2.1;unfold maxLen at this;omega)
    have hsz:=HN.out.2.2 d (List.mem_of_getElem? hd)
    have wz1:IntKind.i64.wrap ((z:Int)+(d.words.length:Int))=(z:Int)+(d.words.length:Int):=IntWalk.i64_in _ (by omega)
    have wz2:IntKind.i64.wrap ((z:Int)+(d.words.length:Int)+(d.nums.length:Int))=(z:Int)+(d.words.length:Int)+(d.nums.length:Int):=IntWalk.i64_in _ (by omega)
    have wz3:IntKind.i64.wrap ((z:Int)+(d.words.length:Int)+(d.nums.length:Int)+(d.kids.length:Int))=(z:Int)+(d.words.length:Int)+(d.nums.length:Int)+(d.kids.length:Int):=IntWalk.i64_in _ (by omega)
    have nx:∀ x∈ns.take (i+1),x.words.length<=z+d.words.length+d.nums.length+d.kids.length:=fun x hx=>by
     rw [List.take_add_one,hd] at hx
     rcases List.mem_append.1 hx with h | h
     ·have:=hall x h;omega
     ·have:x=d:=by simpa using h
      rw [this];omega
    have HI:=Lib.hid (And.intro hgk (And.intro hin (And.intro hb (And.intro hlz nx))))
    clear hgk hin hb hi hd hI hc hlz hall hsz nx
    obtain ⟨dk,dw,dn,dks,dp⟩:=d
    dsimp only at m0 m1 m2 m3 m4 wz1 wz2 wz3 HI
    generalize dw.length=a1 at *
    generalize dn.length=a2 at *
    generalize dks.length=a3 at *
    go_upto_region 5 with fail
    go_region
    all_goals
     go_wp2_with fail
     go_roundg (ns.length-(i+1))
     case measure=>have:=HI.out;omega
     case rel=>exact ⟨z+a1+a2+a3,i+1,by push_cast;rfl,by push_cast;rfl,by have:=HI.out;omega,rfl,HI.out.2.2.1.drew,by have:=HI.out;omega,HI.out.2.2.2.2⟩
   ·have hz2:1000<(z:Int):=by omega
    have HB:=Lib.hid hb
    clear hgk hb hi hin hlz hall
    go_wp2_with fail
    go_ret
    exact ⟨Zj,HB.out⟩
  ·have ti:¬ (i:Int)<(ns.length:Int):=by omega
   have hin2:i=ns.length:=by omega
   have HB:=Lib.hid hb
   by_cases hz:(z:Int)<=1000
   ·have HF:=Lib.hid (show Zj9 ns from ⟨by omega,fun d hd=>by have:=hall d (by rw [hin2,List.take_length];exact hd);omega⟩)
    clear hgk hb hi hin hlz hall hin2
    go_wp2_with fail
    go_ret
    exact ⟨Zae HF.out,HB.out⟩
   ·clear hgk hb hi hin hlz hall hin2
    go_wp2_with fail
    go_ret
    exact ⟨Zj,HB.out⟩
end
section
open Go.RowKit Go.WideShapes Go.ChangeShapes Go.ChangeAt Go.Joins
section
variable {H:Type} {enc:TypeId×Value->H} {P:Program}
theorem Zfd {f:Func} {s:ChangeSpec} {apart fresh handsOn again:Bool} {W W':World} {args:Array Value} {v:Value} {ds gs:List (DataW H)} {before pa pv:List MemPlace}
  (hW:DataW.Whole enc P f.params.toList s.vars apart W args.toList ds gs before)
  (hres:∀ (b:Nat) (sp:Nat->Bool) (hd:Bool),DataW.TrodAll enc P W' b sp hd f.resultTypes.toList (v.resultList f.resultTypes.size) (s.fn H (ds++gs)).results [])
  (hargs:∀ sp:Nat->Bool,(∀ p∈before,sp p.block=true)->DataW.TrodAll enc P W' 0 sp true f.params.toList args.toList (s.fn H (ds++gs)).args pa)
  (hvars:∀ sp:Nat->Bool,(∀ p∈before,sp p.block=true)->DataW.TrodVars enc P W' sp s.vars (s.fn H (ds++gs)).vars pv)
  (hps:before=pa++pv) (hb:Below W.heap.size W W')
  (hok:∀ (j:Nat) (t:TypeId) (r:Value),f.resultTypes[j]? = some t->(v.resultList f.resultTypes.size)[j]? = some r->Value.okWide P W' .any 0 t r) :
  s.post enc P f apart fresh handsOn again W args v W':=by
 have hlt:∀ p∈before,p.block<W.heap.size:=fun p hp=>hW.lt p hp
 have hold:∀ p∈before,(fun b=>decide (b<W.heap.size)) p.block=true:=fun p hp=>by simpa using hlt p hp
 refine ⟨ds,gs,before,[],pa,pv,hW,hres _ _ _,hargs _ hold,hvars _ hold,World.keptBut_mono (fun p hp=>⟨hp,?_⟩) (hb.frame (·∈before)),fun _=>?_⟩
 ·rw [hps,List.mem_append] at hp
  exact Or.inr hp
 ·obtain ⟨_,_,_,_,_,hz,hn⟩:=hW
  refine ⟨hok,_,_,([]++pa)++pv,⟨[]++pa,pv,trodAll_append (hargs _ (fun _ _=>rfl)) (hres _ _ _),hvars _ (fun _ _=>rfl),rfl,?_,?_⟩,?_⟩
  ·intro b off hp
   have hin:MemPlace.cell b off∈before:=by rw [hps];simpa using hp
   rw [hb.frozen (hlt _ hin)]
   exact hz b off hin
  ·intro ha
   have:=hn ha
   rw [hps] at this
   simpa using this
  ·intro p hp _
   rw [hps]
   simpa using hp
end
theorem Tryz.own:ownKnob Tryz.prog.godebug=none:=by kernel_rfl
end
section
open Go.RowKit Go.ChangeShapes Go.WideShapes Go.ChangeAt Go.Joins Go.Deep
theorem ZdI {H:Type} {P:Program} {e:TypeId}:∀ {ds:List (DataW H)} {d:DataW H},d∈ds->∀ n∈d.weights P e,n∈DataW.weightsAll P e ds
 | d0::ds,d,hd,n,hn=>by
  simp only [DataW.weightsAll,List.mem_append]
  rcases List.mem_cons.mp hd with rfl | hd
  ·exact .inl hn
  ·exact .inr (ZdI hd n hn)
theorem Zdc:∀ (l:List (NdV×Nd)) (j:Nat) (u:Value),(ZL l)[j]? = some u->∃ i x,l[i]? = some x/\((j=i*5/\u=.int .i64 x.2.kind)\/(j=i*5+1/\u=x.1.1)\/(j=i*5+2/\u=x.1.2.1)\/(j=i*5+3/\u=x.1.2.2)\/(j=i*5+4/\u=.int .i64 x.2.pos))
 | [],j,u,h=>by simp [ZL] at h
 | y::r,0,u,h=>⟨0,y,rfl,.inl ⟨rfl,by simpa [ZL] using h.symm⟩⟩
 | y::r,1,u,h=>⟨0,y,rfl,.inr (.inl ⟨rfl,by simpa [ZL] using h.symm⟩)⟩
 | y::r,2,u,h=>⟨0,y,rfl,.inr (.inr (.inl ⟨rfl,by simpa [ZL] using h.symm⟩))⟩
 | y::r,3,u,h=>⟨0,y,rfl,.inr (.inr (.inr (.inl ⟨rfl,by simpa [ZL] using h.symm⟩)))⟩
 | y::r,4,u,h=>⟨0,y,rfl,.inr (.inr (.inr (.inr ⟨rfl,by simpa [ZL] using h.symm⟩)))⟩
 | y::r,j+5,u,h=>by
  obtain ⟨i,x,hx,hc⟩:=Zdc r j u (by simpa [ZL] using h)
  refine ⟨i+1,x,by simpa using hx,?_⟩
  rcases hc with ⟨a,b⟩ | ⟨a,b⟩ | ⟨a,b⟩ | ⟨a,b⟩ | ⟨a,b⟩
  ·exact .inl ⟨by omega,b⟩
  ·exact .inr (.inl ⟨by omega,b⟩)
  ·exact .inr (.inr (.inl ⟨by omega,b⟩))
  ·exact .inr (.inr (.inr (.inl ⟨by omega,b⟩)))
  ·exact .inr (.inr (.inr (.inr ⟨by omega,b⟩)))
section
variable {H:Type} {enc:TypeId×Value->H} {P:Program} {w:World} {base:Nat} {spare:Nat->Bool} {held:Bool}
theorem Zed {t e:TypeId} {fuel:Nat} {c:Value} {x:DataW H×List MemPlace} (ht:P.underlying t=some (.slice e)) (he:P.underlying e=some (.int .i64)) (hc:P.cellsOf e=1) (hb:P.bytesOf e=8) (h:DataW.trod enc P w base spare held fuel t [c]=some x) :
  ∃ l,Zad w c l/\((∀ n∈x.1.weights P t,n<=reachBytes)->l.length*8<=reachBytes):=by
 rcases open_ints ht he hc h with ⟨e1,rfl⟩ | ⟨a,len,cap,zs,e1,_,hl,hm,hz,rfl,hat,_⟩
 ·obtain rfl:c=.slice none 0 0:=by simpa using e1
  exact ⟨[],Zad.nil w,fun _=>by simp⟩
 ·obtain rfl:c=.slice (some a) len cap:=by simpa using e1
  have hlz:len<=zs.length:=by rw [hz];split<;>omega
  have hlen:(zs.take len).length=len:=by rw [List.length_take];omega
  refine ⟨zs.take len,⟨some a,cap,by rw [hlen],by rw [hlen];exact hl,hm,?_⟩,fun hw=>?_⟩
  ·rw [hlen]
   refine ⟨by rw [List.length_map,hlen,Nat.mul_one],fun hn=>⟨a,rfl,?_,fun j u hu=>?_⟩⟩
   ·have:=World.block_lt_of_cell? _ _ (hat 0 (by omega))
    rwa [Zan] at this
   ·rw [List.getElem?_map] at hu
    cases hq:(zs.take len)[j]? with
    | none=>rw [hq] at hu;cases hu
    | some y=>
     rw [hq] at hu
     obtain rfl:Value.int .i64 y=u:=by simpa using hu
     have hj:j<len:=by
      have:=(List.getElem?_eq_some_iff.mp hq).1
      omega
     rw [List.getElem?_take_of_lt hj] at hq
     rw [hat j (by omega),List.getD_eq_getElem?_getD,hq]
     rfl
  ·have:=hw ((lits (H:=H) IntKind.i64 (zs.take len)).length*8+(lits (H:=H) IntKind.i64 (zs.drop len)).length*8) (by
    simp only [DataW.weights,ht,hb,List.mem_cons]
    exact .inl (by rw [Nat.add_mul]))
   simp only [lits,List.length_map] at this
   omega
theorem Zhd {t e:TypeId} {fuel:Nat} {c:Value} {x:DataW H×List MemPlace} (ht:P.underlying t=some (.slice e)) (he:P.underlying e=some .string) (hc:P.cellsOf e=1) (hb:P.bytesOf e=16) (h:DataW.trod enc P w base spare held fuel t [c]=some x) :
  ∃ l,Zbf w c l/\((∀ n∈x.1.weights P t,n<=reachBytes)->l.length*16<=reachBytes):=by
 rcases open_strings ht he hc h with ⟨e1,rfl⟩ | ⟨a,len,cap,ss,e1,_,hl,hm,hz,rfl,hat,hsz⟩
 ·obtain rfl:c=.slice none 0 0:=by simpa using e1
  exact ⟨[],Zbf.nil w,fun _=>by simp⟩
 ·obtain rfl:c=.slice (some a) len cap:=by simpa using e1
  have hlz:len<=ss.length:=by rw [hz];split<;>omega
  have hlen:((ss.take len).map fun s=>s.data.toList).length=len:=by rw [List.length_map,List.length_take];omega
  refine ⟨(ss.take len).map fun s=>s.data.toList,⟨some a,cap,by rw [hlen],by rw [hlen];exact hl,hm,?_,fun s hs=>?_⟩,fun hw=>?_⟩
  ·rw [hlen]
   refine ⟨by rw [List.length_map,hlen,Nat.mul_one],fun hn=>⟨a,rfl,?_,fun j u hu=>?_⟩⟩
   ·have:=World.block_lt_of_cell? _ _ (hat 0 (by omega))
    rwa [Zan] at this
   ·rw [List.getElem?_map,List.getElem?_map] at hu
    cases hq:(ss.take len)[j]? with
    | none=>rw [hq] at hu;cases hu
    | some y=>
     rw [hq] at hu
     obtain rfl:txt y.data.toList=u:=by simpa using hu
     have hj:j<len:=by
      have:=(List.getElem?_eq_some_iff.mp hq).1
      rw [List.length_take] at this
      omega
     rw [List.getElem?_take_of_lt hj] at hq
     rw [hat j (by omega),List.getD_eq_getElem?_getD,hq]
     cases y
     rfl
  ·obtain ⟨s',hs',rfl⟩:=List.mem_map.1 hs
   have:=hsz s' (List.mem_of_mem_take hs')
   show s'.data.toList.length<=maxLen
   rw [Array.length_toList]
   exact this
  ·have:=hw ((strs (H:=H) (ss.take len)).length*16+(strs (H:=H) (ss.drop len)).length*16) (by
    simp only [DataW.weights,ht,hb,List.mem_cons]
    exact .inl (by rw [Nat.add_mul]))
   simp only [strs,List.length_map,List.length_take] at this
   rw [hlen]
   omega
end
section
variable {H:Type} {enc:TypeId×Value->H} {w:World} {base:Nat} {spare:Nat->Bool} {held:Bool}
theorem Zgd {fuel:Nat} {cs:List Value} {x:DataW H×List MemPlace} (hl:cs.length=5) (h:DataW.trod enc Tryz.prog w base spare held fuel 29 cs=some x) :
  ∃ q:NdV×Nd,cs=[.int .i64 q.2.kind,q.1.1,q.1.2.1,q.1.2.2,.int .i64 q.2.pos]/\Zv w q/\((∀ n∈x.1.weights Tryz.prog 29,n<=reachBytes)->q.2.words.length*16<=reachBytes/\q.2.nums.length*8<=reachBytes/\q.2.kids.length*8<=reachBytes):=by
 have hC:Tryz.prog.cellsOf 3=1:=by kernel_rfl
 have hC2:Tryz.prog.cellsOf 2=1:=by kernel_rfl
 have hC3:Tryz.prog.cellsOf 9=1:=by kernel_rfl
 have hD1:Tryz.prog.cellsOf 25=1:=by kernel_rfl
 have hD2:Tryz.prog.cellsOf 27=1:=by kernel_rfl
 have hD3:Tryz.prog.cellsOf 26=1:=by kernel_rfl
 have hB:Tryz.prog.bytesOf 3=8:=by kernel_rfl
 have hB2:Tryz.prog.bytesOf 2=8:=by kernel_rfl
 have hB3:Tryz.prog.bytesOf 9=16:=by kernel_rfl
 match cs,hl with
 | [c0,c1,c2,c3,c4],_=>
  obtain ⟨xs,n,_,rfl,_,hlen,hg⟩:=DataW.trod_struct Tryz.underlying29 h
  match xs,hlen with
  | [y0,y1,y2,y3,y4],_=>
   have g0:=hg 0 _ rfl
   have g1:=hg 1 _ rfl
   have g2:=hg 2 _ rfl
   have g3:=hg 3 _ rfl
   have g4:=hg 4 _ rfl
   simp [hC,hD1,hD2,hD3] at g0 g1 g2 g3 g4
   obtain ⟨n0,e0,_,w0⟩:=DataW.trod_int Tryz.underlying3 g0
   obtain ⟨n4,e4,_,w4⟩:=DataW.trod_int Tryz.underlying3 g4
   obtain ⟨l1,s1,b1⟩:=Zhd Tryz.underlying26 Tryz.underlying9 hC3 hB3 g1
   obtain ⟨l2,s2,b2⟩:=Zed Tryz.underlying27 Tryz.underlying2 hC2 hB2 g2
   obtain ⟨l3,s3,b3⟩:=Zed Tryz.underlying25 Tryz.underlying3 hC hB g3
   simp only [List.cons.injEq,and_true] at e0 e4
   subst e0 e4
   refine ⟨((c1,c2,c3),⟨n0,l1,l2,l3,n4⟩),rfl,⟨s1,s2,s3⟩,fun hw=>?_⟩
   simp only [DataW.weights,Tryz.underlying29,List.map_cons,List.map_nil] at hw
   exact ⟨b1 fun m hm=>hw m (DataW.weights_mem_each (j:=1) rfl rfl m hm),b2 fun m hm=>hw m (DataW.weights_mem_each (j:=2) rfl rfl m hm),b3 fun m hm=>hw m (DataW.weights_mem_each (j:=3) rfl rfl m hm)⟩
theorem Zkw {α:Type} [Inhabited α] {n:Nat} {p:Nat->α->Prop} (h:∀ i,i<n->∃ a,p i a):∃ f:Nat->α,∀ i,i<n->p i (f i):=
 ⟨fun i=>if q:i<n then Classical.choose (h i q) else default,fun i q=>by dsimp only;rw [dif_pos q];exact Classical.choose_spec (h i q)⟩
instance:Inhabited (NdV×Nd):=⟨((undef,undef,undef),nd0)⟩
theorem Zee {b0:Nat} {r:Reach} {v:Value} {d:DataW H} {p:List MemPlace} (hv:Value.okWide Tryz.prog w r b0 22 v) (h:DataW.Trod enc Tryz.prog w base spare held 22 v d p):∃ ns,Zf w v ns/\((∀ n∈d.weights Tryz.prog 22,n<=reachBytes)->Zbw ns):=by
 obtain ⟨a,len,cap,rfl⟩:=okWide_slice Tryz.underlying22 hv
 obtain ⟨fuel,hf⟩:=h
 have hC:Tryz.prog.cellsOf 29=5:=by kernel_rfl
 rcases open_slice Tryz.underlying22 (by simpa [Value.cells] using hf) with ⟨hc,_⟩ | ⟨ad,len',cap',m,n,D,Pl,hc,hb,hl,hm,hmm,hx,hi⟩
 ·obtain ⟨rfl,rfl,rfl⟩:a=none/\len=0/\cap=0:=by simpa using hc
  exact ⟨[],Zf.nil w,fun _ x hx=>by cases hx⟩
 ·obtain ⟨rfl,rfl,rfl⟩:a=some ad/\len=len'/\cap=cap':=by simpa using hc
  have hlm:len<=m:=by rw [hmm];split<;>omega
  rw [hC] at hi
  have hd:d=.slice ((List.range len).map D) ((List.range (m-len)).map fun j=>D (len+j)):=(Prod.mk.inj hx).1
  have each:∀ i,i<len->∃ q:NdV×Nd,(w.cell? (ad.add (i*5))=some (.int .i64 q.2.kind)/\w.cell? (ad.add (i*5+1))=some q.1.1/\w.cell? (ad.add (i*5+2))=some q.1.2.1/\w.cell? (ad.add (i*5+3))=some q.1.2.2/\w.cell? (ad.add (i*5+4))=some (.int .i64 q.2.pos))/\Zv w q/\((∀ n∈(D i).weights Tryz.prog 29,n<=reachBytes)->q.2.words.length*16<=reachBytes/\q.2.nums.length*8<=reachBytes/\q.2.kids.length*8<=reachBytes):=by
   intro i hil
   obtain ⟨cs',h1,h2⟩:=hi i (by omega)
   obtain ⟨_,hcl,hat⟩:=World.cells?_some h1
   obtain ⟨q,e,hr,hw⟩:=Zgd hcl h2
   subst e
   have g0:=hat 0 (by omega)
   have g1:=hat 1 (by omega)
   have g2:=hat 2 (by omega)
   have g3:=hat 3 (by omega)
   have g4:=hat 4 (by omega)
   rw [Zcj] at g0 g1 g2 g3 g4
   exact ⟨q,⟨g0,g1,g2,g3,g4⟩,hr,hw⟩
  obtain ⟨q,hq⟩:=Zkw each
  have hlen:((List.range len).map fun i=>(q i).2).length=len:=by simp
  refine ⟨(List.range len).map fun i=>(q i).2,⟨some ad,cap,(List.range len).map q,by rw [hlen],by rw [hlen];exact hl,hm,by rw [List.map_map];rfl,?_,fun x hx=>?_⟩,fun hw t ht=>?_⟩
  ·rw [hlen]
   refine ⟨by rw [ZbK,List.length_map,List.length_range],fun hn=>⟨ad,rfl,?_,fun j u hu=>?_⟩⟩
   ·have:=World.block_lt_of_cell? _ _ (hq 0 hn).1.1
    rwa [Zan] at this
   ·obtain ⟨i,x,hx,hc⟩:=Zdc _ j u hu
    rw [List.getElem?_map] at hx
    have hil:i<len:=by
     rcases Nat.lt_or_ge i len with g | g
     ·exact g
     ·rw [List.getElem?_eq_none (by simpa using g)] at hx;cases hx
    rw [List.getElem?_range hil] at hx
    obtain rfl:q i=x:=by simpa using hx
    rcases hc with ⟨rfl,rfl⟩ | ⟨rfl,rfl⟩ | ⟨rfl,rfl⟩ | ⟨rfl,rfl⟩ | ⟨rfl,rfl⟩
    ·exact (hq i hil).1.1
    ·exact (hq i hil).1.2.1
    ·exact (hq i hil).1.2.2.1
    ·exact (hq i hil).1.2.2.2.1
    ·exact (hq i hil).1.2.2.2.2
  ·obtain ⟨i,hil,rfl⟩:=List.mem_map.1 hx
   exact (hq i (List.mem_range.1 hil)).2.1
  ·obtain ⟨i,hil,rfl⟩:=List.mem_map.1 ht
   have:=(hq i (List.mem_range.1 hil)).2.2 (fun n hn=>hw n (by
    rw [hd]
    simp only [DataW.weights,Tryz.underlying22,List.mem_cons,List.mem_append]
    exact .inr (.inl (ZdI (List.mem_map.mpr ⟨i,hil,rfl⟩) n hn))))
   have hr:reachBytes=140737488351232:=rfl
   omega
end
end
end Go.Proofs.YtenbomphkihmlaaGreatDoor
