import Derived.Test.YtkongcicmajolaaGreatDoorQAC
set_option maxRecDepth 100000
set_option maxHeartbeats 8000000
namespace Go.Proofs.YtkongcicmajolaaGreatDoor
section
open Go.RowKit
def Zbn:List Tok->List Value
 | []=>[]
 | t::r=>.int .i64 t.1::txt t.2.1::.int .i64 t.2.2::Zbn r
theorem Zh8:∀ (l:List Tok) (k:Nat) (x:Tok),l[k]? = some x->(Zbn l)[k*3]? = some (.int .i64 x.1)/\(Zbn l)[k*3+1]? = some (txt x.2.1)/\(Zbn l)[k*3+2]? = some (.int .i64 x.2.2)
 | [],k,x,h=>by simp at h
 | y::r,0,x,h=>by
  obtain rfl:y=x:=by simpa using h
  exact ⟨rfl,rfl,rfl⟩
 | y::r,k+1,x,h=>by
  rw [List.getElem?_cons_succ] at h
  obtain ⟨a,b,c⟩:=Zh8 r k x h
  exact ⟨by rw [show (k+1)*3=k*3+1+1+1 by omega];exact a,by rw [show (k+1)*3+1=k*3+1+1+1+1 by omega];exact b,by rw [show (k+1)*3+2=k*3+2+1+1+1 by omega];exact c⟩
theorem Zgs:∀ (l m:List Tok),Zbn (l++m)=Zbn l++Zbn m
 | [],m=>rfl
 | x::r,m=>by rw [List.cons_append,Zbn,Zbn,Zgs r m];rfl
def Zcp (w:World) (v:Value) (l:List Tok):Prop:=∃ A c,v=.slice A l.length c/\l.length<=c/\c<=maxLen/\ZM w w.heap.size 3 A l.length (Zbn l)
theorem Zcp.below {w w':World} {v:Value} {l:List Tok} (h:Zcp w v l) (hb:Below w.heap.size w w'):Zcp w' v l:=by
 obtain ⟨A,c,h1,h2,h3,h4⟩:=h
 exact ⟨A,c,h1,h2,h3,(h4.below hb).more hb.size⟩
theorem Zcp.nil (w:World):Zcp w (.slice none 0 0) []:=⟨none,0,rfl,Nat.le_refl _,by decide,ZM.none_⟩
theorem Zcp.own {w:World} {base:Nat} {v:Value} {ts:List Tok} (h:w.ownsRow base 75 3 v ts.length (Zbn ts)):Zcp w v ts:=by
 have h0:=h
 rcases h.2 with ⟨rfl,hn⟩ | ⟨g,cap,cur,rfl,_,hh,hnc,hrest⟩
 ·have hts:ts=[]:=List.eq_nil_of_length_eq_zero hn
  subst hts
  exact Zcp.nil w
 ·exact ⟨some _,cap,rfl,hnc,hrest.1,ZM.of_own h0⟩
theorem Zrw:(Tryz.prog.info? 75).map (fun i=>(i.zero,i.size,i.bytes))=some (some (.agg #[.int .i64 0,.string ⟨#[]⟩,.int .i64 0]),3,32):=by kernel_rfl
def Zob (w:World):LexAns->Ending->World->Prop
 | .bad a,e,w'=>e=.returned (.tuple #[.slice none 0 0,.agg #[.int .i64 10,.int .i64 a]])/\Below w.heap.size w w'
 | .ok ts,e,w'=>∃ A c,e=.returned (.tuple #[.slice A ts.length c,.agg #[.int .i64 0,.int .i64 0]])/\Zcp w' (.slice A ts.length c) ts/\Below w.heap.size w w'
theorem Zfv {s:ByteArray} {l:List UInt8} (h:s.data.toList=l):Value.string s=txt l:=by
 subst h
 rfl
end
section
open Go.RowKit
theorem Zdo (w:World) (x y z:Value) (ty:TypeId):ZM (w.alloc (.cells #[x,y,z] ty)) (w.heap.size+1) 3 (some ⟨w.heap.size,0,none⟩) 1 [x,y,z]:=by
 refine ⟨rfl,fun _=>⟨_,rfl,by simp,fun j u hu=>?_⟩⟩
 have e:(⟨w.heap.size,0,none⟩:Addr).add j=⟨w.heap.size,j,none⟩:=by unfold Addr.add;split<;>simp_all
 rw [e,(Blk.start w #[x,y,z] ty).cell j]
 simpa using hu
end
section
open Go.RowKit
structure RefS (W wr:World) (v:Value) (ts:List Tok):Prop where
 F:Blk wr W.heap.size #[.int .i64 0,.int .i64 0]
 own:wr.ownsRow (W.heap.size+1) 75 3 v ts.length (Zbn ts)
 below:Below W.heap.size W wr
section
variable {W wr w':World} {v:Value} {ts:List Tok}
theorem RefS.keep (h:RefS W wr v ts) (hb:Below wr.heap.size wr w'):RefS W w' v ts:=
 ⟨h.F.keep hb,h.own.kept (Zd9 hb none) (by cases hv:v.ownBlock<;>simp),h.below.trans (hb.mono h.below.size)⟩
theorem RefS.push {t:Tok} {x:Value} {v':Value} (h:RefS W wr v ts) (hx:x=txt t.2.1) (hown:w'.ownsRow (W.heap.size+1) 75 3 v' (ts.length+1) (Zbn ts++[.int .i64 t.1,x,.int .i64 t.2.2])) (hg:wr.grownBy w' v.ownBlock):RefS W w' v' (ts++[t]):=by
 subst hx
 have ne:v.ownBlock≠some W.heap.size:=fun e=>by have:=(h.own.lt _ e).1;omega
 refine ⟨h.F.grown hg ne,?_,h.below.grown hg h.below.size (fun k hk=>by have:=(h.own.lt _ hk).1;omega)⟩
 rw [List.length_append,Zgs]
 exact hown
end
theorem Zsl {s:ByteArray} {i:Nat} (h1:i+1<s.size):(s.extract i (i+2)).toList=[s[i],s[i+1]]:=by
 rw [Lib.extract_toList,ZeE (byte_at (show i<s.size by omega)),ZeE (byte_at h1),Nat.add_sub_cancel_left]
 rfl
theorem Zr7 (c:UInt8):inL c.toNat [32,9,10,13]=ZdZ c:=by
 have e:∀ d:UInt8,decide (d.toNat=c.toNat)=(c==d):=fun d=>by rw [Zmq d c,Bool.eq_iff_iff,beq_iff_eq,beq_iff_eq];exact eq_comm
 simp only [inL,List.any_cons,List.any_nil,e,ZdZ,Bool.or_false,Bool.or_assoc]
theorem Zpz (c:UInt8):inL c.toNat [123,125,40,41,59,44,46,58,61,60,43,45,42,47,124,38]=decide (c∈Zcc):=by
 have e:∀ d:UInt8,decide (d.toNat=c.toNat)=decide (c=d):=fun d=>by rw [Zmq d c,Bool.eq_iff_iff,beq_iff_eq,decide_eq_true_eq];exact eq_comm
 simp only [inL,List.any_cons,List.any_nil,e,Zcc,List.mem_cons,List.not_mem_nil,or_false,Bool.or_false,Bool.decide_or]
theorem Ze1 (k a:Int) (s:ByteArray):∀ u∈[Value.int .i64 k,.string s,.int .i64 a],u.oneCell'=true:=fun u hu=>by
 simp at hu
 rcases hu with rfl | rfl | rfl<;>rfl
theorem Zl8 (s:ByteArray) (w:World) (h:6000<s.size):Calls Tryz.prog 19 #[.string s] w fun e w'=>e=.returned (.tuple #[.slice none 0 0,.agg #[.int .i64 13,.int .i64 0]])/\Below w.heap.size w w':=by
 have hb:=below_alloc1 w (.cells #[.int .i64 0,.int .i64 0] 28)
 have B0:=Blk.start w #[.int .i64 0,.int .i64 0] 28
 go_enter Tryz.func19,Tryz.ntmps19
 go_wp2_with fail
 exact bodyPost_ret (v:=.tuple #[.slice none 0 0,.agg #[.int .i64 13,.int .i64 0]]) (by simp [results,Tryz.results19,go_sem]) rfl ⟨rfl,below_alloc1 _ _⟩
theorem Zl7 (s:ByteArray) (W:World) (h:s.size<=6000):Calls Tryz.prog 19 #[.string s] W (Zob W (Zbx s.data.toList 0)):=by
 obtain ⟨iT,hiT,zT0,zT1,zT2⟩:=info_parts Zrw
 obtain ⟨ans,hans⟩:∃ ans,ans=Zbx s.data.toList 0:=⟨_,rfl⟩
 rw [<- hans]
 have HA:=zh hans
 clear hans
 have hnb:¬ (6000:Int)<(s.size:Int):=by omega
 have hb0:=below_alloc1 W (.cells #[.int .i64 0,.int .i64 0] 28)
 have F0:=Blk.start W #[.int .i64 0,.int .i64 0] 28
 have SS:=zh (show RefS W (W.alloc (.cells #[.int .i64 0,.int .i64 0] 28)) (.slice none 0 0) [] from ⟨F0,World.ownsRow_nil _ _ _ _,hb0⟩)
 have H6:=zh h
 clear F0 hb0
 go_enter Tryz.func19,Tryz.ntmps19
 go_upto_region 4 with fail
 generalize W.alloc (.cells #[.int .i64 0,.int .i64 0] 28)=w1 at *
 go_wp2_with fail
 go_loopg [4,5] s.size (fun g v4 v5 wr=>∃ (i:Nat) (ts:List Tok) (v:Value),v=v4/\v5=.int .i64 i/\i<=s.size/\g=s.size-i/\ans=(Zbx (s.data.toList.drop i) i).pre ts/\ts.length<=i/\RefS W wr v ts)
 case atStart=>exact ⟨0,[],_,rfl,rfl,Nat.zero_le _,rfl,by rw [HA.out,List.drop_zero,LexAns.pre_nil],Nat.le_refl _,SS.out⟩
 case round=>
  clear SS
  obtain ⟨i,ts,v,rfl,rfl,hi,hg,hans,hts,D⟩:=hrel
  obtain ⟨wq,rfl⟩:∃ wq:World,wq=wr:=⟨_,rfl⟩
  by_cases hlt:i<s.size
  ·have hb:=byte_at hlt
   have hdr:=ZeE hb
   rw [hdr] at hans
   have i1:(i:Int)<(s.size:Int):=by omega
   have i2:(0:Int)<=(i:Int):=by omega
   have wi:IntKind.i64.wrap ((i:Int)+1)=(i:Int)+1:=IntWalk.i64_in _ (by omega)
   have ib:=fun w=>ZoI s[i].toNat ⟨#[32,9,10,13]⟩ w (by decide)
   have e1:inL s[i].toNat (⟨#[32,9,10,13]⟩:ByteArray).data.toList=ZdZ s[i]:=Zr7 _
   rw [e1] at ib
   have HH:=zh (zi hans (zi hi (zi hg (zi hts (zi D h)))))
   clear hans hi hg hts D e1
   by_cases hbl:ZdZ s[i]=true
   ·rw [hbl] at ib
    have IB:=zh ib
    have NX:=zh (Zk7 (r:=s.data.toList.drop (i+1)) (a:=i) hbl)
    clear ib hbl hb hdr
    go_wp2_with (go_at_call 43;(with_reducible refine (IB.out _).mono ?_);rintro e w1 ⟨rfl,rfl⟩)
    go_roundg (s.size-(i+1))
    case measure=>have:=HH.out;omega
    case rel=>exact ⟨i+1,ts,v,rfl,by push_cast;rfl,by have:=HH.out;omega,rfl,by rw [HH.out.1,NX.out],by have:=HH.out;omega,HH.out.2.2.2.2.1⟩
   ·have hbl:ZdZ s[i]=false:=by simpa using hbl
    rw [hbl] at ib
    have IB:=zh ib
    clear ib
    by_cases h35:s[i]=35
    ·have m:((s[i].toNat:Int)==35)=true:=by rw [h35];rfl
     have hsp:Zap Zc9 (s.data.toList.drop i)=Zap Zc9 (s.data.toList.drop (i+1))+1:=ZdE hb (by rw [h35];rfl)
     have nx:Zbx (s[i]::s.data.toList.drop (i+1)) i=Zbx (s.data.toList.drop (i+Zap Zc9 (s.data.toList.drop i))) (i+Zap Zc9 (s.data.toList.drop i)):=by
      rw [h35,Zql,List.drop_drop,hsp]
      congr 2
      omega
     have sle:=Zfb Zc9 (s.data.toList.drop i)
     rw [List.length_drop,Zdm] at sle
     obtain ⟨z,hz⟩:∃ z,z=Zap Zc9 (s.data.toList.drop i):=⟨_,rfl⟩
     rw [<- hz] at nx hsp sle
     have NX:=zh (zi nx (zi hsp (zi sle hz)))
     clear nx hsp sle hz hbl h35 hb hdr
     go_wp2_with (go_at_call 43;(with_reducible refine (IB.out _).mono ?_);rintro e w1 ⟨rfl,rfl⟩)
     go_loopg [5] (s.size-i) (fun g v5 wr=>∃ j:Nat,v5=.int .i64 j/\i<=j/\j<=s.size/\g=s.size-j/\z=(j-i)+Zap Zc9 (s.data.toList.drop j)/\wr=wq)
     case atStart=>exact ⟨i,rfl,Nat.le_refl _,by omega,rfl,by rw [Nat.sub_self,Nat.zero_add];exact NX.out.2.2.2,rfl⟩
     case round=>
      obtain ⟨j,rfl,hij,hj,hgj,hall,rfl⟩:=hrel
      have HJ:=zh (zi hij (zi hj (zi hgj hall)))
      clear hall hgj m
      by_cases hjl:j<s.size
      ·have hbj:=byte_at hjl
       have j1:(j:Int)<(s.size:Int):=by omega
       have j2:(0:Int)<=(j:Int):=by omega
       have wj:IntKind.i64.wrap ((j:Int)+1)=(j:Int)+1:=IntWalk.i64_in _ (by omega)
       by_cases hnl:s[j]=10
       ·have m:=congrArg UInt8.toNat hnl
        have S0:=zh (Zgi (p:=Zc9) hbj (by rw [hnl];rfl))
        have HL:=zh hjl
        clear hnl hbj hij hj
        go_wp2_with fail
        go_roundg (s.size-j)
        case measure=>have:=S0.out;have:=HJ.out;have:=NX.out;have:=HH.out;omega
        case rel=>exact ⟨j,ts,v,rfl,rfl,by have:=HJ.out;omega,rfl,by rw [HH.out.1,NX.out.1,show i+z=j by have:=S0.out;have:=HJ.out;omega],by have:=HJ.out;have:=HH.out;omega,HH.out.2.2.2.2.1⟩
       ·have hne:((s[j].toNat:Int) != 10)=true:=by
         have:s[j].toNat≠(10:UInt8).toNat:=fun q=>hnl (UInt8.toNat_inj.1 q)
         simpa using fun q=>this (by show s[j].toNat=10;omega)
        have S1:=zh (ZdE (p:=Zc9) hbj (by unfold Zc9;simp [hnl]))
        have HL:=zh hjl
        clear hnl hbj hij hj
        go_wp2_with fail
        go_roundg (s.size-(j+1))
        case measure=>have:=HL.out;have:=HJ.out;omega
        case rel=>exact ⟨j+1,by push_cast;rfl,by have:=HJ.out;omega,by have:=HL.out;omega,rfl,by have:=S1.out;have:=HJ.out;omega,rfl⟩
      ·obtain rfl:j=s.size:=by omega
       have S0:=zh (Zft (p:=Zc9) (Nat.le_of_eq (Zdm s)))
       clear hij hj hjl
       go_wp2_with fail
       go_roundg (s.size-s.size)
       case measure=>have:=S0.out;have:=HJ.out;have:=NX.out;have:=HH.out;omega
       case rel=>exact ⟨s.size,ts,v,rfl,rfl,Nat.le_refl _,rfl,by rw [HH.out.1,NX.out.1,show i+z=s.size by have:=S0.out;have:=HJ.out;omega],by have:=HJ.out;have:=HH.out;omega,HH.out.2.2.2.2.1⟩
    ·have n35:((s[i].toNat:Int)==35)=false:=by
      have:s[i].toNat≠(35:UInt8).toNat:=fun q=>h35 (UInt8.toNat_inj.1 q)
      simpa using fun q=>this (by show s[i].toNat=35;omega)
     have q35:(s[i]==35)=false:=by simpa using h35
     have here:=fun h2=>ZoU (a:=i) (r:=s.data.toList.drop (i+1)) hbl q35 h2
     have fault:=fun h2=>Znu (a:=i) (r:=s.data.toList.drop (i+1)) hbl q35 h2
     have la:=fun w=>Zfl s[i].toNat w
     have da:=fun w=>Zec s[i].toNat w
     rw [Zf5] at la
     rw [Ze7] at da
     have kp:∀ o:Obj,RefS W (wq.alloc o) v ts:=fun o=>HH.out.2.2.2.2.1.keep (below_alloc1 _ _)
     have KP:=zh (zi kp (show W.heap.size+1<=wq.heap.size from HH.out.2.2.2.2.1.F.lt))
     have LT:=zh (show ts.length<=6000 by have:=HH.out;omega)
     have HB:=zh hb
     have HD:=zh hdr
     clear hbl h35 kp hb q35
     cases hl:ZbS s[i]
     rotate_left
     ·rw [hl] at la
      have f:=ZbT s[i] (s.data.toList.drop (i+1))
      rw [if_pos hl] at f
      rw [f] at here
      have nx:=here rfl
      dsimp only at nx
      rw [<- hdr,List.drop_drop] at nx
      have sle:=Zfb Za3 (s.data.toList.drop i)
      rw [List.length_drop,Zdm] at sle
      have hsp:Zap Za3 (s.data.toList.drop i)=Zap Za3 (s.data.toList.drop (i+1))+1:=ZdE HB.out (Zk6 hl)
      obtain ⟨z,hz⟩:∃ z,z=Zap Za3 (s.data.toList.drop i):=⟨_,rfl⟩
      rw [<- hz] at nx hsp sle
      have NX:=zh (zi nx (zi hsp (zi sle hz)))
      have LA:=zh la
      clear nx hsp sle hz hdr f here fault la da hl
      go_wp2_with (first | (go_at_call 43;(with_reducible refine (IB.out _).mono ?_);rintro e w1 ⟨rfl,rfl⟩) | (go_at_call 44;(with_reducible refine (LA.out _).mono ?_);rintro e w1 ⟨rfl,rfl⟩))
      go_loopg [7] (s.size-i) (fun g v7 wr=>∃ j:Nat,v7=.int .i64 j/\i<=j/\j<=s.size/\g=s.size-j/\z=(j-i)+Zap Za3 (s.data.toList.drop j)/\wr=wq)
      case atStart=>exact ⟨i,rfl,Nat.le_refl _,by omega,rfl,by rw [Nat.sub_self,Nat.zero_add];exact NX.out.2.2.2,rfl⟩
      case round=>
       obtain ⟨j,rfl,hij,hj,hgj,hall,rfl⟩:=hrel
       have HJ:=zh (zi hij (zi hj (zi hgj hall)))
       have j3:(i:Int)<=(j:Int):=by omega
       have j4:(j:Int)<=(s.size:Int):=by omega
       clear hall hgj n35
       by_cases hjl:j<s.size
       ·have hbj:=byte_at hjl
        have j1:(j:Int)<(s.size:Int):=by omega
        have j2:(0:Int)<=(j:Int):=by omega
        have wj:IntKind.i64.wrap ((j:Int)+1)=(j:Int)+1:=IntWalk.i64_in _ (by omega)
        have lj:=fun w=>Zfl s[j].toNat w
        have dj:=fun w=>Zec s[j].toNat w
        rw [Zf5] at lj
        rw [Ze7] at dj
        by_cases hld:Za3 s[j]=true
        ·have S1:=zh (ZdE (p:=Za3) hbj hld)
         rcases Zk5 hld with q | ⟨q,q2⟩
         ·have HL:=zh hjl
          rw [q] at lj
          have LJ:=zh lj
          clear lj dj hld q hbj hij hj
          go_wp2_with (go_at_call 44;(with_reducible refine (LJ.out _).mono ?_);rintro e w1 ⟨rfl,rfl⟩)
          go_roundg (s.size-(j+1))
          case measure=>have:=HL.out;have:=HJ.out;omega
          case rel=>exact ⟨j+1,by push_cast;rfl,by have:=HJ.out;omega,by have:=HL.out;omega,rfl,by have:=S1.out;have:=HJ.out;omega,rfl⟩
         ·have HL:=zh hjl
          rw [q] at lj
          rw [q2] at dj
          have LJ:=zh lj
          have DJ:=zh dj
          clear lj dj hld q q2 hbj hij hj
          go_wp2_with (first | (go_at_call 44;(with_reducible refine (LJ.out _).mono ?_);rintro e w1 ⟨rfl,rfl⟩) | (go_at_call 45;(with_reducible refine (DJ.out _).mono ?_);rintro e w1 ⟨rfl,rfl⟩))
          go_roundg (s.size-(j+1))
          case measure=>have:=HL.out;have:=HJ.out;omega
          case rel=>exact ⟨j+1,by push_cast;rfl,by have:=HJ.out;omega,by have:=HL.out;omega,rfl,by have:=S1.out;have:=HJ.out;omega,rfl⟩
        ·have hld:Za3 s[j]=false:=by simpa using hld
         have S0:=Zgi (p:=Za3) hbj hld
         have zj:i+z=j/\z=j-i:=by have:=HJ.out;omega
         obtain ⟨q,q2⟩:=ZoR hld
         rw [q] at lj
         rw [q2] at dj
         have LJ:=zh lj
         have DJ:=zh dj
         have nz:=NX.out.1
         rw [zj.1,zj.2] at nz
         have NX:=zh (zi nz (show i<j/\j<=s.size by have:=NX.out;have:=HJ.out;omega))
         clear lj dj hld q q2 hbj hij hj S0 zj nz
         go_upto_region 29 with (first | (first | (go_at_call 44;(with_reducible refine (LJ.out _).mono ?_);rintro e w1 ⟨rfl,rfl⟩) | (go_at_call 45;(with_reducible refine (DJ.out _).mono ?_);rintro e w1 ⟨rfl,rfl⟩)))
         go_wp2_with ((at_builtin;refine ZaN _ rfl _ _ 50 rfl (W.heap.size+1) 75 iT (.agg #[.int .i64 0,.string ⟨#[]⟩,.int .i64 0]) 3 32 Tryz.underlying50 hiT zT0 zT1 zT2 rfl (by decide) _ ts.length (Zbn ts) rfl (KP.out.1 _).own (wr.heap.size+1) (some ⟨wr.heap.size,0,none⟩) 1 1 [.int .i64 0,.string (s.extract i j),.int .i64 i] rfl (Zdo _ _ _ _ _) (Ze1 _ _ _) (by have:=LT.out;unfold maxLen;omega) (by have:=LT.out;omega) (by have:=KP.out.2;simp;omega) ?_;intro v8 w8 hown hgrow _;have D8:=zh ((KP.out.1 _).push (t:=(0,(s.data.toList.drop i).take (j-i),i)) (Zfv (Lib.extract_data s i j)) hown hgrow);clear hown hgrow))
         go_roundg (s.size-j)
         case measure=>have:=NX.out;have:=HH.out;omega
         case rel=>exact ⟨j,ts++[(0,(s.data.toList.drop i).take (j-i),i)],v8,rfl,by first | rfl | (push_cast;rfl),by have:=NX.out;omega,rfl,by rw [HH.out.1,<- HD.out,NX.out.1,LexAns.pre_push],by have:=NX.out;have:=HH.out;rw [List.length_append];simp;omega,D8.out⟩
       ·obtain rfl:j=s.size:=by omega
        have S0:=Zft (p:=Za3) (Nat.le_of_eq (Zdm s))
        have zj:i+z=s.size/\z=s.size-i:=by have:=HJ.out;omega
        have nz:=NX.out.1
        rw [zj.1,zj.2] at nz
        have NX:=zh (zi nz (show i<s.size/\s.size<=s.size by have:=NX.out;have:=HJ.out;omega))
        clear hij hj hjl S0 zj nz
        go_wp2_with ((at_builtin;refine ZaN _ rfl _ _ 50 rfl (W.heap.size+1) 75 iT (.agg #[.int .i64 0,.string ⟨#[]⟩,.int .i64 0]) 3 32 Tryz.underlying50 hiT zT0 zT1 zT2 rfl (by decide) _ ts.length (Zbn ts) rfl (KP.out.1 _).own (wr.heap.size+1) (some ⟨wr.heap.size,0,none⟩) 1 1 [.int .i64 0,.string (s.extract i s.size),.int .i64 i] rfl (Zdo _ _ _ _ _) (Ze1 _ _ _) (by have:=LT.out;unfold maxLen;omega) (by have:=LT.out;omega) (by have:=KP.out.2;simp;omega) ?_;intro v8 w8 hown hgrow _;have D8:=zh ((KP.out.1 _).push (t:=(0,(s.data.toList.drop i).take (s.size-i),i)) (Zfv (Lib.extract_data s i s.size)) hown hgrow);clear hown hgrow))
        go_roundg (s.size-s.size)
        case measure=>have:=NX.out;have:=HH.out;omega
        case rel=>exact ⟨s.size,ts++[(0,(s.data.toList.drop i).take (s.size-i),i)],v8,rfl,by first | rfl | (push_cast;rfl),by have:=NX.out;omega,rfl,by rw [HH.out.1,<- HD.out,NX.out.1,LexAns.pre_push],by have:=NX.out;have:=HH.out;rw [List.length_append];simp;omega,D8.out⟩
     cases hd:ZaU s[i]
     rotate_left
     ·rw [hl] at la
      rw [hd] at da
      have f:=ZbT s[i] (s.data.toList.drop (i+1))
      rw [if_neg (by rw [hl];decide),if_pos hd,<- hdr] at f
      rw [<- hdr] at here fault
      rw [f] at here fault
      dsimp only at here fault
      rw [List.drop_drop] at here
      have sle:=Zfb ZaU (s.data.toList.drop i)
      rw [List.length_drop,Zdm] at sle
      have hsp:Zap ZaU (s.data.toList.drop i)=Zap ZaU (s.data.toList.drop (i+1))+1:=ZdE HB.out hd
      obtain ⟨z,hz⟩:∃ z,z=Zap ZaU (s.data.toList.drop i):=⟨_,rfl⟩
      rw [<- hz] at here fault hsp sle
      have NX:=zh (zi here (zi hsp (zi sle (zi hz fault))))
      have LA:=zh la
      have DA:=zh da
      clear hsp sle hz hdr f here fault la da hl hd
      go_wp2_with (first | (go_at_call 43;(with_reducible refine (IB.out _).mono ?_);rintro e w1 ⟨rfl,rfl⟩) | (go_at_call 44;(with_reducible refine (LA.out _).mono ?_);rintro e w1 ⟨rfl,rfl⟩) | (go_at_call 45;(with_reducible refine (DA.out _).mono ?_);rintro e w1 ⟨rfl,rfl⟩))
      go_loopg [7] (s.size-i) (fun g v7 wr=>∃ j:Nat,v7=.int .i64 j/\i<=j/\j<=s.size/\g=s.size-j/\z=(j-i)+Zap ZaU (s.data.toList.drop j)/\wr=wq)
      case atStart=>exact ⟨i,rfl,Nat.le_refl _,by omega,rfl,by rw [Nat.sub_self,Nat.zero_add];exact NX.out.2.2.2.1,rfl⟩
      case round=>
       obtain ⟨j,rfl,hij,hj,hgj,hall,rfl⟩:=hrel
       have HJ:=zh (zi hij (zi hj (zi hgj hall)))
       have j3:(i:Int)<=(j:Int):=by omega
       have j4:(j:Int)<=(s.size:Int):=by omega
       have ws:IntKind.i64.wrap ((j:Int)-(i:Int))=(j:Int)-(i:Int):=IntWalk.i64_in _ (by omega)
       clear hall hgj n35
       by_cases hgo:∃ hjl:j<s.size,ZaU s[j]=true
       ·obtain ⟨hjl,q⟩:=hgo
        have hbj:=byte_at hjl
        have j1:(j:Int)<(s.size:Int):=by omega
        have j2:(0:Int)<=(j:Int):=by omega
        have wj:IntKind.i64.wrap ((j:Int)+1)=(j:Int)+1:=IntWalk.i64_in _ (by omega)
        have dj:=fun w=>Zec s[j].toNat w
        rw [Ze7] at dj
        have S1:=zh (ZdE (p:=ZaU) hbj q)
        rw [q] at dj
        have DJ:=zh dj
        have HL:=zh hjl
        clear dj q hbj hij hj ws
        go_wp2_with (go_at_call 45;(with_reducible refine (DJ.out _).mono ?_);rintro e w1 ⟨rfl,rfl⟩)
        go_roundg (s.size-(j+1))
        case measure=>have:=HL.out;have:=HJ.out;omega
        case rel=>exact ⟨j+1,by push_cast;rfl,by have:=HJ.out;omega,by have:=HL.out;omega,rfl,by have:=S1.out;have:=HJ.out;omega,rfl⟩
       ·have S0:Zap ZaU (s.data.toList.drop j)=0:=by
         by_cases hjl:j<s.size
         ·exact Zgi (byte_at hjl) (by simpa using fun q=>hgo ⟨hjl,q⟩)
         ·exact Zft (by rw [Zdm];omega)
        have zj:i+z=j/\z=j-i:=by have:=HJ.out;omega
        have nb:=NX.out.2.2.2.2
        have nz:=NX.out.1
        rw [zj.1,zj.2] at nz
        rw [zj.2] at nb
        have hz1:=NX.out.2.1
        have hz2:=NX.out.2.2.1
        by_cases h18:j-i<=18
        ·have NX:=zh (zi (nz (decide_eq_true h18)) (show i<j/\j<=s.size by have:=HJ.out;omega))
         have l18:(j:Int)-(i:Int)<=18:=by omega
         clear S0 zj nz nb hz1 hz2 h18
         by_cases hjl:j<s.size
         ·have q:ZaU s[j]=false:=by simpa using fun q=>hgo ⟨hjl,q⟩
          have dj:=fun w=>Zec s[j].toNat w
          rw [Ze7,q] at dj
          have DJ:=zh dj
          have j1:(j:Int)<(s.size:Int):=by omega
          have j2:(0:Int)<=(j:Int):=by omega
          clear dj q hgo hij hj
          go_upto_region 29 with (first | (go_at_call 45;(with_reducible refine (DJ.out _).mono ?_);rintro e w1 ⟨rfl,rfl⟩))
          go_wp2_with ((at_builtin;refine ZaN _ rfl _ _ 50 rfl (W.heap.size+1) 75 iT (.agg #[.int .i64 0,.string ⟨#[]⟩,.int .i64 0]) 3 32 Tryz.underlying50 hiT zT0 zT1 zT2 rfl (by decide) _ ts.length (Zbn ts) rfl (KP.out.1 _).own (wr.heap.size+1) (some ⟨wr.heap.size,0,none⟩) 1 1 [.int .i64 1,.string (s.extract i j),.int .i64 i] rfl (Zdo _ _ _ _ _) (Ze1 _ _ _) (by have:=LT.out;unfold maxLen;omega) (by have:=LT.out;omega) (by have:=KP.out.2;simp;omega) ?_;intro v8 w8 hown hgrow _;have D8:=zh ((KP.out.1 _).push (t:=(1,(s.data.toList.drop i).take (j-i),i)) (Zfv (Lib.extract_data s i j)) hown hgrow);clear hown hgrow))
          go_roundg (s.size-j)
          case measure=>have:=NX.out;have:=HH.out;omega
          case rel=>exact ⟨j,ts++[(1,(s.data.toList.drop i).take (j-i),i)],v8,rfl,by first | rfl | (push_cast;rfl),by have:=NX.out;omega,rfl,by rw [HH.out.1,<- HD.out,NX.out.1,LexAns.pre_push],by have:=NX.out;have:=HH.out;rw [List.length_append];simp;omega,D8.out⟩
         ·obtain rfl:j=s.size:=by omega
          clear hgo hij hj hjl
          go_wp2_with ((at_builtin;refine ZaN _ rfl _ _ 50 rfl (W.heap.size+1) 75 iT (.agg #[.int .i64 0,.string ⟨#[]⟩,.int .i64 0]) 3 32 Tryz.underlying50 hiT zT0 zT1 zT2 rfl (by decide) _ ts.length (Zbn ts) rfl (KP.out.1 _).own (wr.heap.size+1) (some ⟨wr.heap.size,0,none⟩) 1 1 [.int .i64 1,.string (s.extract i s.size),.int .i64 i] rfl (Zdo _ _ _ _ _) (Ze1 _ _ _) (by have:=LT.out;unfold maxLen;omega) (by have:=LT.out;omega) (by have:=KP.out.2;simp;omega) ?_;intro v8 w8 hown hgrow _;have D8:=zh ((KP.out.1 _).push (t:=(1,(s.data.toList.drop i).take (s.size-i),i)) (Zfv (Lib.extract_data s i s.size)) hown hgrow);clear hown hgrow))
          go_roundg (s.size-s.size)
          case measure=>have:=NX.out;have:=HH.out;omega
          case rel=>exact ⟨s.size,ts++[(1,(s.data.toList.drop i).take (s.size-i),i)],v8,rfl,by first | rfl | (push_cast;rfl),by have:=NX.out;omega,rfl,by rw [HH.out.1,<- HD.out,NX.out.1,LexAns.pre_push],by have:=NX.out;have:=HH.out;rw [List.length_append];simp;omega,D8.out⟩
        ·have EA:=zh (show ans=.bad i by rw [HH.out.1,<- HD.out,nb (decide_eq_false h18)];rfl)
         have l18:18<(j:Int)-(i:Int):=by omega
         have HF:=zh (zi HH.out.2.2.2.2.1.F HH.out.2.2.2.2.1.below)
         have f0:=HF.out.1.cell 0
         have f1:=HF.out.1.cell 1
         have f2:=HF.out.1.free 0
         have f3:=HF.out.1.free 1
         clear S0 zj nz nb hz1 hz2 h18
         by_cases hjl:j<s.size
         ·have q:ZaU s[j]=false:=by simpa using fun q=>hgo ⟨hjl,q⟩
          have dj:=fun w=>Zec s[j].toNat w
          rw [Ze7,q] at dj
          have DJ:=zh dj
          have j1:(j:Int)<(s.size:Int):=by omega
          have j2:(0:Int)<=(j:Int):=by omega
          clear dj q hgo hij hj
          go_wp2_with (go_at_call 45;(with_reducible refine (DJ.out _).mono ?_);rintro e w1 ⟨rfl,rfl⟩)
          have BF:=(HF.out.1.set 0 (.int .i64 10)).set 1 (.int .i64 i)
          have z0:=BF.cell 0
          have z1:=BF.cell 1
          rw [EA.out]
          exact bodyPost_ret (v:=.tuple #[.slice none 0 0,.agg #[.int .i64 10,.int .i64 i]]) (by simp [results,Tryz.results19,go_sem,z0,z1]) rfl ⟨rfl,(HF.out.2.setCell (p:=⟨W.heap.size,0,none⟩) (Nat.le_refl _) _).setCell (p:=⟨W.heap.size,1,none⟩) (Nat.le_refl _) _⟩
         ·obtain rfl:j=s.size:=by omega
          clear hgo hij hj hjl
          go_wp2_with fail
          have BF:=(HF.out.1.set 0 (.int .i64 10)).set 1 (.int .i64 i)
          have z0:=BF.cell 0
          have z1:=BF.cell 1
          rw [EA.out]
          exact bodyPost_ret (v:=.tuple #[.slice none 0 0,.agg #[.int .i64 10,.int .i64 i]]) (by simp [results,Tryz.results19,go_sem,z0,z1]) rfl ⟨rfl,(HF.out.2.setCell (p:=⟨W.heap.size,0,none⟩) (Nat.le_refl _) _).setCell (p:=⟨W.heap.size,1,none⟩) (Nat.le_refl _) _⟩
     ·rw [hl] at la
      rw [hd] at da
      have f:=ZbT s[i] (s.data.toList.drop (i+1))
      rw [if_neg (by rw [hl];decide),if_neg (by rw [hd];decide),Zez] at f
      have LA:=zh la
      have DA:=zh da
      have si:=fun w=>ZoI s[i].toNat ⟨#[123,125,40,41,59,44,46,58,61,60,43,45,42,47,124,38]⟩ w (by decide)
      have e1:inL s[i].toNat (⟨#[123,125,40,41,59,44,46,58,61,60,43,45,42,47,124,38]⟩:ByteArray).data.toList=decide (s[i]∈Zcc):=Zpz _
      rw [e1] at si
      have w2i:IntKind.i64.wrap ((i:Int)+2)=(i:Int)+2:=IntWalk.i64_in _ (by omega)
      clear la da hl hd e1
      have HF:=zh (zi HH.out.2.2.2.2.1.F HH.out.2.2.2.2.1.below)
      have f0:=HF.out.1.cell 0
      have f1:=HF.out.1.cell 1
      have f2:=HF.out.1.free 0
      have f3:=HF.out.1.free 1
      have ONE:=zh (fun (q:¬ ((s[i]=61/\(s.data.toList.drop (i+1)).head? = some 61)\/(s[i]=45/\(s.data.toList.drop (i+1)).head? = some 62))) (hm:s[i]∈Zcc)=>show Zbx (s.data.toList.drop i) i=(Zbx (s.data.toList.drop (i+1)) (i+1)).push (2,(s.data.toList.drop i).take (i+1-i),i) from by
       rw [if_neg q,if_pos hm] at f
       rw [f] at here
       have:=here rfl
       rw [<- HD.out,List.drop_drop] at this
       rw [Nat.add_sub_cancel_left]
       exact this)
      have NONE:=zh (fun (q:¬ ((s[i]=61/\(s.data.toList.drop (i+1)).head? = some 61)\/(s[i]=45/\(s.data.toList.drop (i+1)).head? = some 62))) (hm:¬ s[i]∈Zcc)=>show ans=.bad i from by
       rw [if_neg q,if_neg hm] at f
       rw [f] at fault
       rw [HH.out.1,fault rfl]
       rfl)
      by_cases h1:i+1<s.size
      ·have m1:(i:Int)+1<(s.size:Int):=by omega
       have m2:(i:Int)+2<=(s.size:Int):=by omega
       have m3:(i:Int)<=(i:Int)+2:=by omega
       have m4:(i:Int)<=(i:Int)+1:=by omega
       have hb1:=byte_at h1
       have hh:(s.data.toList.drop (i+1)).head? = some s[i+1]:=by rw [List.head?_drop,hb1]
       have tw:=Zsl h1
       by_cases hP:(s[i]=61/\(s.data.toList.drop (i+1)).head? = some 61)\/(s[i]=45/\(s.data.toList.drop (i+1)).head? = some 62)
       ·rw [if_pos hP] at f
        rw [f] at here
        have nx:=here rfl
        rw [<- HD.out,List.drop_drop] at nx
        have NX:=zh (show Zbx (s.data.toList.drop i) i=(Zbx (s.data.toList.drop (i+2)) (i+2)).push (2,(s.data.toList.drop i).take (i+2-i),i)/\i<i+2/\i+2<=s.size from ⟨by rw [Nat.add_sub_cancel_left];exact nx,by omega,by omega⟩)
        rw [hh] at hP
        have hX:(s.extract i (i+2)).toList=[61,61]\/(s.extract i (i+2)).toList=[45,62]:=by
         rcases hP with ⟨a,b⟩ | ⟨a,b⟩
         ·left;rw [tw,a,Option.some.inj b]
         ·right;rw [tw,a,Option.some.inj b]
        clear f here fault nx hP hh hb1 tw hdr f0 f1 f2 f3
        rcases hX with hX | hX
        ·clear si
         go_upto_region 29 with (first | (go_at_call 43;(with_reducible refine (IB.out _).mono ?_);rintro e w1 ⟨rfl,rfl⟩) | (go_at_call 44;(with_reducible refine (LA.out _).mono ?_);rintro e w1 ⟨rfl,rfl⟩) | (go_at_call 45;(with_reducible refine (DA.out _).mono ?_);rintro e w1 ⟨rfl,rfl⟩))
         go_wp2_with ((at_builtin;refine ZaN _ rfl _ _ 50 rfl (W.heap.size+1) 75 iT (.agg #[.int .i64 0,.string ⟨#[]⟩,.int .i64 0]) 3 32 Tryz.underlying50 hiT zT0 zT1 zT2 rfl (by decide) _ ts.length (Zbn ts) rfl (KP.out.1 _).own (wq.heap.size+1) (some ⟨wq.heap.size,0,none⟩) 1 1 [.int .i64 2,.string (s.extract i (i+2)),.int .i64 i] rfl (Zdo _ _ _ _ _) (Ze1 _ _ _) (by have:=LT.out;unfold maxLen;omega) (by have:=LT.out;omega) (by have:=KP.out.2;simp;omega) ?_;intro v8 w8 hown hgrow _;have D8:=zh ((KP.out.1 _).push (t:=(2,(s.data.toList.drop i).take ((i+2)-i),i)) (Zfv (Lib.extract_data s i (i+2))) hown hgrow);clear hown hgrow))
         go_roundg (s.size-(i+2))
         case measure=>have:=NX.out;have:=HH.out;omega
         case rel=>exact ⟨(i+2),ts++[(2,(s.data.toList.drop i).take ((i+2)-i),i)],v8,rfl,by first | rfl | (push_cast;rfl),by have:=NX.out;omega,rfl,by rw [HH.out.1,<- HD.out,NX.out.1,LexAns.pre_push],by have:=NX.out;have:=HH.out;rw [List.length_append];simp;omega,D8.out⟩
        ·clear si
         go_upto_region 29 with (first | (go_at_call 43;(with_reducible refine (IB.out _).mono ?_);rintro e w1 ⟨rfl,rfl⟩) | (go_at_call 44;(with_reducible refine (LA.out _).mono ?_);rintro e w1 ⟨rfl,rfl⟩) | (go_at_call 45;(with_reducible refine (DA.out _).mono ?_);rintro e w1 ⟨rfl,rfl⟩))
         go_wp2_with ((at_builtin;refine ZaN _ rfl _ _ 50 rfl (W.heap.size+1) 75 iT (.agg #[.int .i64 0,.string ⟨#[]⟩,.int .i64 0]) 3 32 Tryz.underlying50 hiT zT0 zT1 zT2 rfl (by decide) _ ts.length (Zbn ts) rfl (KP.out.1 _).own (wq.heap.size+1) (some ⟨wq.heap.size,0,none⟩) 1 1 [.int .i64 2,.string (s.extract i (i+2)),.int .i64 i] rfl (Zdo _ _ _ _ _) (Ze1 _ _ _) (by have:=LT.out;unfold maxLen;omega) (by have:=LT.out;omega) (by have:=KP.out.2;simp;omega) ?_;intro v8 w8 hown hgrow _;have D8:=zh ((KP.out.1 _).push (t:=(2,(s.data.toList.drop i).take ((i+2)-i),i)) (Zfv (Lib.extract_data s i (i+2))) hown hgrow);clear hown hgrow))
         go_roundg (s.size-(i+2))
         case measure=>have:=NX.out;have:=HH.out;omega
         case rel=>exact ⟨(i+2),ts++[(2,(s.data.toList.drop i).take ((i+2)-i),i)],v8,rfl,by first | rfl | (push_cast;rfl),by have:=NX.out;omega,rfl,by rw [HH.out.1,<- HD.out,NX.out.1,LexAns.pre_push],by have:=NX.out;have:=HH.out;rw [List.length_append];simp;omega,D8.out⟩
       ·have n1:¬ (s.extract i (i+2)).toList=[61,61]:=fun e=>by
         rw [tw] at e
         simp at e
         exact hP (.inl ⟨e.1,by rw [hh,e.2]⟩)
        have n2:¬ (s.extract i (i+2)).toList=[45,62]:=fun e=>by
         rw [tw] at e
         simp at e
         exact hP (.inr ⟨e.1,by rw [hh,e.2]⟩)
        have n3:((s.extract i (i+2)).toList==[61,61])=false:=by simpa using n1
        have n4:((s.extract i (i+2)).toList==[45,62])=false:=by simpa using n2
        by_cases hm:s[i]∈Zcc
        ·rw [decide_eq_true hm] at si
         have SI:=zh si
         have NX:=zh (zi (ONE.out hP hm) (show i<i+1/\i+1<=s.size by omega))
         clear f here fault hP hh hb1 tw hdr f0 f1 f2 f3 si hm
         go_upto_region 29 with (first | (go_at_call 43;(with_reducible refine (IB.out _).mono ?_);rintro e w1 ⟨rfl,rfl⟩) | (go_at_call 44;(with_reducible refine (LA.out _).mono ?_);rintro e w1 ⟨rfl,rfl⟩) | (go_at_call 45;(with_reducible refine (DA.out _).mono ?_);rintro e w1 ⟨rfl,rfl⟩) | (go_at_call 43;(with_reducible refine (SI.out _).mono ?_);rintro e w1 ⟨rfl,rfl⟩))
         go_wp2_with ((at_builtin;refine ZaN _ rfl _ _ 50 rfl (W.heap.size+1) 75 iT (.agg #[.int .i64 0,.string ⟨#[]⟩,.int .i64 0]) 3 32 Tryz.underlying50 hiT zT0 zT1 zT2 rfl (by decide) _ ts.length (Zbn ts) rfl (KP.out.1 _).own (wq.heap.size+1) (some ⟨wq.heap.size,0,none⟩) 1 1 [.int .i64 2,.string (s.extract i (i+1)),.int .i64 i] rfl (Zdo _ _ _ _ _) (Ze1 _ _ _) (by have:=LT.out;unfold maxLen;omega) (by have:=LT.out;omega) (by have:=KP.out.2;simp;omega) ?_;intro v8 w8 hown hgrow _;have D8:=zh ((KP.out.1 _).push (t:=(2,(s.data.toList.drop i).take ((i+1)-i),i)) (Zfv (Lib.extract_data s i (i+1))) hown hgrow);clear hown hgrow))
         go_roundg (s.size-(i+1))
         case measure=>have:=NX.out;have:=HH.out;omega
         case rel=>exact ⟨(i+1),ts++[(2,(s.data.toList.drop i).take ((i+1)-i),i)],v8,rfl,by first | rfl | (push_cast;rfl),by have:=NX.out;omega,rfl,by rw [HH.out.1,<- HD.out,NX.out.1,LexAns.pre_push],by have:=NX.out;have:=HH.out;rw [List.length_append];simp;omega,D8.out⟩
        ·rw [decide_eq_false hm] at si
         have SI:=zh si
         have EA:=zh (NONE.out hP hm)
         clear f here fault hP hh hb1 tw hdr si hm
         go_wp2_with (first | (go_at_call 43;(with_reducible refine (IB.out _).mono ?_);rintro e w1 ⟨rfl,rfl⟩) | (go_at_call 44;(with_reducible refine (LA.out _).mono ?_);rintro e w1 ⟨rfl,rfl⟩) | (go_at_call 45;(with_reducible refine (DA.out _).mono ?_);rintro e w1 ⟨rfl,rfl⟩) | (go_at_call 43;(with_reducible refine (SI.out _).mono ?_);rintro e w1 ⟨rfl,rfl⟩))
         have BF:=(HF.out.1.set 0 (.int .i64 10)).set 1 (.int .i64 i)
         have z0:=BF.cell 0
         have z1:=BF.cell 1
         rw [EA.out]
         exact bodyPost_ret (v:=.tuple #[.slice none 0 0,.agg #[.int .i64 10,.int .i64 i]]) (by simp [results,Tryz.results19,go_sem,z0,z1]) rfl ⟨rfl,(HF.out.2.setCell (p:=⟨W.heap.size,0,none⟩) (Nat.le_refl _) _).setCell (p:=⟨W.heap.size,1,none⟩) (Nat.le_refl _) _⟩
      ·have m1:¬ (i:Int)+1<(s.size:Int):=by omega
       have m4:(i:Int)<=(i:Int)+1:=by omega
       have m5:(i:Int)+1<=(s.size:Int):=by omega
       have hh:(s.data.toList.drop (i+1)).head? = none:=by rw [Zig (by omega)];rfl
       have hP:¬ ((s[i]=61/\(s.data.toList.drop (i+1)).head? = some 61)\/(s[i]=45/\(s.data.toList.drop (i+1)).head? = some 62)):=by rw [hh];simp
       by_cases hm:s[i]∈Zcc
       ·rw [decide_eq_true hm] at si
        have SI:=zh si
        have NX:=zh (zi (ONE.out hP hm) (show i<i+1/\i+1<=s.size by omega))
        clear f here fault hP hh hdr f0 f1 f2 f3 si hm
        go_upto_region 29 with (first | (go_at_call 43;(with_reducible refine (IB.out _).mono ?_);rintro e w1 ⟨rfl,rfl⟩) | (go_at_call 44;(with_reducible refine (LA.out _).mono ?_);rintro e w1 ⟨rfl,rfl⟩) | (go_at_call 45;(with_reducible refine (DA.out _).mono ?_);rintro e w1 ⟨rfl,rfl⟩) | (go_at_call 43;(with_reducible refine (SI.out _).mono ?_);rintro e w1 ⟨rfl,rfl⟩))
        go_wp2_with ((at_builtin;refine ZaN _ rfl _ _ 50 rfl (W.heap.size+1) 75 iT (.agg #[.int .i64 0,.string ⟨#[]⟩,.int .i64 0]) 3 32 Tryz.underlying50 hiT zT0 zT1 zT2 rfl (by decide) _ ts.length (Zbn ts) rfl (KP.out.1 _).own (wq.heap.size+1) (some ⟨wq.heap.size,0,none⟩) 1 1 [.int .i64 2,.string (s.extract i (i+1)),.int .i64 i] rfl (Zdo _ _ _ _ _) (Ze1 _ _ _) (by have:=LT.out;unfold maxLen;omega) (by have:=LT.out;omega) (by have:=KP.out.2;simp;omega) ?_;intro v8 w8 hown hgrow _;have D8:=zh ((KP.out.1 _).push (t:=(2,(s.data.toList.drop i).take ((i+1)-i),i)) (Zfv (Lib.extract_data s i (i+1))) hown hgrow);clear hown hgrow))
        go_roundg (s.size-(i+1))
        case measure=>have:=NX.out;have:=HH.out;omega
        case rel=>exact ⟨(i+1),ts++[(2,(s.data.toList.drop i).take ((i+1)-i),i)],v8,rfl,by first | rfl | (push_cast;rfl),by have:=NX.out;omega,rfl,by rw [HH.out.1,<- HD.out,NX.out.1,LexAns.pre_push],by have:=NX.out;have:=HH.out;rw [List.length_append];simp;omega,D8.out⟩
       ·rw [decide_eq_false hm] at si
        have SI:=zh si
        have EA:=zh (NONE.out hP hm)
        clear f here fault hP hh hdr si hm
        go_wp2_with (first | (go_at_call 43;(with_reducible refine (IB.out _).mono ?_);rintro e w1 ⟨rfl,rfl⟩) | (go_at_call 44;(with_reducible refine (LA.out _).mono ?_);rintro e w1 ⟨rfl,rfl⟩) | (go_at_call 45;(with_reducible refine (DA.out _).mono ?_);rintro e w1 ⟨rfl,rfl⟩) | (go_at_call 43;(with_reducible refine (SI.out _).mono ?_);rintro e w1 ⟨rfl,rfl⟩))
        have BF:=(HF.out.1.set 0 (.int .i64 10)).set 1 (.int .i64 i)
        have z0:=BF.cell 0
        have z1:=BF.cell 1
        rw [EA.out]
        exact bodyPost_ret (v:=.tuple #[.slice none 0 0,.agg #[.int .i64 10,.int .i64 i]]) (by simp [results,Tryz.results19,go_sem,z0,z1]) rfl ⟨rfl,(HF.out.2.setCell (p:=⟨W.heap.size,0,none⟩) (Nat.le_refl _) _).setCell (p:=⟨W.heap.size,1,none⟩) (Nat.le_refl _) _⟩
  ·obtain rfl:i=s.size:=by omega
   rw [Zig (Nat.le_refl _),Zg2] at hans
   have EA:=zh (show ans=.ok (ts++[(3,[],s.size)]) from hans)
   have kp:∀ o:Obj,RefS W (wq.alloc o) v ts:=fun o=>D.keep (below_alloc1 _ _)
   have KP:=zh (zi kp (show W.heap.size+1<=wq.heap.size from D.F.lt))
   have LT:=zh (show ts.length<=6000 by omega)
   clear kp hans D hg hi hts hlt
   go_wp2_with (at_builtin;refine ZaN _ rfl _ _ 50 rfl (W.heap.size+1) 75 iT (.agg #[.int .i64 0,.string ⟨#[]⟩,.int .i64 0]) 3 32 Tryz.underlying50 hiT zT0 zT1 zT2 rfl (by decide) _ ts.length (Zbn ts) rfl (KP.out.1 _).own (wq.heap.size+1) (some ⟨wq.heap.size,0,none⟩) 1 1 [.int .i64 3,.string ⟨#[]⟩,.int .i64 s.size] rfl (Zdo _ _ _ _ _) (Ze1 _ _ _) (by have:=LT.out;unfold maxLen;omega) (by have:=LT.out;omega) (by have:=KP.out.2;simp;omega) ?_;intro v8 w8 hown hgrow _;have D8:=zh ((KP.out.1 _).push (t:=(3,[],s.size)) rfl hown hgrow);clear hown hgrow;have f0:=D8.out.F.cell 0;have f1:=D8.out.F.cell 1;have f2:=D8.out.F.free 0;have f3:=D8.out.F.free 1)
   have TA:=Zcp.own D8.out.own
   obtain ⟨Az,cz,rfl⟩:∃ A c,v8=.slice A (ts++[(3,[],s.size)]).length c:=by obtain ⟨A,c,e,_⟩:=TA;exact ⟨A,c,e⟩
   have TZ:=Zcp.own (D8.out.own.kept (ZlL (Zas (g:=W.heap.size) (j:=0) (u:=.int .i64 0)) (Zas (j:=1) (u:=.int .i64 0))) (.inr fun e=>by have:=(D8.out.own.lt _ e).1;omega))
   have BF:=(D8.out.F.set 0 (.int .i64 0)).set 1 (.int .i64 0)
   have z0:=BF.cell 0
   have z1:=BF.cell 1
   have bl:=(D8.out.below.setCell (p:=⟨W.heap.size,0,none⟩) (Nat.le_refl _) (.int .i64 0)).setCell (p:=⟨W.heap.size,1,none⟩) (Nat.le_refl _) (.int .i64 0)
   rw [EA.out]
   exact bodyPost_ret (v:=.tuple #[.slice Az (ts++[(3,[],s.size)]).length cz,.agg #[.int .i64 0,.int .i64 0]]) (by simp [results,Tryz.results19,go_sem,z0,z1]) rfl ⟨Az,cz,rfl,TZ,bl⟩
end
end Go.Proofs.YtkongcicmajolaaGreatDoor
