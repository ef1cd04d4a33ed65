import Derived.Laws.BitsAllLaws
import Derived.Test.YtkgkmdhpnhmcpaaGreatDoorQAE
set_option maxRecDepth 100000
set_option maxHeartbeats 8000000
namespace Go.Proofs.YtkgkmdhpnhmcpaaGreatDoor
section
open Go.RowKit
theorem Zje (s k:Nat) (hs:s<4294967296):(bits .and .u32 ((s:Int) / 2 ^ k) 1==1)=s.testBit k:=by
 have e:(s:Int) / 2 ^ k=((s / 2 ^ k:Nat):Int):=by norm_cast
 have hl:s / 2 ^ k<4294967296:=Nat.lt_of_le_of_lt (Nat.div_le_self _ _) hs
 rw [e,show (1:Int)=((1:Nat):Int) from rfl,u32_and_nat _ _ hl (by omega),Nat.and_one_is_mod,Nat.testBit_eq_decide_div_mod_eq]
 by_cases q:s / 2 ^ k % 2=1
 ·rw [decide_eq_true q,q];rfl
 ·rw [decide_eq_false q,show s / 2 ^ k % 2=0 by omega];rfl
theorem Ze3 {k:Nat} (hk:k<32):2 ^ k<4294967296:=by
 have:2 ^ k<=2 ^ 31:=Nat.pow_le_pow_right (by omega) (by omega)
 omega
theorem Zho {k:Nat} (hk:k<32):IntKind.u32.wrap (2 ^ k)=((2 ^ k:Nat):Int):=by
 have:=Ze3 hk
 rw [IntKind.wrap_u32']
 have e:(2:Int) ^ k=((2 ^ k:Nat):Int):=by norm_cast
 rw [e]
 generalize 2 ^ k=m at *
 omega
theorem Zix {s k:Nat} (hs:s<4294967296) (hk:k<32):bits .or .u32 (s:Int) ((2:Int) ^ k)=((s ||| 2 ^ k:Nat):Int):=by
 have e:(2:Int) ^ k=((2 ^ k:Nat):Int):=by norm_cast
 rw [e]
 exact u32_or_nat s _ hs (Ze3 hk)
theorem Zer (w:World) (s k:Nat) (hs:s<4294967296) (hk:k<=16) :
  Calls Tryz.prog 119 #[.int .u32 (s:Int),.int .i64 (k:Int)] w fun e w'=>e=.returned (.bool (s.testBit k))/\w=w':=by
 have i0:(0:Int)<=(k:Int):=by omega
 have i1:(k:Int)<=32:=by omega
 have HB:=zh (Zje s k hs)
 clear hs hk
 go_enter Tryz.func119,Tryz.ntmps119
 go_wp2_with fail
 go_ret
 exact ⟨by rw [<- HB.out];rfl,rfl⟩
theorem ZgA {f:Nat->Bool} {n:Nat} (hn:n<=16):Zbh f n<4294967296:=by
 have:=ZfU f n
 have:2 ^ n<=2 ^ 16:=Nat.pow_le_pow_right (by omega) hn
 omega
theorem Zdg (w:World) (vs vm:Value) (p:Pro) (h:ProAt w vs vm p) (hn:p.states.length<=16) :
  Calls Tryz.prog 26 #[ZaH vs vm p] w fun e w'=>e=.returned (.int .u32 (ZaK p:Nat))/\Below w.heap.size w w':=by
 obtain ⟨As,cs,rfl,hls,hls2,hS,_⟩:=h.states
 have a1:=below_alloc1 w (.cells #[txt p.name,.slice As p.states.length cs,vm] 51)
 have B1:=Blk.start w #[txt p.name,.slice As p.states.length cs,vm] 51
 have c1:=B1.cell 1
 simp only [List.getElem?_toArray,List.getElem?_cons_zero,List.getElem?_cons_succ] at c1
 unfold ZaK
 have HS:=zh (zi hS (zi a1 hn))
 obtain ⟨n,hl⟩:∃ n,n=p.states.length:=⟨_,rfl⟩
 rw [<- hl] at c1 HS ⊢
 have HL:=zh hl
 clear h hls hls2 hS a1 B1 hn hl
 go_enter Tryz.func26,Tryz.ntmps26
 go_wp2_with fail
 go_loopg [3,9] n (fun g v3 v9 wr=>∃ k:Nat,v9=.int .i64 k/\v3=.int .u32 (Zbh (Zam p) k:Nat)/\k<=n/\g=n-k/\Below w.heap.size w wr)
 case atStart=>exact ⟨0,rfl,rfl,Nat.zero_le _,rfl,HS.out.2.1⟩
 case round=>
  obtain ⟨k,rfl,rfl,hk,hg,hb⟩:=hrel
  by_cases hkn:k=n
  ·subst hkn
   have FIN:=zh hb
   clear hk hg hb
   go_wp2_with fail
   go_ret
   exact ⟨rfl,FIN.out⟩
  ·have hlt:k<n:=by omega
   obtain ⟨x,hx⟩:∃ x,p.states[k]? = some x:=⟨_,List.getElem?_eq_getElem (by have:=HL.out;omega)⟩
   obtain ⟨ad,rfl,d0,d1⟩:=ZaN ZbC HS.out.1 hb hx (by omega)
   have hq:Zam p k=x.final:=by unfold Zam;rw [hx]
   unfold stC at d0 d1
   simp only [List.getElem?_cons_zero,List.getElem?_cons_succ] at d0 d1
   have i1:(k:Int)<(n:Int):=by omega
   have i2:(0:Int)<=(k:Int):=by omega
   have i3:(k:Int)<=32:=by have:=HS.out.2.2;omega
   have wk:IntKind.i64.wrap ((k:Int)+1)=(k:Int)+1:=IntWalk.i64_in _ (by have:=HS.out.2.2;omega)
   have sh:=Zho (k:=k) (by have:=HS.out.2.2;omega)
   have ho:=zh <| Zix (s:=Zbh (Zam p) k) (k:=k) (ZgA (by have:=HS.out.2.2;omega)) (by have:=HS.out.2.2;omega)
   have HK:=zh (zi hlt (zi hg (zi hb hq)))
   have hs1:Zbh (Zam p) (k+1)=if x.final then Zbh (Zam p) k ||| 2 ^ k else Zbh (Zam p) k:=by rw [Zbh,hq]
   have HS1:=zh hs1
   clear hkn hlt hk hg hb hx hq hs1
   generalize x.final=B at *
   cases B
   ·go_wp2_with fail
    go_roundg (n-(k+1))
    case measure=>have:=HK.out.1;have:=HK.out.2.1;omega
    case rel=>exact ⟨k+1,by push_cast;rfl,by rw [HS1.out];rfl,HK.out.1,rfl,HK.out.2.2.1.trans ((below_alloc1 _ _).mono HK.out.2.2.1.size)⟩
   ·go_wp2_with fail
    go_roundg (n-(k+1))
    case measure=>have:=HK.out.1;have:=HK.out.2.1;omega
    case rel=>exact ⟨k+1,by push_cast;rfl,by rw [ho.out,HS1.out];rfl,HK.out.1,rfl,HK.out.2.2.1.trans ((below_alloc1 _ _).mono HK.out.2.2.1.size)⟩
theorem ZhO (w:World) (b s:Nat) (o:Ou) (h:Blk w b #[.int .u32 (s:Int)]) (hs:s<4294967296) (ho:0<=o.to/\o.to<=16) :
  Calls Tryz.prog 140 #[.agg #[txt o.name,.int .i64 o.to],.pointer (some ⟨b,0,none⟩)] w fun e w'=>e=.returned (.bool (s.testBit o.to.toNat))/\Below w.heap.size w w':=by
 obtain ⟨nm,z⟩:=o
 dsimp only at ho ⊢
 obtain ⟨k,rfl⟩:∃ k:Nat,z=k:=⟨z.toNat,by omega⟩
 have a1:=below_alloc1 w (.cells #[txt nm,.int .i64 (k:Int)] 110)
 have B1:=Blk.start w #[txt nm,.int .i64 (k:Int)] 110
 have c0:=B1.cell 1
 have c1:=(h.keep a1).cell 0
 simp only [List.getElem?_toArray,List.getElem?_cons_zero,List.getElem?_cons_succ] at c0 c1
 have HH:=zh (fun (wr:World)=>Zer wr s k hs (by omega))
 have HA:=zh a1
 rw [Int.toNat_natCast]
 clear h hs ho a1 B1
 generalize s.testBit k=B at *
 go_enter Tryz.func140,Tryz.ntmps140
 go_wp2_with (go_at_call 119;(with_reducible refine (HH.out _).mono ?_);rintro e w1 ⟨rfl,rfl⟩)
 go_ret
 exact ⟨rfl,HA.out⟩
end
section
open Go.RowKit
theorem ZgW {ms:List Mov} {j:Nat} {m:Mov} (s:Nat) (h:ms[j]? = some m):ZbX (ms.take (j+1)) s=ZbW (ZbX (ms.take j) s) m:=by
 unfold ZbX
 rw [List.take_add_one,h,List.foldl_append];rfl
theorem Zht {p:Pro} (hf:Fits p) (j:Nat):∀ m∈p.moves.take j,0<=m.at_/\m.at_<(p.states.length:Int):=fun m hm=>hf.at_ m (List.mem_of_mem_take hm)
theorem Ze7 {s n:Nat} (h:s<2 ^ n) (hn:n<=16):s<4294967296:=by
 have:2 ^ n<=2 ^ 16:=Nat.pow_le_pow_right (by omega) hn
 omega
structure EndS (w0 w:World) (b1 b3 s:Nat) (cs:Array Value):Prop where
 p:Blk w b1 cs
 s:Blk w b3 #[.int .u32 (s:Int)]
 b:Below w0.heap.size w0 w
 lt:w0.heap.size<=b3
theorem EndS.keep {w0 w w':World} {b1 b3 s:Nat} {cs:Array Value} (h:EndS w0 w b1 b3 s cs) (hb:Below w.heap.size w w'):EndS w0 w' b1 b3 s cs:=⟨h.p.keep hb,h.s.keep hb,h.b.trans (hb.mono h.b.size),h.lt⟩
theorem EndS.set {w0 w:World} {b1 b3 s:Nat} {cs:Array Value} (h:EndS w0 w b1 b3 s cs) (hne:b1≠b3) (u:Nat):EndS w0 (w.setCell ⟨b3,0,none⟩ (.int .u32 (u:Int))) b1 b3 u cs:=
 ⟨h.p.other (fun e=>hne e.symm) _,h.s.set 0 _,h.b.trans (Zv ZcF h.b.size (fun k hk=>by injection hk with hk;have:=h.lt;omega)),h.lt⟩
theorem EndS.drew {w0 w:World} {b1 b3 s:Nat} {cs:Array Value} (h:EndS w0 w b1 b3 s cs):EndS w0 w.drew b1 b3 s cs:=⟨h.p,h.s,h.b.drew,h.lt⟩
theorem Zga (w:World) (vs vm:Value) (p:Pro) (h:ProAt w vs vm p) (hf:Fits p) (hn:p.states.length<=16) :
  Calls Tryz.prog 118 #[ZaH vs vm p] w fun e w'=>e=.returned (.int .u32 (ZaX p p.states.length:Nat))/\Below w.heap.size w w':=by
 obtain ⟨As,cs,rfl,hls⟩:=h.states.len
 obtain ⟨rs,hm,Am,cm,rfl,hm2,hm3,hM,hE⟩:=h.moves
 have a1:=below_alloc1 w (.cells #[txt p.name,.slice As p.states.length cs,.slice Am rs.length cm] 51)
 have B1:=Blk.start w #[txt p.name,.slice As p.states.length cs,.slice Am rs.length cm] 51
 have c1:=B1.cell 1
 have c2:=B1.cell 2
 have c0:=B1.cell 0
 simp only [List.getElem?_toArray,List.getElem?_cons_zero,List.getElem?_cons_succ] at c0 c1 c2
 have FI:=zh (Zdg _ _ _ p (h.below a1) hn)
 have HM:=zh (zi hM hE)
 have HF:=zh (zi hf (zi hn (zi hm (show rs.length<=maxLen by omega))))
 have HA:=zh (zi a1 B1)
 clear h hf hn hls hm hm2 hm3 hM hE a1 B1
 have hmf:=mkF
 go_enter Tryz.func118,Tryz.ntmps118
 go_upto_region 2 with (go_at_call 26;(with_reducible refine FI.out.mono ?_);rintro e w1 ⟨rfl,hb⟩;have H1:=zh hb;clear hb)
 have a2:=below_alloc1 w1 (.cells #[.int .u32 (ZaK p:Nat)] 41)
 have B2:=Blk.start w1 #[.int .u32 (ZaK p:Nat)] 41
 have b1:=(HA.out.2.keep H1.out).keep a2
 have bw:=HA.out.1.trans (H1.out.mono HA.out.1.size)
 have E0:=zh (EndS.mk b1 B2 (bw.trans (a2.mono bw.size)) bw.size)
 have hne:w.heap.size≠w1.heap.size:=by have:=H1.out.size;rw [World.size_alloc] at this;omega
 have c3:=b1.cell 1
 simp only [List.getElem?_toArray,List.getElem?_cons_zero,List.getElem?_cons_succ] at c3
 have HN:=zh hne
 clear a2 B2 b1 bw c0 c1 c2 hne
 generalize w1.alloc (.cells #[.int .u32 (ZaK p:Nat)] 41)=W at *
 generalize w1.heap.size=b3 at *
 go_wp2_with fail
 go_loopg [11] p.states.length (fun g v11 wr=>∃ r:Nat,v11=.int .i64 r/\r<=p.states.length/\g=p.states.length-r/\EndS w wr w.heap.size b3 (ZaX p r) #[txt p.name,.slice As p.states.length cs,.slice Am rs.length cm])
 case atStart=>exact ⟨0,rfl,Nat.zero_le _,rfl,E0.out⟩
 case round=>
  obtain ⟨r,rfl,hr,hg,hE⟩:=hrel
  by_cases hrn:r=p.states.length
  ·have e0:=hE.s.cell 0
   simp only [List.getElem?_toArray,List.getElem?_cons_zero] at e0
   have FIN:=zh (zi hrn hE.b)
   have i1:decide (r<p.states.length)=false:=decide_eq_false (by omega)
   clear hr hg hE hrn
   go_wp2_with fail
   go_ret
   exact ⟨by rw [<- FIN.out.1];rfl,FIN.out.2⟩
  ·have hlt:r<p.states.length:=by omega
   have e2:=hE.p.cell 2
   simp only [List.getElem?_toArray,List.getElem?_cons_zero,List.getElem?_cons_succ] at e2
   have i1:(r:Int)<(p.states.length:Int):=by omega
   have wr1:IntKind.i64.wrap ((r:Int)+1)=(r:Int)+1:=IntWalk.i64_in _ (by have:=HF.out.2.1;omega)
   have HR:=zh (zi hlt (zi hg hE))
   clear hrn hlt hr hg hE
   go_wp2_with fail
   generalize wr=wo at *
   go_loopg [16] rs.length (fun g v16 wr=>∃ j:Nat,v16=.int .i64 j/\j<=rs.length/\g=rs.length-j/\EndS w wr w.heap.size b3 (ZbX (p.moves.take j) (ZaX p r)) #[txt p.name,.slice As p.states.length cs,.slice Am rs.length cm])
   case atStart=>exact ⟨0,rfl,Nat.zero_le _,rfl,HR.out.2.2⟩
   case round=>
    obtain ⟨j,rfl,hj,hg,hE⟩:=hrel
    by_cases hjn:j=rs.length
    ·have FIN:=zh (show EndS w wr w.heap.size b3 (ZaX p (r+1)) #[txt p.name,.slice As p.states.length cs,.slice Am rs.length cm] from by
      rw [ZaX]
      have e:p.moves.take j=p.moves:=List.take_of_length_le (by rw [hjn,ZbQ HF.out.2.2.1];exact Nat.le_refl _)
      rw [e] at hE
      exact hE)
     have i2:decide (j<rs.length)=false:=decide_eq_false (by omega)
     clear hj hg hE hjn
     go_wp2_with fail
     go_roundg (p.states.length-(r+1))
     case measure=>have:=HR.out.1;have:=HR.out.2.1;omega
     case rel=>exact ⟨r+1,by push_cast;rfl,HR.out.1,rfl,FIN.out⟩
    ·have hlt:j<rs.length:=by omega
     obtain ⟨x,hx⟩:∃ x,rs[j]? = some x:=⟨_,List.getElem?_eq_getElem hlt⟩
     obtain ⟨ad,rfl,d0,d1,d2⟩:=ZbL ZaR HM.out.1 hE.b hx (by omega)
     unfold mvC at d0 d1 d2
     simp only [List.getElem?_cons_zero,List.getElem?_cons_succ] at d0 d1 d2
     have hmx:=Za3 HF.out.2.2.1 hx
     have hat:=HF.out.1.at_ x.2 (List.mem_of_getElem? hmx)
     have hto:=HF.out.1.to x.2 (List.mem_of_getElem? hmx)
     have hlo:=(HM.out.2 x (List.mem_of_getElem? hx)).2
     have hnx:=ZgW (ZaX p r) hmx
     have hsm:=ZdD (p.moves.take j) _ (ZdC HF.out.1 r) (Zht HF.out.1 j)
     have hsm':=Ze7 hsm HF.out.2.1
     generalize ZbX (p.moves.take j) (ZaX p r)=s at *
     obtain ⟨vo,op,z,outs⟩:=x
     dsimp only at d0 d1 d2 hat hto hlo hnx
     obtain ⟨k,rfl⟩:∃ k:Nat,z=k:=⟨z.toNat,by omega⟩
     obtain ⟨Ao,co,rfl,_⟩:=hlo.len
     have a3:=below_alloc1 wr (.cells #[txt op,.int .i64 (k:Int),.slice Ao outs.length co] 85)
     have B3:=Blk.start wr #[txt op,.int .i64 (k:Int),.slice Ao outs.length co] 85
     have E3:=hE.keep a3
     have CF:=zh (Zjf w _ _ outs b3 (fun i=>match outs[i]? with | some o=>s.testBit o.to.toNat | none=>false) (fun _ v=>EndS w v w.heap.size b3 s #[txt p.name,.slice As p.states.length cs,.slice (some ad) rs.length cm]/\Blk v wr.heap.size #[txt op,.int .i64 (k:Int),.slice Ao outs.length co]) hlo E3.b ⟨E3,B3⟩
      (fun i o v hx hb hr=>(ZhO v b3 s o hr.1.s hsm' (by have:=hto o (List.mem_of_getElem? hx);have:=HF.out.2.1;omega)).mono fun e v' ⟨he,hb'⟩=>⟨by rw [he,hx],hb.trans (hb'.mono hb.size),hr.1.keep hb',hr.2.keep hb'⟩))
     rw [Zcu (f:=fun o:Ou=>s.testBit o.to.toNat) (fun k x hx=>by rw [hx])] at CF
     have i2:(j:Int)<(rs.length:Int):=by omega
     have i3:(0:Int)<=(j:Int):=by omega
     have wj:IntKind.i64.wrap ((j:Int)+1)=(j:Int)+1:=IntWalk.i64_in _ (by have:=HF.out.2.2.2;unfold maxLen at this;omega)
     have k0:(0:Int)<=(k:Int):=by omega
     have k1:(k:Int)<=32:=by have:=HF.out.2.1;omega
     have sh:=Zho (k:=k) (by have:=HF.out.2.1;omega)
     have ho:=zh (Zix (s:=s) (k:=k) hsm' (by have:=HF.out.2.1;omega))
     have HX:=zh (zi hlt (zi hg hnx))
     clear hjn hlt hj hg hE hx hmx hat hto hlo hnx hsm hsm' a3 B3 E3
     unfold ZbW at HX
     dsimp only at HX
     rw [Int.toNat_natCast] at HX
     generalize outs.any (fun o=>s.testBit o.to.toNat)=B at *
     cases B
     ·go_wp2_with (go_at_call 77;(refine CF.out.mono ?_);rintro e w3 ⟨rfl,hb3,_,hE3⟩;have H3:=zh hE3;clear hb3 hE3)
      go_roundg (rs.length-(j+1))
      case measure=>have:=HX.out.1;have:=HX.out.2.1;omega
      case rel=>exact ⟨j+1,by push_cast;rfl,HX.out.1,rfl,by rw [HX.out.2.2];exact H3.out.1⟩
     ·go_upto_region 8 with (go_at_call 77;(refine CF.out.mono ?_);rintro e w3 ⟨rfl,hb3,_,hE3⟩;have H3:=zh hE3;clear hb3 hE3)
      have e3:=H3.out.1.s.drew.cell 0
      have f3:=H3.out.1.s.drew.free 0
      have e4:=H3.out.2.drew.cell 1
      simp only [List.getElem?_toArray,List.getElem?_cons_zero,List.getElem?_cons_succ] at e3 e4
      have G3:=zh (H3.out.1.drew.set HN.out (s ||| 2 ^ k))
      go_region
      all_goals
       go_wp2_with fail
       go_roundg (rs.length-(j+1))
       case measure=>have:=HX.out.1;have:=HX.out.2.1;omega
       case rel=>exact ⟨j+1,by push_cast;rfl,HX.out.1,rfl,by rw [ho.out,HX.out.2.2];exact G3.out⟩
def ZaZ (p:Pro) (i:Nat):Bool:=!Zx p p.states.length i
theorem Zhs (w:World) (vs vm:Value) (p:Pro) (h:ProAt w vs vm p) (hf:Fits p) (hn:p.states.length<=16) :
  Calls Tryz.prog 83 #[ZaH vs vm p] w fun e w'=>e=.returned (.int .i64 (ZE (ZaZ p) p.states.length))/\Below w.heap.size w w':=by
 obtain ⟨As,cs,rfl,hls⟩:=h.states.len
 obtain ⟨Am,cm,rfl,hlm⟩:=h.moves.len
 have a1:=below_alloc1 w (.cells #[txt p.name,.slice As p.states.length cs,.slice Am p.moves.length cm] 51)
 have B1:=Blk.start w #[txt p.name,.slice As p.states.length cs,.slice Am p.moves.length cm] 51
 have EA:=zh (Zga _ _ _ p (h.below a1) hf hn)
 have HA:=zh (zi a1 (zi B1 (zi hn hf)))
 have hsm:=Ze7 (ZdC hf p.states.length) hn
 have HB:=zh (fun (i:Nat) (hi:i<p.states.length)=>ZgV hf hi)
 generalize ZaX p p.states.length=s at *
 have HS:=zh hsm
 clear h hf hn hls hlm a1 B1 hsm
 go_enter Tryz.func83,Tryz.ntmps83
 go_upto_region 2 with (go_at_call 118;(with_reducible refine EA.out.mono ?_);rintro e w1 ⟨rfl,hb⟩;have H1:=zh hb;clear hb)
 have b1:=HA.out.2.1.keep H1.out
 have c1:=b1.cell 1
 simp only [List.getElem?_toArray,List.getElem?_cons_zero,List.getElem?_cons_succ] at c1
 have HW:=zh (HA.out.1.trans (H1.out.mono HA.out.1.size))
 clear b1
 go_wp2_with fail
 go_loopg [10] p.states.length (fun g v10 wr=>∃ r:Nat,v10=.int .i64 r/\r<=p.states.length/\g=p.states.length-r/\(∀ i,i<r->ZaZ p i=false)/\wr=w1)
 case atStart=>exact ⟨0,rfl,Nat.zero_le _,rfl,fun i hi=>absurd hi (Nat.not_lt_zero _),rfl⟩
 case round=>
  obtain ⟨r,rfl,hr,hg,hall,rfl⟩:=hrel
  by_cases hrn:r=p.states.length
  ·have FIN:=zh (show ZE (ZaZ p) p.states.length=-1 from Zas (by rw [<- hrn];exact hall))
   have i1:decide (r<p.states.length)=false:=decide_eq_false (by omega)
   clear hr hg hrn hall
   go_wp2_with fail
   go_ret
   exact ⟨by rw [FIN.out];rfl,HW.out⟩
  ·have hlt:r<p.states.length:=by omega
   have i1:(r:Int)<(p.states.length:Int):=by omega
   have wr1:IntKind.i64.wrap ((r:Int)+1)=(r:Int)+1:=IntWalk.i64_in _ (by have:=HA.out.2.2.1;omega)
   have HH:=zh (fun (v:World)=>Zer v s r HS.out (by have:=HA.out.2.2.1;omega))
   have hq:ZaZ p r=!s.testBit r:=by rw [HB.out r hlt];rfl
   have HR:=zh (zi hlt (zi hg (zi hall hq)))
   clear hrn hlt hr hg hall hq
   generalize s.testBit r=B at *
   cases B
   ·go_wp2_with (go_at_call 119;(with_reducible refine (HH.out _).mono ?_);rintro e w1 ⟨rfl,rfl⟩)
    go_ret
    exact ⟨by rw [ZaA HR.out.1 HR.out.2.2.2 HR.out.2.2.1];rfl,HW.out⟩
   ·have NX:=zh (show ∀ i,i<r+1->ZaZ p i=false from fun i hi=>by
     by_cases e:i=r
     ·rw [e];exact HR.out.2.2.2
     ·exact HR.out.2.2.1 i (by omega))
    go_wp2_with (go_at_call 119;(with_reducible refine (HH.out _).mono ?_);rintro e w1 ⟨rfl,rfl⟩)
    go_roundg (p.states.length-(r+1))
    case measure=>have:=HR.out.1;have:=HR.out.2.1;omega
    case rel=>exact ⟨r+1,by push_cast;rfl,HR.out.1,rfl,NX.out,rfl⟩
end
end Go.Proofs.YtkgkmdhpnhmcpaaGreatDoor
