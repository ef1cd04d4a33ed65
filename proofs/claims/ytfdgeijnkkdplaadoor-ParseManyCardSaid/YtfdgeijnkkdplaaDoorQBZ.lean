import Derived.Test.YtfdgeijnkkdplaaDoorQBX
import Derived.Test.YtfdgeijnkkdplaaDoorQBY
set_option maxRecDepth 100000
set_option maxHeartbeats 8000000
namespace Go.Proofs.YtfdgeijnkkdplaaDoor
section
open Go Go.RowKit
theorem Tryd.gSignsP:Tryd.prog.globalNamed "ballcock/parse.signs"=some 4:=by kernel_rfl
theorem Tryd.gKindsP:Tryd.prog.globalNamed "ballcock/parse.kinds"=some 1:=by kernel_rfl
theorem Tryd.gNamesP:Tryd.prog.globalNamed "ballcock/parse.namesWords"=some 2:=by kernel_rfl
theorem Tryd.gSignsPType:(Tryd.prog.globals[4]?).map (·.type)=some 97:=by kernel_rfl
theorem Tryd.gKindsPType:(Tryd.prog.globals[1]?).map (·.type)=some 85:=by kernel_rfl
theorem Tryd.gNamesPType:(Tryd.prog.globals[2]?).map (·.type)=some 83:=by kernel_rfl
theorem ZlH:"*"++"errors.errorString"="*errors.errorString":=by decide
theorem Tryd.rowErrP (u:TypeId) (h:Tryd.prog.typeName? 3 u=some "*errors.errorString"):u=111:=
 typeName_ptr_named (nm:="errors.errorString") (by rw [ZlH];kernel_rfl) (by kernel_rfl) (by decide) u (by rw [ZlH];exact h)
def ZcY (w:World):Prop:=LaidP w/\Zaf w 0 Zp
theorem ZcY.below {w w':World} (h:ZcY w) (hb:Below w.heap.size w w'):ZcY w':=⟨h.1.below hb,h.2.below hb⟩
theorem ZlE {W:World} (h:laidMetH Tryd.prog [("math/bits.deBruijn32tab",Rows.laid_math_bits_deBruijn32tab),("math/bits.deBruijn64tab",Rows.laid_math_bits_deBruijn64tab),("internal/strconv.uint64pow10",Rows.laid_internal_strconv_uint64pow10),("strconv.ErrRange",Rows.laid_strconv_ErrRange),("strconv.ErrSyntax",Rows.laid_strconv_ErrSyntax),("ballcock/lex.signs",Rows.laid_ballcock_lex_signs),("ballcock/lex.keywords",Rows.laid_ballcock_lex_keywords),("ballcock/parse.signs",Rows.laid_ballcock_parse_signs),("ballcock/parse.kinds",Rows.laid_ballcock_parse_kinds),("ballcock/parse.namesWords",Rows.laid_ballcock_parse_namesWords)] W):ZcY W:=by
 rw [MakeChecks.laidMetH_plain _ _ _ (by kernel_rfl)] at h
 have h4:=laidMet.tail (laidMet.tail (laidMet.tail (laidMet.tail h)))
 have h5:=laidMet.tail h4
 have h6:=laidMet.tail h5
 have h7:=laidMet.tail h6
 have h8:=laidMet.tail h7
 have h9:=laidMet.tail h8
 obtain ⟨a,s,hv,_⟩:=laid_sentinel (g:=5) (ti:=89) (ts:=9) h4 Tryd.laysC174.m15 (by kernel_rfl) Tryd.underlying89 Tryd.rowErrP Tryd.underlying111 Tryd.underlying113 rfl rfl Tryd.underlying9 (by kernel_rfl) (by kernel_rfl)
 exact ⟨⟨Zb2 (zs:=Zbg) Tryd.gSignsP Tryd.gSignsPType Tryd.underlying97 Tryd.underlying9 Tryd.cellsS (by kernel_rfl) h7,Zb2 (zs:=Zd3) Tryd.gKindsP Tryd.gKindsPType Tryd.underlying85 Tryd.underlying9 Tryd.cellsS (by kernel_rfl) h8,Zb2 (zs:=Zbl) (rest:=[]) Tryd.gNamesP Tryd.gNamesPType Tryd.underlying83 Tryd.underlying9 Tryd.cellsS (by kernel_rfl) h9,Zb2 (zs:=Zs) Tryd.gKeys Tryd.gKeysType Tryd.underlying87 Tryd.underlying9 Tryd.cellsS (by kernel_rfl) h6,⟨_,_,hv⟩⟩,Zb2 (zs:=Zp) Tryd.gSigns Tryd.gSignsType Tryd.underlying70 Tryd.underlying9 Tryd.cellsS (by kernel_rfl) h5⟩
end
section
open Go Go.RowKit
def ZfN:List UInt8:=[102,110,32,109,97,105,110,40,41,32,123,32,125]
def Zk4:List UInt8:=[102,110,32,109,97,105,110,40,32,123]
theorem Zmk:(Zbd ZfN).2=(0,0)/\(Zbd ZfN).1.length=3/\((Zbd ZfN).1[1]?).map (·.kind)=some 4:=by decide +kernel
theorem Zml:(Zbd Zk4).2=(11,9):=by decide +kernel
theorem Zdt (s:ByteArray) (w:World) (h:ZcY w):Calls Tryd.prog 6 #[.string s] w (Zmh w (Zbd s.data.toList)):=ZiG s w h.1 h.2
theorem ZhN (w:World) (ht:ZcY w):Calls Tryd.prog 5 #[] w fun e w'=>e=.returned (.bool true)/\Below w.heap.size w w':=by
 have ta:=fun w' (h:Below w.heap.size w w')=>Zdt ⟨#[102,110,32,109,97,105,110,40,41,32,123,32,125]⟩ w' (ht.below h)
 have te:=fun w' (h:Below w.heap.size w w')=>Zdt ⟨#[102,110,32,109,97,105,110,40,32,123]⟩ w' (ht.below h)
 rw [show (⟨#[102,110,32,109,97,105,110,40,41,32,123,32,125]⟩:ByteArray).data.toList=ZfN from rfl] at ta
 rw [show (⟨#[102,110,32,109,97,105,110,40,32,123]⟩:ByteArray).data.toList=Zk4 from rfl] at te
 have X1:=Zmk
 have X2:=Zml
 generalize Zbd ZfN=P1 at *
 generalize Zbd Zk4=P2 at *
 obtain ⟨n1,f1⟩:=P1
 obtain ⟨n2,f2⟩:=P2
 dsimp only at X1 X2
 obtain ⟨rfl,X3,X4⟩:=X1
 subst X2
 have TA:=zh ta
 have TE:=zh te
 have X:=zh (zi X3 X4)
 clear ta te ht X3 X4
 go_enter Tryd.func5,Tryd.ntmps5
 go_upto_region 2 with (go_at_call 6;(refine (TA.out _ (Below.refl _ _)).mono ?_);rintro e w1 ⟨v,rs,rfl,hb,hN,hm⟩)
 obtain ⟨A,c,rfl⟩:=Zbp hN.own
 try dsimp only at hm
 obtain ⟨x0,x1,x2,rfl⟩:∃ x0 x1 x2,rs=[x0,x1,x2]:=by
  have hl:rs.length=3:=by rw [<- X.out.1,<- hm,List.length_map]
  match rs,hl with
  | [a,b,d],_=>exact ⟨a,b,d,rfl⟩
 have hk:x1.2.kind=4:=by
  have h:=X.out.2
  rw [<- hm] at h
  simpa using h
 have F1:=Blk.start w1 #[.int .i64 0,.int .i64 0] 26
 have a1:=below_alloc1 w1 (.cells #[.int .i64 0,.int .i64 0] 26)
 have HB:=zh (zi (hb.trans (a1.mono hb.size)) (zi F1 (zi (hN.keep a1) hk)))
 clear hb hN F1 a1 hm hk
 generalize w1.heap.size=bf at *
 generalize w1.alloc (.cells #[.int .i64 0,.int .i64 0] 26)=w2 at *
 go_upto_region 3 with (go_at_call 6;(refine (TE.out _ HB.out.1).mono ?_);rintro e w3 ⟨v2,rs2,rfl,hb2,hN2,hm2⟩)
 have F2:=Blk.start w3 #[.int .i64 11,.int .i64 9] 26
 have a2:=below_alloc1 w3 (.cells #[.int .i64 11,.int .i64 9] 26)
 have b2:=hb2.trans (a2.mono hb2.size)
 have HB2:=zh (zi (HB.out.1.trans (b2.mono HB.out.1.size)) (zi (HB.out.2.1.keep b2) (zi (HB.out.2.2.1.keep b2) F2)))
 clear hb2 hN2 hm2 F2 a2 b2
 generalize w3.heap.size=bg at *
 generalize w3.alloc (.cells #[.int .i64 11,.int .i64 9] 26)=w4 at *
 obtain ⟨_,_,hr⟩:=Zft HB2.out.2.2.1.own
 obtain ⟨ad,rfl,_,hc⟩:=hr.2 (by simp)
 have c3:w4.cell? ⟨ad.block,ad.off+5,none⟩=some (.int .i64 4):=by
  have:=hc 5 (.int .i64 x1.2.kind) rfl
  rw [HB.out.2.2.2] at this
  rwa [show ad.add 5=⟨ad.block,ad.off+5,none⟩ from rfl] at this
 have g0:=HB2.out.2.1.cell 0
 have g1:=HB2.out.2.1.cell 1
 have d0:=HB2.out.2.2.2.cell 0
 have d1:=HB2.out.2.2.2.cell 1
 simp only [List.getElem?_toArray,List.getElem?_cons_zero,List.getElem?_cons_succ] at g0 g1 d0 d1
 clear hr hc
 go_wp2_with fail
 exact bodyPost_ret (v:=.bool true) (by simp [results,Tryd.results5,go_sem]) rfl ⟨rfl,HB2.out.1⟩
end
section
open Go Go.RowKit
theorem Zeh (x:List UInt8):∀ (b:Nat) (r:List UInt8),exB b (r++x)=exB b r++x
 | 0,_=>rfl
 | b+1,r=>by rw [exB,exB,Zeh x b r];rfl
theorem ZfT:∀ (b:Nat),exB (b+1) []=exB b []++[101,120,105,116,59]
 | 0=>rfl
 | b+1=>by
  show 101::120::105::116::59::exB (b+1) []=(101::120::105::116::59::exB b [])++_
  rw [ZfT b]
  rfl
theorem Zfh:∀ (a b:Nat),ZaB (a+1) b=ZaB a b++([102,110,32,102,40,41,123]++exB b []++[125])
 | 0,b=>by
  have:=Zeh [125] b []
  show 102::110::32::102::40::41::123::exB b (125::[])=_
  rw [show (125::[]:List UInt8)=[]++[125] from rfl,this]
  rfl
 | a+1,b=>by
  have h:=Zfh a b
  show fnB b (ZaB (a+1) b)=fnB b (ZaB a b)++_
  rw [h]
  unfold fnB
  rw [show (125:UInt8)::(ZaB a b++([102,110,32,102,40,41,123]++exB b []++[125]))=(125::ZaB a b)++([102,110,32,102,40,41,123]++exB b []++[125]) from rfl,Zeh]
  rfl
theorem Zet (O Q:List UInt8):Value.string (⟨O.toArray⟩++⟨Q.toArray⟩)=txt (O++Q):=ZkX (by simp)
theorem ZkD (w:World) (ht:ZcY w) (x y:Nat) (hx:x<=255) (hy:y<=255):Calls Tryd.prog 3 #[.int .u8 x,.int .u8 y] w fun e w'=>e=.returned (.bool true)/\Below w.heap.size w w':=by
 obtain ⟨a,ha⟩:∃ a,a=1+x % 30:=⟨_,rfl⟩
 obtain ⟨b,hb⟩:∃ b,b=y % 30:=⟨_,rfl⟩
 have m1:(x:Int).tmod 30=(x:Int) % 30:=Int.tmod_eq_emod_of_nonneg (by omega)
 have m2:(y:Int).tmod 30=(y:Int) % 30:=Int.tmod_eq_emod_of_nonneg (by omega)
 have r1:(x:Int) % 30=(a:Int)-1:=by omega
 have r2:(y:Int) % 30=(b:Int):=by omega
 have u1:IntKind.i64.wrap (x:Int)=x:=IntWalk.i64_in _ (by omega)
 have u2:IntKind.i64.wrap (y:Int)=y:=IntWalk.i64_in _ (by omega)
 have u3:IntKind.i64.wrap ((a:Int)-1)=(a:Int)-1:=IntWalk.i64_in _ (by omega)
 have u4:IntKind.i64.wrap (b:Int)=b:=IntWalk.i64_in _ (by omega)
 have u5:IntKind.i64.wrap (1+((a:Int)-1))=a:=(IntWalk.i64_in _ (by omega)).trans (by omega)
 have AW:=zh (fun (w1:World) (hb:Below w.heap.size w w1)=>ZhN w1 (ht.below hb))
 have PA:=zh (fun (s:ByteArray) (w1:World) (hb:Below w.heap.size w w1)=>Zdt s w1 (ht.below hb))
 have HA:=zh (zi (show 1<=a by omega) (zi (show a<=30 by omega) (show b<=29 by omega)))
 rw [r1] at m1
 rw [r2] at m2
 clear ht ha hb hx hy r1 r2
 go_enter Tryd.func3,Tryd.ntmps3
 go_upto_region 6 with (go_at_call 5;(refine (AW.out _ (Below.refl _ _)).mono ?_);rintro e w1 ⟨rfl,hb⟩;have HB:=zh hb;clear hb)
 go_loopg [7,8] a (fun g v7 v8 wr=>∃ i:Nat,v8=.int .i64 i/\v7=txt (ZaB i b)/\i<=a/\g=a-i/\wr=w1)
 case atStart=>exact ⟨0,rfl,rfl,Nat.zero_le _,rfl,rfl⟩
 case round=>
  obtain ⟨i,rfl,rfl,hi,hg,rfl⟩:=hrel
  have hln:(ZaB i b).length<=30*(8+5*29):=by
   rw [Zc0]
   exact Nat.mul_le_mul (by have:=HA.out;omega) (by have:=HA.out;omega)
  by_cases hlt:i<a
  ·have i1:(i:Int)<(a:Int):=by omega
   have wi:IntKind.i64.wrap ((i:Int)+1)=(i:Int)+1:=IntWalk.i64_in _ (by have:=HA.out;omega)
   have l1:¬ 9223372036854775807<(ZaB i b).length+7:=by omega
   have HI:=zh (zi hlt (zi hg (zi hln (Zfh i b))))
   clear hlt hg hi hln
   generalize hO:ZaB i b=O at *
   clear hO
   go_upto_region 10 with fail
   clear l1
   go_loopg [7,9] b (fun g v7 v9 wq=>∃ q:Nat,v9=.int .i64 q/\v7=txt (O++[102,110,32,102,40,41,123]++exB q [])/\q<=b/\g=b-q/\wq=wr)
   case atStart=>exact ⟨0,rfl,(Zet O [102,110,32,102,40,41,123]).trans (by rw [exB,List.append_nil]),Nat.zero_le _,rfl,rfl⟩
   case round=>
    obtain ⟨q,rfl,rfl,hq,hg,hw⟩:=hrel
    rw [hw]
    clear hw
    have hlen:(O++[102,110,32,102,40,41,123]++exB q []).length<=10000:=by
     simp only [List.length_append,ZeV,List.length_cons,List.length_nil]
     have:=HI.out.2.2.1
     have:=HA.out
     omega
    by_cases hqb:q<b
    ·have j1:(q:Int)<(b:Int):=by omega
     have wq':IntKind.i64.wrap ((q:Int)+1)=(q:Int)+1:=IntWalk.i64_in _ (by have:=HA.out;omega)
     have l2:¬ 9223372036854775807<(O++[102,110,32,102,40,41,123]++exB q []).length+5:=by omega
     have e2:O++[102,110,32,102,40,41,123]++exB q []++[101,120,105,116,59]=O++[102,110,32,102,40,41,123]++exB (q+1) []:=by rw [ZfT q];simp only [List.append_assoc]
     have HQ:=zh (zi hqb (zi hg e2))
     clear hqb hg hq hlen e2
     generalize hO2:O++[102,110,32,102,40,41,123]++exB q []=O2 at *
     clear hO2
     go_wp2_with fail
     go_roundg (b-(q+1))
     case measure=>have:=HQ.out;omega
     case rel=>exact ⟨q+1,by push_cast;rfl,(Zet O2 [101,120,105,116,59]).trans (by rw [HQ.out.2.2]),by have:=HQ.out;omega,rfl,rfl⟩
    ·obtain rfl:q=b:=by omega
     have l2:¬ 9223372036854775807<(O++[102,110,32,102,40,41,123]++exB q []).length+1:=by omega
     have e2:O++[102,110,32,102,40,41,123]++exB q []++[125]=ZaB (i+1) q:=by rw [HI.out.2.2.2];simp only [List.append_assoc]
     have HQ:=zh e2
     clear hqb hg hq hlen e2
     generalize hO2:O++[102,110,32,102,40,41,123]++exB q []=O2 at *
     clear hO2
     go_wp2_with fail
     go_roundg (a-(i+1))
     case measure=>have:=HI.out;omega
     case rel=>exact ⟨i+1,by push_cast;rfl,(Zet O2 [125]).trans (by rw [HQ.out]),by have:=HI.out;omega,rfl,rfl⟩
  ·obtain rfl:i=a:=by omega
   clear hg hi hlt
   obtain ⟨p1,p2,p3⟩:=Zih i b HA.out.1 HA.out.2.1 HA.out.2.2
   have pa:=PA.out ⟨(ZaB i b).toArray⟩ wr HB.out
   rw [show (⟨(ZaB i b).toArray⟩:ByteArray).data.toList=ZaB i b from rfl] at pa
   generalize Zbd (ZaB i b)=R at *
   obtain ⟨ns,f⟩:=R
   dsimp only at p1 p2 p3
   subst p1
   have hmul:i*(2+b)<=30*31:=Nat.mul_le_mul HA.out.2.1 (by have:=HA.out;omega)
   have PR:=zh pa
   have HP:=zh (zi p2 (zi p3 hmul))
   have l6:¬ (6000:Int)<((ZaB i b).length:Int):=by
    have h0:(ZaB i b).length=i*(8+5*b):=Zc0 i b
    have h1:i*(8+5*b)<=30*(8+5*29):=Nat.mul_le_mul HA.out.2.1 (by have:=HA.out;omega)
    omega
   clear pa p2 p3 hmul hln
   generalize ZaB i b=O at *
   go_upto_region 15 with (go_at_call 6;(refine PR.out.mono ?_);rintro e w2 ⟨v,rs,rfl,hb,hN,hm⟩;have H2:=zh (zi (HB.out.trans (hb.mono HB.out.size)) (zi hN hm));clear hb hN hm)
   have a3:=below_alloc1 w2 (.cells #[.int .i64 0,.int .i64 0] 26)
   have F3:=Blk.start w2 #[.int .i64 0,.int .i64 0] 26
   have H3:=zh (zi (H2.out.1.trans (a3.mono H2.out.1.size)) (H2.out.2.1.keep a3))
   have q0:=F3.cell 0
   have q1:=F3.cell 1
   simp only [List.getElem?_toArray,List.getElem?_cons_zero,List.getElem?_cons_succ] at q0 q1
   clear a3 F3
   generalize w2.alloc (.cells #[.int .i64 0,.int .i64 0] 26)=w3 at *
   obtain ⟨A,c,rfl⟩:=Zbp H3.out.2.own
   have hl:rs.length=1+i*(2+b):=by rw [<- HP.out.1,<- H2.out.2.2,List.length_map]
   obtain ⟨x0,hx0⟩:∃ x0,rs[0]? = some x0:=⟨_,List.getElem?_eq_getElem (by omega)⟩
   have hk:x0.2.kids.length=i:=by
    have h:=HP.out.2.1
    rw [<- H2.out.2.2,List.getElem?_map,hx0] at h
    simpa using h
   obtain ⟨r1,r2,r3⟩:=Zft H3.out.2.own
   obtain ⟨ad,rfl,c0,c1,c2,c3,c4⟩:=Zhi r3 (Below.refl _ _) hx0 (by omega)
   have kk:=(H3.out.2.each x0 (List.mem_of_getElem? hx0)).2.2
   obtain ⟨Ak,ck,hAk⟩:=Zbp kk
   rw [hAk,hk,Nat.zero_mul,Addr.add_zero'] at c3
   have d0:(0:Int)<(rs.length:Int):=by omega
   have n1:(rs.length:Int)=1+(i:Int)*(2+(b:Int)):=by rw [hl];push_cast;rfl
   have v1:IntKind.i64.wrap (2+(b:Int))=2+(b:Int):=IntWalk.i64_in _ (by have:=HA.out;omega)
   have hm0:(i:Int)*(2+(b:Int))=((i*(2+b):Nat):Int):=by push_cast;rfl
   have v2:IntKind.i64.wrap ((i:Int)*(2+(b:Int)))=(i:Int)*(2+(b:Int)):=IntWalk.i64_in _ (by rw [hm0];have:=HP.out.2.2;omega)
   have v3:IntKind.i64.wrap (1+(i:Int)*(2+(b:Int)))=1+(i:Int)*(2+(b:Int)):=IntWalk.i64_in _ (by rw [hm0];have:=HP.out.2.2;omega)
   clear c0 c1 c2 c4 hx0 hk kk r1 r2 r3 hl hm0
   go_wp2_with fail
   exact bodyPost_ret (v:=.bool true) (by simp [results,Tryd.results3,go_sem]) rfl ⟨rfl,H3.out.1⟩
theorem ZfH (w:World) (ht:ZcY w) (n:Int) (hn:(Lit.int .u8 n).wf=true) (k:Int) (hk:(Lit.int .u8 k).wf=true):Calls Tryd.prog 3 #[.int .u8 n,.int .u8 k] w fun e w'=>e=.returned (.bool true)/\Below w.heap.size w w':=by
 have h1:0<=n/\n<=255:=by simp [Lit.wf,IntKind.min,IntKind.max,IntKind.bits,IntKind.signed] at hn;omega
 have h2:0<=k/\k<=255:=by simp [Lit.wf,IntKind.min,IntKind.max,IntKind.bits,IntKind.signed] at hk;omega
 obtain ⟨x,rfl⟩:∃ x:Nat,n=x:=⟨n.toNat,by omega⟩
 obtain ⟨y,rfl⟩:∃ y:Nat,k=y:=⟨k.toNat,by omega⟩
 exact ZkD w ht x y (by omega) (by omega)
end
end Go.Proofs.YtfdgeijnkkdplaaDoor
