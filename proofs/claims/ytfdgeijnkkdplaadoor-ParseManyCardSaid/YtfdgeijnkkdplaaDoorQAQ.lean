import Derived.Lib.ParseIntB
import Derived.Test.YtfdgeijnkkdplaaDoorQAC
import Derived.Test.YtfdgeijnkkdplaaDoorQAO
import Derived.Test.YtfdgeijnkkdplaaDoorQAP
set_option maxRecDepth 100000
set_option maxHeartbeats 8000000
namespace Go.Proofs.YtfdgeijnkkdplaaDoor
section
open Go.RowKit
theorem Zfc (x:Int) (h0:0<=x) (h1:x<9223372036854775808):IntKind.i64.wrap x=x:=IntWalk.i64_in _ (by omega)
theorem Ze8 {c:UInt8} (h:Zai c=true):48<=c.toNat/\c.toNat<=57:=by
 unfold Zai Zdb at h
 simp only [Bool.and_eq_true,decide_eq_true_eq] at h
 omega
theorem Zgt:∀ (l:Txt) (acc k:Nat),(∀ d∈l,Zai d=true)->acc<10 ^ k->k+l.length<=18->∃ u:Nat,Lib.parseUintM 18446744073709551615 acc l=.ok u/\l.foldl (fun n c=>IntKind.i64.wrap (IntKind.i64.wrap (10*n)+((c.toNat:Int)-48) % 256)) (acc:Int)=(u:Int)/\u<1000000000000000000
 | [],acc,k,_,ha,hk=>⟨acc,rfl,rfl,Nat.lt_of_lt_of_le ha (Nat.le_trans (Nat.pow_le_pow_right (by omega) (show k<=18 by simpa using hk)) (by decide))⟩
 | c::r,acc,k,hd,ha,hk=>by
  rw [List.length_cons] at hk
  obtain ⟨d1,d2⟩:=Ze8 (hd c (.head _))
  have h17:acc<100000000000000000:=Nat.lt_of_lt_of_le ha (Nat.le_trans (Nat.pow_le_pow_right (by omega) (show k<=17 by omega)) (by decide))
  obtain ⟨u,e1,e2,e3⟩:=Zgt r (acc*10+(c.toNat-48)) (k+1) (fun d h=>hd d (.tail _ h)) (by rw [Nat.pow_succ];omega) (by omega)
  refine ⟨u,?_,?_,e3⟩
  ·rw [Lib.parseUintM,if_pos ⟨d1,d2⟩,if_neg (by omega),if_neg (by omega)]
   exact e1
  ·rw [List.foldl_cons,Zfc (10*(acc:Int)) (by omega) (by omega),Zfc _ (by omega) (by omega),<- e2]
   congr 1
   omega
theorem ZlF (c:UInt8) (r:Txt) (h:¬(48<=c.toNat/\c.toNat<=57)) (M acc:Nat):Lib.parseUintM M acc (c::r)=Lib.NumEnd.syntax:=by
 rw [Lib.parseUintM,if_neg h]
theorem ZlU (c:UInt8) (r:Txt) (hd:∀ d∈c::r,Zai d=true) (hl:(c::r).length<=18):Lib.parseIntB 64 (c::r)=.ok (Zdk (c::r))/\0<=Zdk (c::r)/\Zdk (c::r)<1000000000000000000:=by
 obtain ⟨u,e1,e2,e3⟩:=Zgt (c::r) 0 0 hd (by decide) (by omega)
 have e2':Zdk (c::r)=(u:Int):=e2
 obtain ⟨d1,d2⟩:=Ze8 (hd c (.head _))
 rw [e2']
 refine ⟨?_,by omega,by omega⟩
 have h1:¬(c.toNat=43\/c.toNat=45):=by omega
 have h2:¬ c.toNat=45:=by omega
 have h3:Lib.parseUintB 64 (c::r)=.ok u:=by
  rw [Lib.parseUintB,if_neg (by simp)]
  exact e1
 simp only [Lib.parseIntB,if_neg h1,h3,if_neg h2]
 rw [if_neg (by simp [h2];omega),if_neg (by simp [h2])]
theorem Zlw:∀ x∈Zp,Lib.parseIntB 64 x=Lib.NumEnd.syntax:=by decide
theorem Zl2 (c:UInt8) (r:Txt) (h1:¬(48<=c.toNat/\c.toNat<=57)) (h2:¬(c.toNat=43\/c.toNat=45)):Lib.parseIntB 64 (c::r)=Lib.NumEnd.syntax:=by
 have h3:Lib.parseUintB 64 (c::r)=Lib.NumEnd.syntax:=by
  rw [Lib.parseUintB,if_neg (by simp)]
  exact ZlF c r h1 _ _
 simp only [Lib.parseIntB,if_neg h2,h3]
theorem Zkr {L:List Tok} (h:LexL L) {k:Nat} (hk:k<L.length) (hn:(Zx L k).1≠1):Lib.parseIntB 64 (Zx L k).2.1=Lib.NumEnd.syntax:=by
 rcases h.tok hk with t | ⟨e,t⟩
 ·obtain ⟨c,r,e1,k0,k1,k2,k3⟩:=t.kind
  rw [e1]
  cases ql:ZaA c with
  | true=>
   have hq:=ql
   unfold ZaA Zco at hq
   refine Zl2 c r ?_ ?_<;>· intro q;simp at hq;omega
  | false=>
   cases qd:Zai c with
   | true=>exact absurd (k1.2 ⟨ql,qd⟩) hn
   | false=>
    obtain ⟨c',r',e2,f⟩:=t
    rw [e1] at e2
    injection e2 with e3 e4
    subst e3 e4
    rw [Zbf,ql,if_neg (by simp),qd,if_neg (by simp)] at f
    cases s:Zbr (c::r) with
    | none=>rw [s] at f;injection f with _ f;injection f with _ f;cases f
    | some n=>
     rw [s] at f
     injection f with _ f
     injection f with f _
     unfold Zbr at s
     obtain ⟨g,hg,e⟩:=Option.map_eq_some_iff.1 s
     have hp0:=List.find?_some hg
     have hp:=List.isPrefixOf_iff_prefix.1 hp0
     have:=hp.eq_of_length (by rw [e,f])
     rw [<- this]
     exact Zlw g (List.mem_of_find?_eq_some hg)
 ·rw [t]
  rfl
theorem Zhy {P:Program} {w:World} {n:String} {g:Nat} {x:Value} (h:w.var? P n=some #[x]) (hg:P.globalNamed n=some g):g<w.heap.size:=by
 have h0:=World.var?_cell hg h 0
 simp at h0
 unfold World.cell? at h0
 cases e:w.heap[g]? with
 | none=>simp [e] at h0
 | some b=>exact (Array.getElem?_eq_some_iff.1 e).1
theorem ZfO {w w1 w2:World} {B ty:Nat} (hb:Below B w w1) (hB:B<=w1.heap.size) (h:w2=w1\/∃ t,w2=Lib.bytesWorld w1 ty t):Below B w w2:=by
 rcases h with rfl | ⟨t,rfl⟩
 ·exact hb
 ·exact hb.trans ((Lib.bytesWorld_below _ _ _).mono hB)
theorem Zcu (w0 w:World) (bp c:Nat) (ad:Addr) (L:List Tok) (s:PS) (h:ParQ w0 w bp ad c L s) (tp:TypeId) (pv:Value) (hv:w0.var? Tryd.prog "strconv.ErrSyntax"=some #[.iface tp pv]) (least:Int) :
  Calls Tryd.prog 54 #[.pointer (some ⟨bp,0,none⟩),.int .i64 least] w (Zbv w0 w bp c ad L (ZaH L least s) fun x v _=>v=.int .i64 x):=by
 have NX:=zh (fun (w':World) (hb:Below w.heap.size w w')=>Zbq w0 w' bp c ad L s (h.keep hb))
 have hfd:∀ (w:World) (a b c:Value),(Instr.field 47 (.agg #[a,b,c]) 1).run Tryd.prog w=.ok b w:=fun _ _ _ _=>by kernel_rfl
 have hnow:Zak L s=Zx L s.at_:=by unfold Zak;rw [if_neg (by simp [h.err])]
 have H:=zh h
 have hsm:=h.small
 have hf:ZL L 11 s={ s with err:=11,fat:=(Zx L s.at_).2.2 }:=by unfold ZL;rw [if_pos h.err]
 have FL:=zh (fun (w':World) (hb:Below w.heap.size w w')=>Zcw w0 w' bp c ad L s (H.out.keep hb) 11)
 have e0:(⟨(Zx L s.at_).2.1.toArray⟩:ByteArray).data.toList=(Zx L s.at_).2.1:=rfl
 have hsz:(⟨(Zx L s.at_).2.1.toArray⟩:ByteArray).size<=281474976710656:=by show (Zx L s.at_).2.1.toArray.size<=_;rw [List.size_toArray];omega
 by_cases q:(Zx L s.at_).1=1
 ·obtain ⟨c1,r1,et,hd,h18⟩:=(Zle h.few.2.1 h.lt).1 q
  obtain ⟨i1,i2,i3⟩:=ZlU c1 r1 hd h18
  rw [<- et] at i1 i2 i3
  have PN:=zh (fun (w':World)=>Tryd.strconv_ParseInt_10_at64_ok ⟨(Zx L s.at_).2.1.toArray⟩ (by omega) (Zdk (Zx L s.at_).2.1) (by rw [e0];exact i1) w')
  have hne:(Zx L s.at_).2.1≠[]:=by rw [et];simp
  have TK:=zh (fun (w':World) (hb:Below w.heap.size w w')=>ZdQ w0 w' bp c ad L s (H.out.keep hb) (Zec H.out.few.2.1 H.out.lt hne))
  generalize hx:Zdk (Zx L s.at_).2.1=x at *
  cases ql:decide (x<least) with
  | true=>
   have hr:ZaH L least s=(0,{ s with err:=11,fat:=(Zx L s.at_).2.2 }):=by unfold ZaH;rw [if_neg (by rw [hnow,hx];simp [of_decide_eq_true ql]),hf]
   rw [hr]
   have ql':=of_decide_eq_true ql
   clear h hnow hf et hd h18 i1 hne TK hx e0 hr
   go_enter Tryd.func54,Tryd.ntmps54
   go_wp2_with (first
    | (go_at_call 20;(with_reducible refine (NX.out _ (Below.refl _ _)).mono ?_);rintro e1 w1 ⟨rfl,hb⟩)
    | (go_at_call 63;(refine (PN.out _).mono ?_);rintro e2 w2 ⟨rfl,hw2⟩;(have hb2:=ZfO hb hb.size hw2))
    | (go_at_call 43;(refine (FL.out _ hb2).mono ?_);rintro e3 w3 ⟨rfl,hb3⟩))
   exact ⟨rfl,FrP.of_below bp (hb2.trans (hb3.mono hb2.size)),fun e=>absurd e (show ¬ (11:Int)=0 by decide),fun _=>rfl⟩
  | false=>
   have ql':¬ x<least:=of_decide_eq_false ql
   have hr:ZaH L least s=(x,Zb s):=by unfold ZaH;rw [if_pos (by rw [hnow,hx];exact ⟨q,ql',h.err⟩),hnow,hx]
   rw [hr]
   clear h hnow hf et hd h18 i1 hne hx e0 hr FL
   go_enter Tryd.func54,Tryd.ntmps54
   go_wp2_with (first
    | (go_at_call 20;(with_reducible refine (NX.out _ (Below.refl _ _)).mono ?_);rintro e1 w1 ⟨rfl,hb⟩)
    | (go_at_call 63;(refine (PN.out _).mono ?_);rintro e2 w2 ⟨rfl,hw2⟩;(have hb2:=ZfO hb hb.size hw2))
    | (go_at_call 31;(refine (TK.out _ hb2).mono ?_);rintro e3 w3 ⟨rfl,hP,hF⟩))
   exact bodyPost_ret (v:=.int .i64 x) (by simp [results,Tryd.results54,go_sem]) rfl ⟨(FrP.of_below bp hb2).trans hF,fun _=>⟨_,rfl,hP,rfl⟩,fun e=>absurd hP.err e⟩
 ·have PN:=zh (fun (w':World) hvar=>Tryd.strconv_ParseInt_10_at64_syntax_var ⟨(Zx L s.at_).2.1.toArray⟩ hsz (by rw [e0];exact Zkr h.few.2.1 h.lt q) tp pv w' hvar)
  have hr:ZaH L least s=(0,{ s with err:=11,fat:=(Zx L s.at_).2.2 }):=by unfold ZaH;rw [if_neg (by rw [hnow];simp [q]),hf]
  rw [hr]
  have HV:=zh (fun (w1:World) (hb:Below w.heap.size w w1)=>var?_below (h.below.trans (hb.mono h.below.size)) Tryd.laysC174.m15 (Zhy hv Tryd.laysC174.m15) hv)
  clear h hnow hf e0 hr hv
  go_enter Tryd.func54,Tryd.ntmps54
  go_wp2_with (first
   | (go_at_call 20;(with_reducible refine (NX.out _ (Below.refl _ _)).mono ?_);rintro e1 w1 ⟨rfl,hb⟩)
   | (go_at_call 63;(refine (PN.out _ (HV.out _ hb)).mono ?_);rintro e2 w2 ⟨N,rfl,_,_,hb2'⟩;(have hb2:=hb.trans (hb2'.mono hb.size)))
   | (go_at_call 43;(refine (FL.out _ hb2).mono ?_);rintro e3 w3 ⟨rfl,hb3⟩))
  exact ⟨rfl,FrP.of_below bp (hb2.trans (hb3.mono hb2.size)),fun e=>absurd e (show ¬ (11:Int)=0 by decide),fun _=>rfl⟩
end
section
open Go.RowKit
section
variable {α:Type}
def Za3 (L:List Tok) (M:PS->α×PS) (x:Txt):Nat->List α->PS->List α×PS
 | 0,l,s=>(l,s)
 | f+1,l,s=>if (M s).2.err=0 then (if isM L x (M s).2 then Za3 L M x f (l++[(M s).1]) (Zb (M s).2) else (l++[(M s).1],(M s).2)) else (l++[(M s).1],(M s).2)
def ZhE (w0:World) (bp c:Nat) (ad:Addr) (L:List Tok) (F:Nat) (caps:Array Value) (S:Nat->Prop) (Dom:PS->Prop) (Rel:World->List α->Prop) (M:PS->α×PS):Prop:=
 ∀ (w:World) (s:PS) (l:List α),ParQ w0 w bp ad c L s->Dom s->l.length<=s.at_->Rel w l->Calls Tryd.prog F caps w fun e w'=>
  FrZ S w w'/\((M s).2.err=0->e=.returned (.tuple #[])/\ParQ w0 w' bp ad c L (M s).2/\Dom (M s).2/\s.at_<(M s).2.at_/\Rel w' (l++[(M s).1]))/\((M s).2.err≠0->e=ZaY (M s).2.err (M s).2.fat)
theorem Zeq (F:Nat) (caps:Array Value) (hF:ZN F) (w0 w:World) (bp c:Nat) (ad:Addr) (L:List Tok) (s:PS) (S:Nat->Prop) (Dom:PS->Prop) (Rel:World->List α->Prop) (M:PS->α×PS) (x:Txt) (hx:PW x) (l:List α)
  (hS:S bp) (hRel:∀ w w' l,FrP w w' bp->Rel w l->Rel w' l) (hDom:∀ s,Dom s->isM L x s=true->Dom (Zb s)) (hE:ZhE w0 bp c ad L F caps S Dom Rel M) (h:ParQ w0 w bp ad c L s) (hd:Dom s) (hn:l.length<=s.at_) (hr:Rel w l) :
  Calls Tryd.prog 44 #[.pointer (some ⟨bp,0,none⟩),txt x,.func (.func F) #[] caps] w fun e w'=>
   FrZ S w w'/\((Za3 L M x (L.length+1) l s).2.err=0->e=.returned (.tuple #[])/\ParQ w0 w' bp ad c L (Za3 L M x (L.length+1) l s).2/\Dom (Za3 L M x (L.length+1) l s).2/\s.at_<(Za3 L M x (L.length+1) l s).2.at_/\Rel w' (Za3 L M x (L.length+1) l s).1)/\((Za3 L M x (L.length+1) l s).2.err≠0->e=ZaY (Za3 L M x (L.length+1) l s).2.err (Za3 L M x (L.length+1) l s).2.fat):=by
 obtain ⟨R,hR⟩:∃ R,Za3 L M x (L.length+1) l s=R:=⟨_,rfl⟩
 have hU:Za3 L M x (L.length+1) l s=if (M s).2.err=0 then (if isM L x (M s).2 then Za3 L M x L.length (l++[(M s).1]) (Zb (M s).2) else (l++[(M s).1],(M s).2)) else (l++[(M s).1],(M s).2):=rfl
 rw [hR] at hU ⊢
 have EC:=zh (hE w s l h hd hn hr)
 have H:=zh (zi hS (zi hRel (zi hDom (zi hE (zi hx (zi hF (zi h.lt hn)))))))
 have door:=hF
 unfold ZN at door
 clear hd hr hR hS hRel hE hx hF h hDom hn
 by_cases hz:(M s).2.err=0
 ·rw [if_pos hz] at hU
  have HU:=zh hU
  clear hU
  go_enter Tryd.func44,Tryd.ntmps44
  go_upto_region 1 with (refine EC.out.mono ?_;rintro e2 w2 ⟨hf2,hok,_⟩;obtain ⟨rfl,hP2,hD2,hat,hR2⟩:=hok hz)
  have H2:=zh (zi hf2 (zi hP2 (zi hD2 (zi hat hR2))))
  clear hf2 hP2 hD2 hat hR2 EC hz
  go_loopg [] (L.length-(M s).2.at_) (fun g wr=>∃ (s':PS) (l':List α) (f:Nat),ParQ w0 wr bp ad c L s'/\Dom s'/\Rel wr l'/\R=(if isM L x s' then Za3 L M x f l' (Zb s') else (l',s'))/\L.length-s'.at_<=f/\g=L.length-s'.at_/\s.at_<s'.at_/\FrZ S w wr/\l'.length<=s'.at_)
  case atStart=>exact ⟨(M s).2,_,L.length,H2.out.2.1,H2.out.2.2.1,H2.out.2.2.2.2,HU.out,by omega,rfl,H2.out.2.2.2.1,H2.out.1,by rw [List.length_append,List.length_singleton];have:=H.out.2.2.2.2.2.2.2;have:=H2.out.2.2.2.1;omega⟩
  case round=>
   obtain ⟨s',l',f,hP,hD,hl,hU,hf,hg,hat,hFr,hn⟩:=hrel
   have TK:=zh (Zg w0 wr bp c ad L s' hP x H.out.2.2.2.2.1)
   cases q:isM L x s' with
   | false=>
    have ht:Zad L x s'=(false,s'):=by unfold Zad;rw [if_neg (by simp [q])]
    rw [ht] at TK
    rw [q,if_neg (by simp)] at hU
    have FIN:=zh (zi hU (zi hl (zi hFr (zi hD hat))))
    clear hU hl hFr hP hD hf hg q ht hat hn
    go_wp2_with (go_at_call 21;(refine TK.out.mono ?_);rintro e1 w1 ⟨rfl,hP1,hF1⟩)
    go_end0
    refine ⟨FIN.out.2.2.1.trans (FrZ.of hF1 H.out.1),?_,?_⟩
    ·rw [FIN.out.1]
     exact fun _=>⟨rfl,hP1,FIN.out.2.2.2.1,FIN.out.2.2.2.2,H.out.2.1 _ _ _ hF1 FIN.out.2.1⟩
    ·rw [FIN.out.1]
     exact fun e=>absurd hP1.err e
   | true=>
    have ht:Zad L x s'=(true,Zb s'):=by unfold Zad;rw [if_pos q]
    rw [ht] at TK
    rw [q,if_pos rfl] at hU
    have hD3:=H.out.2.2.1 s' hD q
    have hlt:=hP.lt
    obtain ⟨f,rfl⟩:∃ k,f=k+1:=⟨f-1,by omega⟩
    have hU3:R=if (M (Zb s')).2.err=0 then (if isM L x (M (Zb s')).2 then Za3 L M x f (l'++[(M (Zb s')).1]) (Zb (M (Zb s')).2) else (l'++[(M (Zb s')).1],(M (Zb s')).2)) else (l'++[(M (Zb s')).1],(M (Zb s')).2):=hU
    have FIN:=zh (zi hU3 (zi hl (zi hFr (zi hD3 (zi hat (zi hf (zi hg (zi hlt hn))))))))
    clear hU hU3 hl hFr hP hD hD3 hf hg q ht hat hlt hn
    have hst:(Zb s').at_=s'.at_+1:=rfl
    have hn3:=zh (show l'.length<=(Zb s').at_ by rw [hst];have:=FIN.out.2.2.2.2.2.2.2.2;omega)
    go_upto_region 2 with (go_at_call 21;(refine TK.out.mono ?_);rintro e1 w1 ⟨rfl,hP1,hF1⟩)
    generalize hs3:Zb s'=s3 at *
    have EC:=zh (H.out.2.2.2.1 w1 s3 l' hP1 FIN.out.2.2.2.1 hn3.out (H.out.2.1 _ _ _ hF1 FIN.out.2.1))
    have F1:=zh (FIN.out.2.2.1.trans (FrZ.of hF1 H.out.1))
    clear hP1 hF1 hs3
    by_cases hz:(M s3).2.err=0
    ·go_wp2_with (refine EC.out.mono ?_;rintro e2 w2 ⟨hf2,hok,_⟩;obtain ⟨rfl,hP2,hD2,hat,hR2⟩:=hok hz)
     go_roundg (L.length-(M s3).2.at_)
     case measure=>have:=FIN.out;have:=hP2.lt;omega
     case rel=>exact ⟨(M s3).2,_,f,hP2,hD2,hR2,by have:=FIN.out.1;rwa [if_pos hz] at this,by have:=FIN.out;have:=hP2.lt;omega,rfl,by have:=FIN.out;omega,F1.out.trans hf2,by rw [List.length_append,List.length_singleton];have:=hn3.out;omega⟩
    ·have hRR:R=(l'++[(M s3).1],(M s3).2):=by have:=FIN.out.1;rwa [if_neg hz] at this
     have HRR:=zh hRR
     have HZ:=zh hz
     clear hRR hz
     go_wp2_with (refine EC.out.mono ?_;rintro e2 w2 ⟨hf2,_,hbad⟩;obtain rfl:=hbad HZ.out)
     refine ⟨rfl,F1.out.trans hf2,?_,?_⟩
     ·rw [HRR.out]
      exact fun e=>absurd e HZ.out
     ·rw [HRR.out]
      exact fun _=>rfl
 ·rw [if_neg hz] at hU
  have HU:=zh hU
  have HZ:=zh hz
  clear hU hz
  go_enter Tryd.func44,Tryd.ntmps44
  go_wp2_with (refine EC.out.mono ?_;rintro e2 w2 ⟨hf2,_,hbad⟩;obtain rfl:=hbad HZ.out)
  refine ⟨rfl,hf2,?_,?_⟩
  ·rw [HU.out]
   exact fun e=>absurd e HZ.out
  ·rw [HU.out]
   exact fun _=>rfl
end
end
section
open Go.RowKit
def Zas (L:List Tok) (s:PS):(Int×Int)×PS:=(((ZaH L 1 s).1,(ZaH L 1 (Zd L [47] (ZaH L 1 s).2)).1),(ZaH L 1 (Zd L [47] (ZaH L 1 s).2)).2)
theorem ZF (c:UInt8) (r:Txt) (h1:ZaA c=false) (h2:Zai c=false):PW (c::r):=⟨by simp,Or.inr ⟨c,r,rfl,h1,h2⟩⟩
theorem Zfp (w0 w:World) (bp c:Nat) (ad:Addr) (L:List Tok) (s:PS) (h:ParQ w0 w bp ad c L s) (tp:TypeId) (pv:Value) (hv:w0.var? Tryd.prog "strconv.ErrSyntax"=some #[.iface tp pv]) :
  Calls Tryd.prog 47 #[.pointer (some ⟨bp,0,none⟩)] w (Zbv w0 w bp c ad L (Zas L s) fun x v _=>v=.tuple #[.int .i64 x.1,.int .i64 x.2]):=by
 have C1:=zh (Zcu w0 w bp c ad L s h tp pv hv 1)
 have HV:=zh hv
 obtain ⟨R,hR⟩:∃ R,Zas L s=R:=⟨_,rfl⟩
 have s2:=Zq (L:=L) [47] (ZaH L 1 s).2
 have s3:=Zcf (L:=L) 1 (Zd L [47] (ZaH L 1 s).2)
 rw [hR]
 unfold Zas at hR
 generalize ZaH L 1 s=r1 at *
 generalize hr2:Zd L [47] r1.2=r2 at *
 by_cases z1:r1.2.err=0
 ·by_cases z2:r2.err=0
  ·by_cases z3:(ZaH L 1 r2).2.err=0
   ·have Z:=zh (zi z1 (zi z2 (zi z3 hr2)))
    have hr:=zh hR.symm
    have hz3:=zh z3
    clear s2 s3 z1 z2 z3 h hv hR hr2
    go_enter Tryd.func47,Tryd.ntmps47
    go_wp2_with (first
     | (go_at_call 54;(refine C1.out.mono ?_);rintro e1 w1 ⟨hF1,hok,_⟩;obtain ⟨_,rfl,hP1,rfl⟩:=hok Z.out.1;have C2:=zh (ZZ w0 w1 bp c ad L r1.2 hP1 [47] (ZF _ _ (by decide) (by decide)));clear hok)
     | (go_at_call 33;(refine C2.out.mono ?_);rintro e2 w2 ⟨hF2,hok,_⟩;obtain ⟨_,rfl,hP2,rfl⟩:=hok (by rw [Z.out.2.2.2];exact Z.out.2.1);have C3:=zh (Zcu w0 w2 bp c ad L r2 (by have:=hP2;rwa [Z.out.2.2.2] at this) tp pv HV.out 1);clear hok)
     | (go_at_call 54;(refine C3.out.mono ?_);rintro e3 w3 ⟨hF3,hok,_⟩;obtain ⟨_,rfl,hP3,rfl⟩:=hok hz3.out;clear hok))
    have hr:=hr.out
    subst hr
    exact bodyPost_ret (v:=.tuple #[.int .i64 r1.1,.int .i64 (ZaH L 1 r2).1]) (by simp [results,Tryd.results47,go_sem]) rfl ⟨(hF1.trans hF2).trans hF3,fun _=>⟨_,rfl,hP3,rfl⟩,fun e=>absurd hP3.err e⟩
   ·have Z:=zh (zi z1 (zi z2 (zi z3 hr2)))
    have hr:=zh hR.symm
    have hz3:=zh z3
    clear s2 s3 z1 z2 z3 h hv hR hr2
    go_enter Tryd.func47,Tryd.ntmps47
    go_wp2_with (first
     | (go_at_call 54;(refine C1.out.mono ?_);rintro e1 w1 ⟨hF1,hok,_⟩;obtain ⟨_,rfl,hP1,rfl⟩:=hok Z.out.1;have C2:=zh (ZZ w0 w1 bp c ad L r1.2 hP1 [47] (ZF _ _ (by decide) (by decide)));clear hok)
     | (go_at_call 33;(refine C2.out.mono ?_);rintro e2 w2 ⟨hF2,hok,_⟩;obtain ⟨_,rfl,hP2,rfl⟩:=hok (by rw [Z.out.2.2.2];exact Z.out.2.1);have C3:=zh (Zcu w0 w2 bp c ad L r2 (by have:=hP2;rwa [Z.out.2.2.2] at this) tp pv HV.out 1);clear hok)
     | (go_at_call 54;(refine C3.out.mono ?_);rintro e3 w3 ⟨hF3,_,hbad⟩;obtain rfl:=hbad hz3.out;clear hbad))
    have hr:=hr.out
    subst hr
    exact ⟨rfl,(hF1.trans hF2).trans hF3,fun e=>absurd e hz3.out,fun _=>rfl⟩
  ·have Z:=zh (zi z1 (zi z2 (zi z2 hr2)))
   have hr:=zh (zi hR.symm (s3 z2))
   clear s2 s3 z1 z2 h hv hR hr2
   go_enter Tryd.func47,Tryd.ntmps47
   go_wp2_with (first
    | (go_at_call 54;(refine C1.out.mono ?_);rintro e1 w1 ⟨hF1,hok,_⟩;obtain ⟨_,rfl,hP1,rfl⟩:=hok Z.out.1;have C2:=zh (ZZ w0 w1 bp c ad L r1.2 hP1 [47] (ZF _ _ (by decide) (by decide)));clear hok)
    | (go_at_call 33;(refine C2.out.mono ?_);rintro e2 w2 ⟨hF2,_,hbad⟩;obtain rfl:=hbad (by rw [Z.out.2.2.2];exact Z.out.2.1);clear hbad))
   have hz:=Z.out.2.1
   obtain ⟨hr,h1,h2⟩:=hr.out
   subst hr
   exact ⟨rfl,hF1.trans hF2,fun e=>absurd (h1.symm.trans e) hz,fun _=>by show ZaY (Zd L [47] r1.2).err (Zd L [47] r1.2).fat=ZaY (ZaH L 1 r2).2.err (ZaH L 1 r2).2.fat;rw [h1,h2,Z.out.2.2.2]⟩
 ·have Z:=zh z1
  obtain ⟨a1,a2⟩:=s2 z1
  obtain ⟨b1,b2⟩:=s3 (by rw [a1];exact z1)
  have hr:=zh (zi hR.symm (zi (b1.trans a1) (b2.trans a2)))
  clear s2 s3 z1 h hv hR hr2 a1 a2 b1 b2
  go_enter Tryd.func47,Tryd.ntmps47
  go_wp2_with (go_at_call 54;(refine C1.out.mono ?_);rintro e1 w1 ⟨hF1,_,hbad⟩;obtain rfl:=hbad Z.out;clear hbad)
  have hz:=Z.out
  obtain ⟨hr,h1,h2⟩:=hr.out
  subst hr
  exact ⟨rfl,hF1,fun e=>absurd (h1.symm.trans e) hz,fun _=>by show ZaY r1.2.err r1.2.fat=ZaY (ZaH L 1 r2).2.err (ZaH L 1 r2).2.fat;rw [h1,h2]⟩
end
end Go.Proofs.YtfdgeijnkkdplaaDoor
