import Derived.Test.YtolookeddknmoaaGreatQAX
import Derived.Test.YtolookeddknmoaaGreatQBB
set_option maxRecDepth 100000
set_option maxHeartbeats 8000000
namespace Go.Proofs.YtolookeddknmoaaGreat
section
open Go.RowKit
abbrev Rw:=Int×Trm
def Zt:List (Value×Rw)->List Value
 | []=>[]
 | x::r=>.int .i64 x.2.1::x.1::.int .i64 x.2.2.2.1::.int .i64 x.2.2.2.2::Zt r
theorem ZdG:∀ l,(Zt l).length=l.length*4
 | []=>rfl
 | x::r=>by rw [Zt,List.length_cons,List.length_cons,List.length_cons,List.length_cons,ZdG r,List.length_cons];omega
theorem Zh0:∀ (l:List (Value×Rw)) (k:Nat) (x:Value×Rw),l[k]? = some x->(Zt l)[k*4]? = some (.int .i64 x.2.1)/\(Zt l)[k*4+1]? = some x.1/\(Zt l)[k*4+2]? = some (.int .i64 x.2.2.2.1)/\(Zt l)[k*4+3]? = some (.int .i64 x.2.2.2.2)
 | [],k,x,h=>by simp at h
 | y::r,0,x,h=>by
  obtain rfl:y=x:=by simpa using h
  exact ⟨rfl,rfl,rfl,rfl⟩
 | y::r,k+1,x,h=>by
  rw [List.getElem?_cons_succ] at h
  obtain ⟨a,b,c,d⟩:=Zh0 r k x h
  exact ⟨by rw [show (k+1)*4=k*4+1+1+1+1 by omega];exact a,by rw [show (k+1)*4+1=k*4+1+1+1+1+1 by omega];exact b,by rw [show (k+1)*4+2=k*4+2+1+1+1+1 by omega];exact c,by rw [show (k+1)*4+3=k*4+3+1+1+1+1 by omega];exact d⟩
theorem Ze5:∀ (l m:List (Value×Rw)),Zt (l++m)=Zt l++Zt m
 | [],m=>rfl
 | x::r,m=>by rw [List.cons_append,Zt,Zt,Ze5 r m];rfl
theorem Zg9:∀ (l:List (Value×Rw)) (j:Nat) (u:Value),(Zt l)[j]? = some u->∃ i x,l[i]? = some x/\((j=i*4/\u=.int .i64 x.2.1)\/(j=i*4+1/\u=x.1)\/(j=i*4+2/\u=.int .i64 x.2.2.2.1)\/(j=i*4+3/\u=.int .i64 x.2.2.2.2))
 | [],j,u,h=>by simp [Zt] at h
 | y::r,0,u,h=>⟨0,y,rfl,.inl ⟨rfl,by simpa [Zt] using h.symm⟩⟩
 | y::r,1,u,h=>⟨0,y,rfl,.inr (.inl ⟨rfl,by simpa [Zt] using h.symm⟩)⟩
 | y::r,2,u,h=>⟨0,y,rfl,.inr (.inr (.inl ⟨rfl,by simpa [Zt] using h.symm⟩))⟩
 | y::r,3,u,h=>⟨0,y,rfl,.inr (.inr (.inr ⟨rfl,by simpa [Zt] using h.symm⟩))⟩
 | y::r,j+4,u,h=>by
  have h':(Zt r)[j]? = some u:=by simpa [Zt] using h
  obtain ⟨i,x,hx,hc⟩:=Zg9 r j u h'
  refine ⟨i+1,x,by simpa using hx,?_⟩
  rcases hc with ⟨rfl,e⟩ | ⟨rfl,e⟩ | ⟨rfl,e⟩ | ⟨rfl,e⟩
  ·exact .inl ⟨by omega,e⟩
  ·exact .inr (.inl ⟨by omega,e⟩)
  ·exact .inr (.inr (.inl ⟨by omega,e⟩))
  ·exact .inr (.inr (.inr ⟨by omega,e⟩))
def ZD (w:World) (v:Value) (ts:List Rw):Prop:=
 ∃ A c rs,v=.slice A ts.length c/\ts.length<=c/\c<=maxLen/\rs.map (·.2)=ts/\ZB w w.heap.size 4 A ts.length (Zt rs)/\∀ x∈rs,Zb w x.1 x.2.2.1
theorem ZD.below {w w':World} {v:Value} {ts:List Rw} (h:ZD w v ts) (hb:Below w.heap.size w w'):ZD w' v ts:=by
 obtain ⟨A,c,rs,h1,h2,h3,h4,h5,h6⟩:=h
 exact ⟨A,c,rs,h1,h2,h3,h4,(h5.below hb).more hb.size,fun x hx=>(h6 x hx).below hb⟩
theorem ZD.nil (w:World):ZD w (.slice none 0 0) []:=⟨none,0,[],rfl,Nat.le_refl _,by decide,rfl,ZB.none_,fun x hx=>by cases hx⟩
theorem ZaF {w wr:World} {A:Option Addr} {n k:Nat} {rs:List (Value×Rw)} {x:Value×Rw} (h4:ZB w w.heap.size 4 A n (Zt rs)) (hb:Below w.heap.size w wr) (hx:rs[k]? = some x) (hn:0<n) :
  ∃ ad,A=some ad/\wr.cell? (ad.add (k*4))=some (.int .i64 x.2.1)/\wr.cell? ⟨(ad.add (k*4)).block,(ad.add (k*4)).off+1,none⟩=some x.1/\wr.cell? ⟨(ad.add (k*4)).block,(ad.add (k*4)).off+2,none⟩=some (.int .i64 x.2.2.2.1)/\wr.cell? ⟨(ad.add (k*4)).block,(ad.add (k*4)).off+3,none⟩=some (.int .i64 x.2.2.2.2):=by
 obtain ⟨ad,e,hbk,hc⟩:=h4.2 hn
 obtain ⟨a,b,c,d⟩:=Zh0 rs k x hx
 have d0:=(hb.cell (p:=ad.add (k*4)) (by rw [ZL];exact hbk)).trans (hc _ _ a)
 have d1:=(hb.cell (p:=ad.add (k*4+1)) (by rw [ZL];exact hbk)).trans (hc _ _ b)
 have d2:=(hb.cell (p:=ad.add (k*4+2)) (by rw [ZL];exact hbk)).trans (hc _ _ c)
 have d3:=(hb.cell (p:=ad.add (k*4+3)) (by rw [ZL];exact hbk)).trans (hc _ _ d)
 rw [<- ZcE] at d1 d2 d3
 exact ⟨ad,e,d0,d1,d2,d3⟩
def Zeh (ts:List Rw):Bool:=(ts.all fun t=>decide (t.2.1.length<=12))&&decide (ts.length<=8)
theorem ZiT (w:World) (v:Value) (ts:List Rw) (h:ZD w v ts) :
  Calls Tryz.prog 5 #[v] w fun r w'=>r=.returned (.bool (Zeh ts))/\Below w.heap.size w w':=by
 obtain ⟨A,c,rs,rfl,h2,h3,h4,h5,h6⟩:=h
 obtain ⟨n,hn⟩:∃ n,n=ts.length:=⟨_,rfl⟩
 have hrn:rs.length=n:=by rw [hn,<- h4,List.length_map]
 have hmx:n<=9223372036854775807:=by unfold maxLen at h3;omega
 rw [<- hn] at h2 h5 ⊢
 obtain ⟨V,hV⟩:∃ V,V=Zeh ts:=⟨_,rfl⟩
 rw [<- hV]
 unfold Zeh at hV
 rw [<- hn] at hV
 have HN:=Lib.hid (And.intro hrn (And.intro h4 (And.intro hmx (And.intro h6 (And.intro hV hn)))))
 have H5:=Lib.hid h5
 clear hn hrn h2 h3 h4 h5 h6 hmx hV
 go_enter Tryz.func5,Tryz.ntmps5
 go_wp2_with fail
 go_loopg [3] n (fun g v3 wr=>∃ k:Nat,v3=.int .i64 k/\k<=n/\g=n-k/\((ts.take k).all fun t=>decide (t.2.1.length<=12))=true/\Below w.heap.size w wr)
 case atStart=>exact ⟨0,rfl,Nat.zero_le _,rfl,rfl,Below.refl _ _⟩
 case round=>
  obtain ⟨k,rfl,hk,hg,hall,hb⟩:=hrel
  by_cases hkn:k=n
  ·have hv:=HN.out.2.2.2.2.1
   have e:ts.take k=ts:=by rw [hkn,HN.out.2.2.2.2.2];exact List.take_length
   rw [e] at hall
   rw [hall,Bool.true_and] at hv
   have HB:=Lib.hid hb
   subst hkn
   have i1:¬ (k:Int)<(k:Int):=by omega
   have ee:decide ((k:Int)<=8)=V:=by rw [hv];exact decide_eq_decide.2 (by omega)
   clear hk hg hall hb e hv
   go_wp2_with fail
   go_ret
   exact ⟨by rw [<- ee];rfl,HB.out⟩
  ·have hlt:k<n:=by omega
   obtain ⟨x,hx⟩:∃ x,rs[k]? = some x:=⟨_,List.getElem?_eq_getElem (by have:=HN.out.1;omega)⟩
   obtain ⟨ad,rfl,d0,d1,d2,d3⟩:=ZaF H5.out hb hx (by omega)
   have hr:=(HN.out.2.2.2.1 x (List.mem_of_getElem? hx)).below hb
   have sm:=Zhb wr x.1 x.2.2.1 x.2.2.2.1 x.2.2.2.2 hr
   have hxt:ts[k]? = some x.2:=by rw [<- HN.out.2.1,List.getElem?_map,hx];rfl
   have nxt:=Zo9 (f:=fun t:Rw=>decide (t.2.1.length<=12)) hxt hall
   have bad:=Zqe (f:=fun t:Rw=>decide (t.2.1.length<=12)) hxt
   have i1:(k:Int)<(n:Int):=by omega
   have i2:(0:Int)<=(k:Int):=by omega
   have wk:IntKind.i64.wrap ((k:Int)+1)=(k:Int)+1:=IntWalk.i64_in _ (by have:=HN.out.2.2.1;omega)
   generalize decide (x.2.2.1.length<=12)=R at *
   obtain ⟨x0,xo,x2,x3,x4⟩:=x
   dsimp only at *
   have HB:=Lib.hid hb
   have HK:=Lib.hid (And.intro hlt hg)
   cases R
   ·have hv:=HN.out.2.2.2.2.1
    rw [bad rfl,Bool.false_and] at hv
    subst hv
    have SM:=Lib.hid sm
    clear hr hxt nxt bad hx hkn hlt hk hg hall hb sm
    go_wp2_with (go_at_call 6;(with_reducible refine SM.out.mono ?_);rintro e w1 ⟨rfl,hb1⟩)
    go_ret
    exact ⟨rfl,HB.out.trans (hb1.mono HB.out.size)⟩
   ·have SM:=Lib.hid sm
    have NX:=Lib.hid nxt
    clear hr hxt nxt bad hx hkn hlt hk hg hall hb sm
    go_wp2_with (go_at_call 6;(with_reducible refine SM.out.mono ?_);rintro e w1 ⟨rfl,hb1⟩)
    go_roundg (n-(k+1))
    case measure=>have:=HK.out;omega
    case rel=>exact ⟨k+1,by push_cast;rfl,by have:=HK.out;omega,rfl,NX.out,HB.out.trans (hb1.mono HB.out.size)⟩
def Zcq (op n:Int):Bool:=if op=0 then n==0 else if op=1 then decide (0<=n) else if op=2 then decide (0<n) else false
theorem ZmG (w:World) (op n d:Int) :
  Calls Tryz.prog 25 #[.int .i64 op,Ze n d] w fun r w'=>r=.returned (.bool (Zcq op n))/\Below w.heap.size w w':=by
 have hb:=Za w (.cells #[.int .i64 n,.int .i64 d] 25)
 have HB:=Lib.hid hb
 clear hb
 unfold Zcq
 by_cases h0:op=0
 ·subst h0
  go_enter Tryz.func25,Tryz.ntmps25
  go_wp2_with fail
  go_ret
  exact ⟨rfl,HB.out⟩
 ·have e0:(op==0)=false:=by simpa using h0
  rw [if_neg h0]
  by_cases h1:op=1
  ·subst h1
   clear h0 e0
   go_enter Tryz.func25,Tryz.ntmps25
   go_wp2_with fail
   go_ret
   exact ⟨rfl,HB.out⟩
  ·have e1:(op==1)=false:=by simpa using h1
   rw [if_neg h1]
   by_cases h2:op=2
   ·subst h2
    clear h0 e0 h1 e1
    go_enter Tryz.func25,Tryz.ntmps25
    go_wp2_with fail
    go_ret
    exact ⟨rfl,HB.out⟩
   ·have e2:(op==2)=false:=by simpa using h2
    rw [if_neg h2]
    clear h0 h1 h2
    go_enter Tryz.func25,Tryz.ntmps25
    go_wp2_with fail
    go_ret
    exact ⟨rfl,HB.out⟩
end
section
open Go.RowKit
theorem ZkG (w:World) (x:Int×Int) (h:OkR x) :
  Calls Tryz.prog 55 #[Ze x.1 x.2] w fun r w'=>r=.returned (Ze (ZA x).1 (ZA x).2)/\Below w.heap.size w w':=by
 have b:=h.wide
 have wn:IntKind.i64.wrap (-x.1)=-x.1:=IntWalk.i64_in _ (by obtain ⟨d,e,v⟩:=h;have:=v.n_le;omega)
 clear b h
 obtain ⟨n,d⟩:=x
 dsimp only at *
 unfold ZA
 go_enter Tryz.func55,Tryz.ntmps55
 go_wp2_with fail
 exact bodyPost_ret (v:=Ze (-n) d) (by simp [results,Tryz.results55,go_sem]) rfl ⟨rfl,ZI w _ _⟩
theorem Za7 (w:World) (n:Int) :
  Calls Tryz.prog 14 #[.int .i64 n] w fun r w'=>r=.returned (Ze n 1)/\Below w.heap.size w w':=by
 go_enter Tryz.func14,Tryz.ntmps14
 go_wp2_with fail
 exact bodyPost_ret (v:=Ze n 1) (by simp [results,Tryz.results14,go_sem]) rfl ⟨rfl,Za w _⟩
def ZP (r:Rw):Bool:=!(r.1==0||r.1==1||r.1==2)||ZW r.2
theorem Zeq (w:World) (v:Value) (r:Rw) (h:Zb w v r.2.1) (hw:Zv r.2.1) (hk:Bd r.2.2) :
  Calls Tryz.prog 12 #[.agg #[.int .i64 r.1,v,.int .i64 r.2.2.1,.int .i64 r.2.2.2]] w fun e w'=>e=.returned (.bool (ZP r))/\Below w.heap.size w w':=by
 obtain ⟨op,l,kn,kd⟩:=r
 dsimp only at *
 have a:=Za w (.cells #[.int .i64 op,v,.int .i64 kn,.int .i64 kd] 29)
 have rt:=ZbN (w.alloc (.cells #[.int .i64 op,v,.int .i64 kn,.int .i64 kd] 29)) v l kn kd (h.below a) hw hk.1.1 hk.1.2 hk.2.1 hk.2.2
 have RT:=Lib.hid rt
 have HA:=Lib.hid a
 clear rt a hw hk
 obtain ⟨A,c,rfl⟩:=Zd h
 clear h
 unfold ZP ZW
 dsimp only
 generalize ZO l kn kd=R at *
 have end_:∀ (e:Ending) (w':World) (B:Bool),(e=.returned (.bool B)/\Below (w.alloc (.cells #[.int .i64 op,.slice A l.length c,.int .i64 kn,.int .i64 kd] 29)).heap.size (w.alloc (.cells #[.int .i64 op,.slice A l.length c,.int .i64 kn,.int .i64 kd] 29)) w')->e=.returned (.bool B)/\Below w.heap.size w w':=fun e w' B q=>⟨q.1,HA.out.trans (q.2.mono HA.out.size)⟩
 clear end_
 by_cases h0:op=0
 ·have e0:(op != 0)=false:=by rw [h0];rfl
  have v0:(op==0)=true:=by rw [h0];rfl
  rw [v0]
  simp only [Bool.true_or,Bool.not_true,Bool.false_or]
  clear h0 v0
  go_enter Tryz.func12,Tryz.ntmps12
  go_wp2_with (go_at_call 33;(with_reducible refine RT.out.mono ?_);rintro e w1 ⟨rfl,hb⟩)
  go_ret
  exact ⟨rfl,HA.out.trans (hb.mono HA.out.size)⟩
 ·have e0:(op != 0)=true:=by simpa using h0
  have v0:(op==0)=false:=by simpa using h0
  rw [v0]
  by_cases h1:op=1
  ·have e1:(op != 1)=false:=by rw [h1];rfl
   have v1:(op==1)=true:=by rw [h1];rfl
   rw [v1]
   simp only [Bool.true_or,Bool.or_true,Bool.not_true,Bool.false_or]
   clear h0 h1 v0 v1
   go_enter Tryz.func12,Tryz.ntmps12
   go_wp2_with (go_at_call 33;(with_reducible refine RT.out.mono ?_);rintro e w1 ⟨rfl,hb⟩)
   go_ret
   exact ⟨rfl,HA.out.trans (hb.mono HA.out.size)⟩
  ·have e1:(op != 1)=true:=by simpa using h1
   have v1:(op==1)=false:=by simpa using h1
   rw [v1]
   by_cases h2:op=2
   ·have e2:(op != 2)=false:=by rw [h2];rfl
    have v2:(op==2)=true:=by rw [h2];rfl
    rw [v2]
    simp only [Bool.or_true,Bool.not_true,Bool.false_or]
    clear h0 h1 h2 v0 v1 v2
    go_enter Tryz.func12,Tryz.ntmps12
    go_wp2_with (go_at_call 33;(with_reducible refine RT.out.mono ?_);rintro e w1 ⟨rfl,hb⟩)
    go_ret
    exact ⟨rfl,HA.out.trans (hb.mono HA.out.size)⟩
   ·have e2:(op != 2)=true:=by simpa using h2
    have v2:(op==2)=false:=by simpa using h2
    rw [v2]
    simp only [Bool.or_false,Bool.not_false,Bool.true_or]
    clear h0 h1 h2 v0 v1 v2 RT
    go_enter Tryz.func12,Tryz.ntmps12
    go_wp2_with fail
    go_ret
    exact ⟨rfl,HA.out⟩
section
variable {H:Type} {enc:TypeId×Value->H} {w:World} {base:Nat} {spare:Nat->Bool} {held:Bool}
theorem ZhU {fuel:Nat} {cs:List Value} {x:DataW H×List MemPlace} (hl:cs.length=4) (h:DataW.trod enc Tryz.prog w base spare held fuel 29 cs=some x) :
  ∃ op s l kn kd,cs=[.int .i64 op,s,.int .i64 kn,.int .i64 kd]/\Zb w s l/\Zv l/\Bd (kn,kd)/\(-9223372036854775808<=op/\op<=9223372036854775807):=by
 have hI:Tryz.prog.cellsOf 3=1:=by kernel_rfl
 have hT:Tryz.prog.cellsOf 27=3:=by kernel_rfl
 match cs,hl with
 | [c0,c1,c2,c3],_=>
  obtain ⟨xs,n,_,_,_,hlen,hg⟩:=DataW.trod_struct Tryz.underlying29 h
  match xs,hlen with
  | [y0,y1],_=>
   have g0:=hg 0 _ rfl
   have g1:=hg 1 _ rfl
   simp [hI,hT] at g0 g1
   obtain ⟨n0,e0,_,w0⟩:=DataW.trod_int Tryz.underlying3 g0
   obtain ⟨s,l,kn,kd,e1,hr,hw,hn,hd⟩:=Zl2 rfl g1
   simp only [List.cons.injEq,and_true] at e0 e1
   obtain ⟨rfl,rfl,rfl⟩:=e1
   subst e0
   exact ⟨n0,c1,l,kn,kd,rfl,hr,hw,⟨hn,hd⟩,Zhr w0⟩
end
end
section
open Go.RowKit Go.WideShapes Go.ChangeShapes Go.ChangeAt Go.Joins Go.Deep
def ZX (r:Rw):Prop:=Zv r.2.1/\Bd r.2.2/\(-9223372036854775808<=r.1/\r.1<=9223372036854775807)
section
variable {H:Type} {enc:TypeId×Value->H} {w:World} {base:Nat} {spare:Nat->Bool} {held:Bool}
theorem ZpG {b0:Nat} {r:Reach} {v:Value} {d:DataW H} {p:List MemPlace} (hv:Value.okWide Tryz.prog w r b0 29 v) (h:DataW.Trod enc Tryz.prog w base spare held 29 v d p) :
  ∃ (s:Value) (r:Rw),v=.agg #[.int .i64 r.1,s,.int .i64 r.2.2.1,.int .i64 r.2.2.2]/\Zb w s r.2.1/\ZX r:=by
 obtain ⟨⟨cs⟩,rfl,hsz⟩:=okWide_struct Tryz.underlying29 hv
 have hC:Tryz.prog.cellsOf 29=4:=by kernel_rfl
 obtain ⟨fuel,hf⟩:=h
 obtain ⟨op,s,l,kn,kd,e,hr,hw,hk,ho⟩:=ZhU (hsz.trans hC) (by simpa [Value.cells] using hf)
 have e:cs=_:=e
 subst e
 exact ⟨s,(op,l,kn,kd),rfl,hr,hw,hk,ho⟩
theorem Zop {b0:Nat} {r:Reach} {v:Value} {d:DataW H} {p:List MemPlace} (hv:Value.okWide Tryz.prog w r b0 22 v) (h:DataW.Trod enc Tryz.prog w base spare held 22 v d p):∃ ts,ZD w v ts/\∀ t∈ts,ZX t:=by
 obtain ⟨a,len,cap,rfl⟩:=okWide_slice Tryz.underlying22 hv
 obtain ⟨fuel,hf⟩:=h
 have hC:Tryz.prog.cellsOf 29=4:=by kernel_rfl
 rcases open_slice Tryz.underlying22 (by simpa [Value.cells] using hf) with ⟨hc,_⟩ | ⟨ad,len',cap',m,n,D,Pl,hc,hb,hl,hm,hmm,_,hi⟩
 ·obtain ⟨rfl,rfl,rfl⟩:a=none/\len=0/\cap=0:=by simpa using hc
  exact ⟨[],ZD.nil w,fun x hx=>by cases hx⟩
 ·obtain ⟨rfl,rfl,rfl⟩:a=some ad/\len=len'/\cap=cap':=by simpa using hc
  have hlm:len<=m:=by rw [hmm];split<;>omega
  rw [hC] at hi
  have each:∀ i,i<len->∃ q:Value×Rw,(w.cell? (ad.add (i*4))=some (.int .i64 q.2.1)/\w.cell? (ad.add (i*4+1))=some q.1/\w.cell? (ad.add (i*4+2))=some (.int .i64 q.2.2.2.1)/\w.cell? (ad.add (i*4+3))=some (.int .i64 q.2.2.2.2))/\Zb w q.1 q.2.2.1/\ZX q.2:=by
   intro i hil
   obtain ⟨cs',h1,h2⟩:=hi i (by omega)
   obtain ⟨_,hcl,hat⟩:=World.cells?_some h1
   obtain ⟨op,s,l,kn,kd,e,hr,hw,hk,ho⟩:=ZhU hcl h2
   subst e
   have g0:=hat 0 (by omega)
   have g1:=hat 1 (by omega)
   have g2:=hat 2 (by omega)
   have g3:=hat 3 (by omega)
   rw [ZcE] at g0 g1 g2 g3
   exact ⟨(s,op,l,kn,kd),⟨g0,g1,g2,g3⟩,hr,hw,hk,ho⟩
  obtain ⟨q,hq⟩:=choose_lt each
  have hlen:((List.range len).map fun i=>(q i).2).length=len:=by simp
  refine ⟨(List.range len).map fun i=>(q i).2,⟨some ad,cap,(List.range len).map q,by rw [hlen],by rw [hlen];exact hl,hm,by rw [List.map_map];rfl,?_,fun x hx=>?_⟩,fun t ht=>?_⟩
  ·rw [hlen]
   refine ⟨by rw [ZdG,List.length_map,List.length_range],fun hn=>⟨ad,rfl,?_,fun j u hu=>?_⟩⟩
   ·have:=World.block_lt_of_cell? _ _ (hq 0 hn).1.1
    rwa [ZL] at this
   ·obtain ⟨i,x,hx,hc⟩:=Zg9 _ j u hu
    rw [List.getElem?_map] at hx
    have hil:i<len:=by
     rcases Nat.lt_or_ge i len with g | g
     ·exact g
     ·rw [List.getElem?_eq_none (by simpa using g)] at hx;cases hx
    rw [List.getElem?_range hil] at hx
    obtain rfl:q i=x:=by simpa using hx
    rcases hc with ⟨rfl,rfl⟩ | ⟨rfl,rfl⟩ | ⟨rfl,rfl⟩ | ⟨rfl,rfl⟩
    ·exact (hq i hil).1.1
    ·exact (hq i hil).1.2.1
    ·exact (hq i hil).1.2.2.1
    ·exact (hq i hil).1.2.2.2
  ·obtain ⟨i,hil,rfl⟩:=List.mem_map.1 hx
   exact (hq i (List.mem_range.1 hil)).2.1
  ·obtain ⟨i,hil,rfl⟩:=List.mem_map.1 ht
   exact (hq i (List.mem_range.1 hil)).2.2
end
end
section
def ZbW (s:Bool) (a b:Rat):Prop:=if s then a<b else a<=b
theorem Zpb {s:Bool} {a b:Rat} (h:ZbW s a b):a<=b:=by
 cases s
 ·exact h
 ·exact Rat.le_of_lt h
theorem Zok:∀ (l:List (Bool×Rat)),l≠[]->∃ m∈l,∀ a∈l,a.2<=m.2
 | [],h=>absurd rfl h
 | [a],_=>⟨a,by simp,fun b hb=>by
  obtain rfl:=List.mem_singleton.1 hb
  exact Rat.le_refl⟩
 | a::b::r,_=>by
  obtain ⟨m,hm,h⟩:=Zok (b::r) (by simp)
  rcases Rat.le_total (a:=a.2) (b:=m.2) with g | g
  ·refine ⟨m,List.mem_cons_of_mem _ hm,fun c hc=>?_⟩
   rcases List.mem_cons.1 hc with rfl | hc
   ·exact g
   ·exact h c hc
  ·refine ⟨a,by simp,fun c hc=>?_⟩
   rcases List.mem_cons.1 hc with rfl | hc
   ·exact Rat.le_refl
   ·exact Rat.le_trans (h c hc) g
theorem Zk3:∀ (l:List (Bool×Rat)),l≠[]->∃ m∈l,∀ a∈l,m.2<=a.2
 | [],h=>absurd rfl h
 | [a],_=>⟨a,by simp,fun b hb=>by
  obtain rfl:=List.mem_singleton.1 hb
  exact Rat.le_refl⟩
 | a::b::r,_=>by
  obtain ⟨m,hm,h⟩:=Zk3 (b::r) (by simp)
  rcases Rat.le_total (a:=m.2) (b:=a.2) with g | g
  ·refine ⟨m,List.mem_cons_of_mem _ hm,fun c hc=>?_⟩
   rcases List.mem_cons.1 hc with rfl | hc
   ·exact g
   ·exact h c hc
  ·refine ⟨a,by simp,fun c hc=>?_⟩
   rcases List.mem_cons.1 hc with rfl | hc
   ·exact Rat.le_refl
   ·exact Rat.le_trans g (h c hc)
theorem Zf6 {s:Bool} {a b:Rat} (h:a<b):ZbW s a b:=by
 cases s
 ·exact Rat.le_of_lt h
 ·exact h
theorem Zja (lo hi:List (Bool×Rat)) (h:∀ a∈lo,∀ b∈hi,ZbW (a.1||b.1) a.2 b.2):∃ x,(∀ a∈lo,ZbW a.1 a.2 x)/\∀ b∈hi,ZbW b.1 x b.2:=by
 by_cases hl:lo=[]
 ·subst hl
  by_cases hh:hi=[]
  ·subst hh
   exact ⟨0,fun a ha=>(by cases ha),fun b hb=>(by cases hb)⟩
  ·obtain ⟨m,_,hm⟩:=Zk3 hi hh
   exact ⟨m.2-1,fun a ha=>(by cases ha),fun b hb=>Zf6 (by have:=hm b hb;grind)⟩
 ·obtain ⟨M,hM,hm⟩:=Zok lo hl
  by_cases hh:hi=[]
  ·subst hh
   exact ⟨M.2+1,fun a ha=>Zf6 (by have:=hm a ha;grind),fun b hb=>(by cases hb)⟩
  ·obtain ⟨N,hN,hn⟩:=Zk3 hi hh
   have hMN:=Zpb (h M hM N hN)
   by_cases e:M.2=N.2
   ·refine ⟨M.2,fun a ha=>?_,fun b hb=>?_⟩
    ·have:=h a ha N hN
     rw [<- e] at this
     cases q:a.1 with
     | false=>exact hm a ha
     | true=>rw [q] at this;exact this
    ·have:=h M hM b hb
     cases q:b.1 with
     | false=>rw [e];exact hn b hb
     | true=>rw [q,Bool.or_true] at this;exact this
   ·have lt:M.2<N.2:=by grind
    exact ⟨(M.2+N.2) / 2,fun a ha=>Zf6 (by have:=hm a ha;grind),fun b hb=>Zf6 (by have:=hn b hb;grind)⟩
abbrev Lin:=(Nat->Rat)×Rat
def lv (c ρ:Nat->Rat):Nat->Rat
 | 0=>0
 | n+1=>lv c ρ n+c n*ρ n
def Zby (f:Lin) (ρ:Nat->Rat):Rat:=lv f.1 ρ 8+f.2
def upd (ρ:Nat->Rat) (v:Nat) (x:Rat):Nat->Rat:=fun i=>if i=v then x else ρ i
theorem Zoj (c ρ:Nat->Rat) (v:Nat) (x:Rat):∀ n:Nat,lv c (upd ρ v x) n=lv c ρ n+if v<n then c v*(x-ρ v) else 0
 | 0=>by simp only [lv,Nat.not_lt_zero,if_false];grind
 | n+1=>by
  rw [lv,lv,Zoj c ρ v x n]
  unfold upd
  by_cases h:n=v
  ·subst h
   rw [if_pos rfl,if_neg (by omega),if_pos (by omega)]
   grind
  ·rw [if_neg h]
   by_cases g:v<n
   ·rw [if_pos g,if_pos (by omega)];grind
   ·rw [if_neg g,if_neg (by omega)];grind
theorem Zin (f:Lin) (ρ:Nat->Rat) {v:Nat} (hv:v<8) (x:Rat):Zby f (upd ρ v x)=Zby f ρ+f.1 v*(x-ρ v):=by
 unfold Zby
 rw [Zoj,if_pos hv]
 grind
theorem Zoh (a b c ρ:Nat->Rat) (h:∀ i,c i=a i+b i):∀ n,lv c ρ n=lv a ρ n+lv b ρ n
 | 0=>by simp only [lv];grind
 | n+1=>by rw [lv,lv,lv,Zoh a b c ρ h n,h n];grind
theorem Zoi (a c ρ:Nat->Rat) (k:Rat) (h:∀ i,c i=a i*k):∀ n,lv c ρ n=lv a ρ n*k
 | 0=>by simp only [lv];grind
 | n+1=>by rw [lv,lv,Zoi a c ρ k h n,h n];grind
theorem Zpv {a b c:Lin} (h:∀ i,c.1 i=a.1 i+b.1 i) (hk:c.2=a.2+b.2) (ρ:Nat->Rat):Zby c ρ=Zby a ρ+Zby b ρ:=by
 unfold Zby
 rw [Zoh a.1 b.1 c.1 ρ h,hk]
 grind
theorem Zpw {a c:Lin} {k:Rat} (h:∀ i,c.1 i=a.1 i*k) (hk:c.2=a.2*k) (ρ:Nat->Rat):Zby c ρ=Zby a ρ*k:=by
 unfold Zby
 rw [Zoi a.1 c.1 ρ k h,hk]
 grind
def Zca (r:Bool×Lin) (ρ:Nat->Rat):Prop:=ZbW r.1 0 (Zby r.2 ρ)
theorem Zlo {r:Bool×Lin} {ρ:Nat->Rat} {v:Nat} (hv:v<8) (h:r.2.1 v=0) (x:Rat):Zca r (upd ρ v x)↔Zca r ρ:=by
 unfold Zca
 rw [Zin _ _ hv,h,show Zby r.2 ρ+0*(x-ρ v)=Zby r.2 ρ by grind]
theorem Zob {O Lo Up:List (Bool×Lin)} {ρ:Nat->Rat} {v:Nat} (hv:v<8) (hO:∀ r∈O,r.2.1 v=0) (hL:∀ r∈Lo,r.2.1 v=1) (hU:∀ r∈Up,r.2.1 v=-1)
  (h1:∀ r∈O,Zca r ρ) (h2:∀ a∈Lo,∀ b∈Up,ZbW (a.1||b.1) 0 (Zby a.2 ρ+Zby b.2 ρ)):∃ x,(∀ r∈O,Zca r (upd ρ v x))/\(∀ r∈Lo,Zca r (upd ρ v x))/\∀ r∈Up,Zca r (upd ρ v x):=by
 obtain ⟨x,hx,hy⟩:=Zja (Lo.map fun r=>(r.1,ρ v-Zby r.2 ρ)) (Up.map fun r=>(r.1,ρ v+Zby r.2 ρ)) (fun a ha b hb=>by
  obtain ⟨r,hr,rfl⟩:=List.mem_map.1 ha
  obtain ⟨t,ht,rfl⟩:=List.mem_map.1 hb
  have:=h2 r hr t ht
  unfold ZbW at this ⊢
  dsimp only
  split
  ·rename_i g;rw [if_pos g] at this;grind
  ·rename_i g;rw [if_neg g] at this;grind)
 refine ⟨x,fun r hr=>(Zlo hv (hO r hr) x).2 (h1 r hr),fun r hr=>?_,fun r hr=>?_⟩
 ·have:=hx _ (List.mem_map_of_mem hr)
  unfold Zca
  rw [Zin _ _ hv,hL r hr]
  unfold ZbW at this ⊢
  dsimp only at this
  split
  ·rename_i g;rw [if_pos g] at this;grind
  ·rename_i g;rw [if_neg g] at this;grind
 ·have:=hy _ (List.mem_map_of_mem hr)
  unfold Zca
  rw [Zin _ _ hv,hU r hr]
  unfold ZbW at this ⊢
  dsimp only at this
  split
  ·rename_i g;rw [if_pos g] at this;grind
  ·rename_i g;rw [if_neg g] at this;grind
theorem Zpn {a b:Bool×Lin} {ρ:Nat->Rat} (ha:Zca a ρ) (hb:Zca b ρ):ZbW (a.1||b.1) 0 (Zby a.2 ρ+Zby b.2 ρ):=by
 unfold Zca ZbW at *
 cases qa:a.1<;>cases qb:b.1<;>simp only [qa,qb,Bool.or_true,Bool.or_false,if_true,Bool.false_eq_true,if_false] at*<;> grind
theorem ZpP {r t:Bool×Lin} {k:Rat} (hk:0<k) (h1:t.1=r.1) (h2:∀ i,t.2.1 i=r.2.1 i*k) (h3:t.2.2=r.2.2*k) (ρ:Nat->Rat):Zca t ρ↔Zca r ρ:=by
 unfold Zca ZbW
 rw [h1,Zpw h2 h3]
 split
 ·constructor
  ·intro h
   rcases Rat.le_total (a:=Zby r.2 ρ) (b:=0) with g | g
   ·exfalso
    have:Zby r.2 ρ*k<=0:=by
     have:=Rat.mul_le_mul_of_nonneg_right g (Rat.le_of_lt hk)
     grind
    grind
   ·by_cases e:Zby r.2 ρ=0
    ·rw [e] at h;grind
    ·grind
  ·intro h
   exact Rat.mul_pos h hk
 ·constructor
  ·intro h
   rcases Rat.le_total (a:=0) (b:=Zby r.2 ρ) with g | g
   ·exact g
   ·by_cases e:Zby r.2 ρ=0
    ·rw [e];exact Rat.le_refl
    ·exfalso
     have:0<(- Zby r.2 ρ)*k:=Rat.mul_pos (by grind) hk
     grind
  ·intro h
   exact Rat.mul_nonneg h (Rat.le_of_lt hk)
end
section
open Go.RowKit
def ZaL (t:Trm) (b:Int×Int):Option Trm:=if (Zh t.1 t.2 b).2.2=0 then some ((Zh t.1 t.2 b).1,(Zh t.1 t.2 b).2.1) else none
def Zcc (t u:Trm):Option Trm:=if (ZaQ t.1 u.1 t.2 u.2).2.2=0 then some ((ZaQ t.1 u.1 t.2 u.2).1,(ZaQ t.1 u.1 t.2 u.2).2.1) else none
theorem ZnW (f:Int->Rat) (g:Int->Rat) (h1:∀ i,i<0->f i=g i) (h2:∀ n:Nat,f n=g n):∀ i,f i=g i:=fun i=>by
 rcases ZgW i 0 with hi | hi
 ·exact h1 i hi
 ·obtain ⟨n,rfl⟩:∃ n:Nat,i=n:=⟨i.toNat,by omega⟩
  exact h2 n
theorem Zis {t u:Trm} {b:Int×Int} (ht:TrmOk t) (hb:OkR b) (h:ZaL t b=some u):(∀ i:Int,co u i=co t i*q b)/\q u.2=q t.2*q b:=by
 unfold ZaL at h
 split at h
 ·rename_i g
  obtain rfl:=Option.some.inj h
  obtain ⟨_,_,_,_,P⟩:=Zcm ht.ok.wide ht.k.wide hb.wide g
  have part:∀ (x m:Int×Int),OkR x->(ZT x b).2=0->m=(ZT x b).1->q m=q x*q b:=by
   intro x m ox e1 e2
   obtain ⟨_,qm⟩:=ZiN ox hb e1
   rw [e2,qm]
  refine ⟨ZnW _ _ (fun i hi=>?_) fun n=>part _ _ (ht.ok.at n) (P.at_ n).1 (P.at_ n).2,part _ _ ht.k P.k.1 P.k.2⟩
  rw [ZcV hi,ZcV hi]
  grind
 ·cases h
theorem ZnT {t u r:Trm} (ht:TrmOk t) (hu:TrmOk u) (h:Zcc t u=some r):(∀ i:Int,co r i=co t i+co u i)/\q r.2=q t.2+q u.2:=by
 unfold Zcc at h
 split at h
 ·rename_i g
  obtain rfl:=Option.some.inj h
  obtain ⟨_,_,_,_,_,_,P⟩:=Zc8 ht.ok.wide hu.ok.wide ht.k.wide hu.k.wide g
  have part:∀ (x y m:Int×Int),OkR x->OkR y->(Zo x y).2=0->m=(Zo x y).1->q m=q x+q y:=by
   intro x y m ox oy e1 e2
   obtain ⟨_,qm⟩:=ZkC ox oy e1
   rw [e2,qm]
  refine ⟨ZnW _ _ (fun i hi=>?_) fun n=>part _ _ _ (ht.ok.at n) (hu.ok.at n) (P.at_ n).1 (P.at_ n).2,part _ _ _ ht.k hu.k P.k.1 P.k.2⟩
  rw [ZcV hi,ZcV hi,ZcV hi]
  grind
 ·cases h
end
section
open Go.RowKit
theorem ZjX {t u:Trm} {b:Int×Int} (ht:TrmOk t) (hb:OkR b) (h:ZaL t b=some u):TrmOk u:=by
 unfold ZaL at h
 split at h
 ·rename_i g
  obtain rfl:=Option.some.inj h
  obtain ⟨_,_,_,_,P⟩:=Zcm ht.ok.wide ht.k.wide hb.wide g
  exact ⟨P.ok,P.okk,P.len⟩
 ·cases h
theorem Zmt {t u r:Trm} (ht:TrmOk t) (hu:TrmOk u) (h:Zcc t u=some r):TrmOk r:=by
 unfold Zcc at h
 split at h
 ·rename_i g
  obtain rfl:=Option.some.inj h
  obtain ⟨_,_,_,_,_,_,P⟩:=Zc8 ht.ok.wide hu.ok.wide ht.k.wide hu.k.wide g
  exact ⟨P.ok,P.okk,P.len⟩
 ·cases h
def ZbC (x:Int×Int):Int×Int:=(x.2,(x.1.natAbs:Int))
theorem Zgc {x:Int×Int} (h:OkR x) (hn:x.1≠0):OkR (ZbC x):=by
 have:=ZeD h hn
 obtain ⟨d,e,v⟩:=h
 refine ⟨x.1.natAbs,rfl,by omega,?_,?_,?_⟩
 ·have:=v.n_le;omega
 ·unfold ZbC;have:=v.d_le;rw [e];omega
 ·unfold ZbC
  show Nat.gcd x.2.natAbs x.1.natAbs=1
  have:=v.low
  rw [e,Int.natAbs_natCast,Nat.gcd_comm]
  exact this
theorem Zd7 {a b:Rat} (ha:0<a) (hb:0<b):0<a / b:=(Rat.lt_div_iff hb).2 (by grind)
theorem Znj {x:Int×Int} (h:OkR x) (hn:0<x.1):q (ZbC x)*q x=1/\0<q (ZbC x)/\0<q x:=by
 obtain ⟨d,e,v⟩:=id h
 have a:=h.ne
 have hd:0<(x.2:Rat):=by rw [e];exact_mod_cast v.pos
 have hx:0<(x.1:Rat):=by exact_mod_cast hn
 have ee:((x.1.natAbs:Int):Rat)=(x.1:Rat):=by
  have:(x.1.natAbs:Int)=x.1:=by omega
  rw [this]
 have p1:0<q x:=by unfold q;exact Zd7 hx hd
 have p2:0<q (ZbC x):=by unfold q ZbC;dsimp only;rw [ee];exact Zd7 hd hx
 refine ⟨?_,p2,p1⟩
 unfold q ZbC
 dsimp only
 rw [ee]
 grind
theorem Zni {x:Int×Int} (h:OkR x) (hn:x.1<0):q x*q (ZbC x)=-1/\0<q (ZbC x)/\q x<0:=by
 obtain ⟨d,e,v⟩:=id h
 have a:=h.ne
 have hd:0<(x.2:Rat):=by rw [e];exact_mod_cast v.pos
 have hx:0 < -(x.1:Rat):=by
  have:0 < -x.1:=by omega
  have:(0:Rat)<((-x.1:Int):Rat):=by exact_mod_cast this
  push_cast at this
  exact this
 have ee:((x.1.natAbs:Int):Rat)=-(x.1:Rat):=by
  have:(x.1.natAbs:Int)=-x.1:=by omega
  rw [this]
  push_cast
  rfl
 have p1:0 < -(q x):=by
  have:=Zd7 hx hd
  unfold q
  grind
 have p2:0<q (ZbC x):=by unfold q ZbC;dsimp only;rw [ee];exact Zd7 hd hx
 refine ⟨?_,p2,by grind⟩
 unfold q ZbC
 dsimp only
 rw [ee]
 grind
abbrev Zbc:=List Rw×List Rw×List Rw
def Zau (v:Int) (s:Zbc) (r:Rw):Option Zbc:=
 if (atL r.2.1 v).1=0 then some (s.1++[r],s.2.1,s.2.2)
 else match ZaL r.2 (ZbC (atL r.2.1 v)) with
  | none=>none
  | some t=>if 0<(atL r.2.1 v).1 then some (s.1,s.2.1++[(r.1,t)],s.2.2) else some (s.1,s.2.1,s.2.2++[(r.1,t)])
def ZZ (v:Int):Zbc->List Rw->Option Zbc
 | s,[]=>some s
 | s,r::l=>(Zau v s r).bind fun s'=>ZZ v s' l
theorem Zgo (v:Int) (r:Rw):∀ (l:List Rw) (s:Zbc),ZZ v s (l++[r])=(ZZ v s l).bind fun s'=>Zau v s' r
 | [],s=>by simp only [List.nil_append,ZZ,Option.bind_some];cases Zau v s r<;>rfl
 | x::l,s=>by
  rw [List.cons_append,ZZ,ZZ]
  cases Zau v s x with
  | none=>rfl
  | some s'=>exact Zgo v r l s'
def Zdu (r t:Rw):Prop:=t.1=r.1/\TrmOk t.2/\∃ k:Rat,0<k/\(∀ i,co t.2 i=co r.2 i*k)/\q t.2.2=q r.2.2*k
structure SortIs (v:Int) (s s':Zbc) (l:List Rw):Prop where
 o:∀ r,r∈s'.1↔r∈s.1\/(r∈l/\co r.2 v=0)
 lo:∀ t∈s'.2.1,t∈s.2.1\/∃ r∈l,Zdu r t/\co t.2 v=1
 lo':(∀ t∈s.2.1,t∈s'.2.1)/\∀ r∈l,0<co r.2 v->∃ t∈s'.2.1,Zdu r t
 up:∀ t∈s'.2.2,t∈s.2.2\/∃ r∈l,Zdu r t/\co t.2 v=-1
 up':(∀ t∈s.2.2,t∈s'.2.2)/\∀ r∈l,co r.2 v<0->∃ t∈s'.2.2,Zdu r t
theorem Zds (v:Int):∀ (l:List Rw) (s s':Zbc),(∀ r∈l,TrmOk r.2)->ZZ v s l=some s'->SortIs v s s' l
 | [],s,s',_,h=>by
  obtain rfl:=Option.some.inj h
  exact ⟨fun r=>by simp,fun t ht=>.inl ht,⟨fun t ht=>ht,fun r hr=>by cases hr⟩,fun t ht=>.inl ht,⟨fun t ht=>ht,fun r hr=>by cases hr⟩⟩
 | r::l,s,s',hl,h=>by
  have hr:=hl r (by simp)
  have hl':=fun x hx=>hl x (List.mem_cons_of_mem r hx)
  have hat:=hr.ok.at v
  rw [ZZ] at h
  by_cases hz:(atL r.2.1 v).1=0
  ·have e:Zau v s r=some (s.1++[r],s.2.1,s.2.2):=if_pos hz
   rw [e] at h
   have I:=Zds v l _ s' hl' h
   have cz:co r.2 v=0:=(Zge hat).2 hz
   refine ⟨fun t=>?_,fun t ht=>?_,⟨I.lo'.1,fun t ht hp=>?_⟩,fun t ht=>?_,⟨I.up'.1,fun t ht hp=>?_⟩⟩
   ·rw [I.o t]
    simp only [List.mem_append,List.mem_cons,List.not_mem_nil,or_false]
    constructor
    ·rintro ((a | rfl) | ⟨a,b⟩)
     ·exact .inl a
     ·exact .inr ⟨.inl rfl,cz⟩
     ·exact .inr ⟨.inr a,b⟩
    ·rintro (a | ⟨rfl | a,b⟩)
     ·exact .inl (.inl a)
     ·exact .inl (.inr rfl)
     ·exact .inr ⟨a,b⟩
   ·rcases I.lo t ht with a | ⟨x,hx,a⟩
    ·exact .inl a
    ·exact .inr ⟨x,List.mem_cons_of_mem _ hx,a⟩
   ·rcases List.mem_cons.1 ht with rfl | ht
    ·rw [cz] at hp;grind
    ·exact I.lo'.2 t ht hp
   ·rcases I.up t ht with a | ⟨x,hx,a⟩
    ·exact .inl a
    ·exact .inr ⟨x,List.mem_cons_of_mem _ hx,a⟩
   ·rcases List.mem_cons.1 ht with rfl | ht
    ·rw [cz] at hp;grind
    ·exact I.up'.2 t ht hp
  ·have cz:co r.2 v≠0:=fun e=>hz ((Zge hat).1 e)
   cases hu:ZaL r.2 (ZbC (atL r.2.1 v)) with
   | none=>
    have e:Zau v s r=none:=by unfold Zau;rw [if_neg hz,hu]
    rw [e] at h
    cases h
   | some u=>
    have oi:=Zgc hat hz
    obtain ⟨c1,c2⟩:=Zis hr oi hu
    have ok:=ZjX hr oi hu
    by_cases hp:0<(atL r.2.1 v).1
    ·have e:Zau v s r=some (s.1,s.2.1++[(r.1,u)],s.2.2):=by unfold Zau;rw [if_neg hz,hu];exact if_pos hp
     rw [e] at h
     have I:=Zds v l _ s' hl' h
     obtain ⟨q1,q2,q3⟩:=Znj hat hp
     have sc:Zdu r (r.1,u):=⟨rfl,ok,_,q2,c1,c2⟩
     have one:co u v=1:=by rw [c1 v];unfold co;grind
     have pos:0<co r.2 v:=q3
     refine ⟨fun t=>?_,fun t ht=>?_,⟨fun t ht=>I.lo'.1 t (by simp [ht]),fun t ht hp=>?_⟩,fun t ht=>?_,⟨I.up'.1,fun t ht hp=>?_⟩⟩
     ·rw [I.o t]
      constructor
      ·rintro (a | ⟨a,b⟩)
       ·exact .inl a
       ·exact .inr ⟨List.mem_cons_of_mem _ a,b⟩
      ·rintro (a | ⟨a,b⟩)
       ·exact .inl a
       ·rcases List.mem_cons.1 a with rfl | a
        ·exact absurd b cz
        ·exact .inr ⟨a,b⟩
     ·rcases I.lo t ht with a | ⟨x,hx,a⟩
      ·rcases List.mem_append.1 a with a | a
       ·exact .inl a
       ·obtain rfl:=List.mem_singleton.1 a
        exact .inr ⟨r,by simp,sc,one⟩
      ·exact .inr ⟨x,List.mem_cons_of_mem _ hx,a⟩
     ·rcases List.mem_cons.1 ht with rfl | ht
      ·exact ⟨_,I.lo'.1 _ (by simp),sc⟩
      ·exact I.lo'.2 t ht hp
     ·rcases I.up t ht with a | ⟨x,hx,a⟩
      ·exact .inl a
      ·exact .inr ⟨x,List.mem_cons_of_mem _ hx,a⟩
     ·rcases List.mem_cons.1 ht with rfl | ht
      ·grind
      ·exact I.up'.2 t ht hp
    ·have e:Zau v s r=some (s.1,s.2.1,s.2.2++[(r.1,u)]):=by unfold Zau;rw [if_neg hz,hu];exact if_neg hp
     rw [e] at h
     have I:=Zds v l _ s' hl' h
     obtain ⟨q1,q2,q3⟩:=Zni hat (by omega)
     have sc:Zdu r (r.1,u):=⟨rfl,ok,_,q2,c1,c2⟩
     have one:co u v=-1:=by rw [c1 v];exact q1
     have neg:co r.2 v<0:=q3
     refine ⟨fun t=>?_,fun t ht=>?_,⟨I.lo'.1,fun t ht hp=>?_⟩,fun t ht=>?_,⟨fun t ht=>I.up'.1 t (by simp [ht]),fun t ht hp=>?_⟩⟩
     ·rw [I.o t]
      constructor
      ·rintro (a | ⟨a,b⟩)
       ·exact .inl a
       ·exact .inr ⟨List.mem_cons_of_mem _ a,b⟩
      ·rintro (a | ⟨a,b⟩)
       ·exact .inl a
       ·rcases List.mem_cons.1 a with rfl | a
        ·exact absurd b cz
        ·exact .inr ⟨a,b⟩
     ·rcases I.lo t ht with a | ⟨x,hx,a⟩
      ·exact .inl a
      ·exact .inr ⟨x,List.mem_cons_of_mem _ hx,a⟩
     ·rcases List.mem_cons.1 ht with rfl | ht
      ·grind
      ·exact I.lo'.2 t ht hp
     ·rcases I.up t ht with a | ⟨x,hx,a⟩
      ·rcases List.mem_append.1 a with a | a
       ·exact .inl a
       ·obtain rfl:=List.mem_singleton.1 a
        exact .inr ⟨r,by simp,sc,one⟩
      ·exact .inr ⟨x,List.mem_cons_of_mem _ hx,a⟩
     ·rcases List.mem_cons.1 ht with rfl | ht
      ·exact ⟨_,I.up'.1 _ (by simp),sc⟩
      ·exact I.up'.2 t ht hp
end
end Go.Proofs.YtolookeddknmoaaGreat
