import Derived.Test.YtkgkmdhpnhmcpaaGreatDoorQAU
set_option maxRecDepth 100000
set_option maxHeartbeats 8000000
namespace Go.Proofs.YtkgkmdhpnhmcpaaGreatDoor
section
open Go.RowKit
theorem ZdF {t:Nat->Bool} {n:Nat}:ZE t n<n/\-1<=ZE t n/\(0<=ZE t n->t (ZE t n).toNat=true):=by
 unfold ZE
 cases h:(List.range n).find? t with
 | none=>exact ⟨by show (-1:Int)<n;omega,by show (-1:Int)<=-1;omega,fun q=>absurd q (by decide)⟩
 | some k=>
  have h1:=List.mem_range.1 (List.mem_of_find?_eq_some h)
  exact ⟨by show (k:Int)<n;omega,by show (-1:Int)<=k;omega,fun _=>by show t ((k:Int)).toNat=true;rw [Int.toNat_natCast];exact List.find?_some h⟩
theorem ZdG {α:Type} {f:α->Bool} {l:List α}:ZT f l<l.length/\-1<=ZT f l:=by
 unfold ZT
 cases h:l.findIdx? f with
 | none=>exact ⟨by show (-1:Int)<l.length;omega,by show (-1:Int)<=-1;omega⟩
 | some k=>
  have h1:=(List.findIdx?_eq_some_iff_getElem.1 h).1
  exact ⟨by show (k:Int)<l.length;omega,by show (-1:Int)<=k;omega⟩
theorem ZiV (w0 w:World) (v:Value) (l:List (Ou)) (t:Nat->Bool) (R:Nat->World->Prop) (hl:Zak 2 ouC (fun _ x=>x.name.length<=maxLen) w0 v l) (hb:Below w0.heap.size w0 w) (h0:R 0 w)
  (hf:∀ (k:Nat) (x:Ou) (wr:World),l[k]? = some x->Below w0.heap.size w0 wr->R k wr->Calls Tryz.prog 78 #[.agg #[txt x.name,.int .i64 x.to]] wr fun e w'=>e=.returned (.bool (t k))/\Below w0.heap.size w0 w'/\R (k+1) w') :
  Calls Tryz.prog 107 #[v,.func (.func 78) #[] #[]] w fun e w'=>e=.returned (.int .i64 (ZE t l.length))/\Below w0.heap.size w0 w'/\∃ k,R k w':=by
 obtain ⟨A,cp,rfl,h2,h3,h4,h5⟩:=hl
 obtain ⟨n,hn⟩:∃ n,n=l.length:=⟨_,rfl⟩
 have hmx:n<=9223372036854775807:=by unfold maxLen at h3;omega
 rw [<- hn] at h2 h4 ⊢
 have HN:=zh (zi hn (zi hmx hf))
 have H4:=zh h4
 have S0:=zh (zi hb h0)
 clear hn h2 h3 h4 h5 hmx hf hb h0
 go_enter Tryz.func107,Tryz.ntmps107
 go_wp2_with fail
 go_loopg [8] n (fun g v8 wr=>∃ k:Nat,v8=.int .i64 k/\k<=n/\g=n-k/\(∀ i,i<k->t i=false)/\Below w0.heap.size w0 wr/\R k wr)
 case atStart=>exact ⟨0,rfl,Nat.zero_le _,rfl,fun i hi=>absurd hi (Nat.not_lt_zero _),S0.out.1,S0.out.2⟩
 case round=>
  obtain ⟨k,rfl,hk,hg,hall,hb,hr⟩:=hrel
  by_cases hkn:k=n
  ·subst hkn
   have FIN:=zh (zi (Zas hall) (zi hb hr))
   clear hk hg hall hb hr
   go_wp2_with fail
   go_ret
   exact ⟨by rw [FIN.out.1];rfl,FIN.out.2.1,_,FIN.out.2.2⟩
  ·have hlt:k<n:=by omega
   obtain ⟨x,hx⟩:∃ x,l[k]? = some x:=⟨_,List.getElem?_eq_getElem (by have:=HN.out.1;omega)⟩
   obtain ⟨ad,rfl,d0,d1⟩:=ZaN ZbB H4.out hb hx (by omega)
   have CL:=zh (HN.out.2.2 k x wr hx hb hr)
   unfold ouC at d0 d1
   simp only [List.getElem?_cons_zero,List.getElem?_cons_succ] at d0 d1
   have i1:(k:Int)<(n:Int):=by omega
   have i2:(0:Int)<=(k:Int):=by omega
   have wk:IntKind.i64.wrap ((k:Int)+1)=(k:Int)+1:=IntWalk.i64_in _ (by have:=HN.out.2.1;omega)
   have HK:=zh (zi hlt (zi hg hall))
   clear hkn hlt hk hg hall hb hr hx
   cases q:t k
   ·rw [q] at CL
    have NX:=zh (show ∀ i,i<k+1->t i=false from fun i hi=>by
     by_cases e:i=k
     ·rw [e];exact q
     ·exact HK.out.2.2 i (by omega))
    clear q
    go_wp2_with (go_at_call 78;(with_reducible refine CL.out.mono ?_);rintro e w1 ⟨rfl,hb1,hr1⟩;have H1:=zh (zi hb1 hr1);clear hb1 hr1)
    go_roundg (n-(k+1))
    case measure=>have:=HK.out.1;have:=HK.out.2.1;omega
    case rel=>exact ⟨k+1,by push_cast;rfl,HK.out.1,rfl,NX.out,H1.out.1,H1.out.2⟩
   ·rw [q] at CL
    have FH:=zh (ZaA HK.out.1 q HK.out.2.2)
    clear q
    go_wp2_with (go_at_call 78;(with_reducible refine CL.out.mono ?_);rintro e w1 ⟨rfl,hb1,hr1⟩;have H1:=zh (zi hb1 hr1);clear hb1 hr1)
    go_ret
    exact ⟨by rw [FH.out];rfl,H1.out.1,_,H1.out.2⟩
theorem ZiI (w0 w:World) (v:Value) (l:List (Ou)) (t:Nat->Bool) (R:Nat->World->Prop) (hl:Zak 2 ouC (fun _ x=>x.name.length<=maxLen) w0 v l) (hb:Below w0.heap.size w0 w) (h0:R 0 w)
  (hf:∀ (k:Nat) (x:Ou) (wr:World),l[k]? = some x->Below w0.heap.size w0 wr->R k wr->Calls Tryz.prog 78 #[.agg #[txt x.name,.int .i64 x.to]] wr fun e w'=>e=.returned (.bool (t k))/\Below w0.heap.size w0 w'/\R (k+1) w') :
  Calls Tryz.prog 77 #[v,.func (.func 78) #[] #[]] w fun e w'=>e=.returned (.bool ((List.range l.length).any t))/\Below w0.heap.size w0 w'/\∃ k,R k w':=by
 have IXH:=zh (ZiV w0 w v l t R hl hb h0 hf)
 have EQ:=zh (Zdi (t:=t) (n:=l.length))
 clear hl hb h0 hf
 generalize (List.range l.length).any t=B at *
 generalize ZE t l.length=z at *
 go_enter Tryz.func77,Tryz.ntmps77
 go_wp2_with (go_at_call 107;(with_reducible refine IXH.out.mono ?_);rintro e w1 ⟨rfl,hb1,hr1⟩;have H1:=zh (zi hb1 hr1);clear hb1 hr1)
 go_ret
 exact ⟨by rw [<- EQ.out];rfl,H1.out⟩
theorem Zit (w:World) (x:Ou):Calls Tryz.prog 78 #[.agg #[txt x.name,.int .i64 x.to]] w fun e w'=>e=.returned (.bool (Zb7 x))/\Below w.heap.size w w':=by
 have a1:=zh (below_alloc1 w (.cells #[txt x.name,.int .i64 x.to] 110))
 have B1:=Blk.start w #[txt x.name,.int .i64 x.to] 110
 have c1:=B1.cell 1
 simp only [List.getElem?_toArray,List.getElem?_cons_zero,List.getElem?_cons_succ] at c1
 have e:Zb7 x=(x.to==-1):=by unfold Zb7;cases h:(x.to==-1)<;>simp_all
 rw [e]
 clear B1 e
 go_enter Tryz.func78,Tryz.ntmps78
 go_wp2_with fail
 go_ret
 exact ⟨rfl,a1.out⟩
theorem Zh4 (w:World) (vo:Value) (m:Mov) (ho:Zaj w vo m.outs) :
  Calls Tryz.prog 49 #[.agg #[txt m.op,.int .i64 m.at_,vo]] w fun e w'=>e=.returned (.bool (ZbN m))/\Below w.heap.size w w':=by
 obtain ⟨Ao,co,rfl,hlo⟩:=ho.len
 have a1:=below_alloc1 w (.cells #[txt m.op,.int .i64 m.at_,.slice Ao m.outs.length co] 85)
 have B1:=Blk.start w #[txt m.op,.int .i64 m.at_,.slice Ao m.outs.length co] 85
 have CF:=zh (ZiI _ _ _ m.outs (fun k=>match m.outs[k]? with | some o=>Zb7 o | none=>false) (fun _ _=>True) (ho.below a1) (Below.refl _ _) trivial (fun k x wr hx hb _=>(Zit wr x).mono fun e w' ⟨he,hb'⟩=>⟨by rw [he,hx],hb.trans (hb'.mono hb.size),trivial⟩))
 rw [Zcu (f:=Zb7) (fun k x hx=>by rw [hx])] at CF
 have c1:=B1.cell 1
 have c2:=B1.cell 2
 simp only [List.getElem?_toArray,List.getElem?_cons_zero,List.getElem?_cons_succ] at c1 c2
 have HA:=zh a1
 clear ho hlo B1 a1
 unfold ZbN
 by_cases q:m.at_=-1
 ·have q2:(m.at_==-1)=true:=beq_iff_eq.mpr q
  rw [decide_eq_true q,Bool.true_or]
  clear q
  go_enter Tryz.func49,Tryz.ntmps49
  go_wp2_with fail
  go_ret
  exact ⟨rfl,HA.out⟩
 ·have q2:(m.at_==-1)=false:=beq_eq_false_iff_ne.mpr q
  rw [decide_eq_false q,Bool.false_or]
  clear q
  generalize m.outs.any Zb7=B at *
  go_enter Tryz.func49,Tryz.ntmps49
  go_wp2_with (go_at_call 77;(refine CF.out.mono ?_);rintro e w1 ⟨rfl,hb1,_⟩;have H1:=zh (HA.out.trans (hb1.mono HA.out.size));clear hb1)
  go_ret
  exact ⟨rfl,H1.out⟩
theorem ZiS (w0 w:World) (v:Value) (l:List (Value×Mov)) (t:Nat->Bool) (R:Nat->World->Prop) (hl:Zak 3 mvC (fun w x=>x.2.op.length<=maxLen/\Zaj w x.1 x.2.outs) w0 v l) (hb:Below w0.heap.size w0 w) (h0:R 0 w)
  (hf:∀ (k:Nat) (x:Value×Mov) (wr:World),l[k]? = some x->Below w0.heap.size w0 wr->R k wr->Calls Tryz.prog 49 #[.agg #[txt x.2.op,.int .i64 x.2.at_,x.1]] wr fun e w'=>e=.returned (.bool (t k))/\Below w0.heap.size w0 w'/\R (k+1) w') :
  Calls Tryz.prog 48 #[v,.func (.func 49) #[] #[]] w fun e w'=>e=.returned (.int .i64 (ZE t l.length))/\Below w0.heap.size w0 w'/\∃ k,R k w':=by
 obtain ⟨A,cp,rfl,h2,h3,h4,h5⟩:=hl
 obtain ⟨n,hn⟩:∃ n,n=l.length:=⟨_,rfl⟩
 have hmx:n<=9223372036854775807:=by unfold maxLen at h3;omega
 rw [<- hn] at h2 h4 ⊢
 have HN:=zh (zi hn (zi hmx hf))
 have H4:=zh h4
 have S0:=zh (zi hb h0)
 clear hn h2 h3 h4 h5 hmx hf hb h0
 go_enter Tryz.func48,Tryz.ntmps48
 go_wp2_with fail
 go_loopg [8] n (fun g v8 wr=>∃ k:Nat,v8=.int .i64 k/\k<=n/\g=n-k/\(∀ i,i<k->t i=false)/\Below w0.heap.size w0 wr/\R k wr)
 case atStart=>exact ⟨0,rfl,Nat.zero_le _,rfl,fun i hi=>absurd hi (Nat.not_lt_zero _),S0.out.1,S0.out.2⟩
 case round=>
  obtain ⟨k,rfl,hk,hg,hall,hb,hr⟩:=hrel
  by_cases hkn:k=n
  ·subst hkn
   have FIN:=zh (zi (Zas hall) (zi hb hr))
   clear hk hg hall hb hr
   go_wp2_with fail
   go_ret
   exact ⟨by rw [FIN.out.1];rfl,FIN.out.2.1,_,FIN.out.2.2⟩
  ·have hlt:k<n:=by omega
   obtain ⟨x,hx⟩:∃ x,l[k]? = some x:=⟨_,List.getElem?_eq_getElem (by have:=HN.out.1;omega)⟩
   obtain ⟨ad,rfl,d0,d1,d2⟩:=ZbL ZaR H4.out hb hx (by omega)
   have CL:=zh (HN.out.2.2 k x wr hx hb hr)
   unfold mvC at d0 d1 d2
   simp only [List.getElem?_cons_zero,List.getElem?_cons_succ] at d0 d1 d2
   have i1:(k:Int)<(n:Int):=by omega
   have i2:(0:Int)<=(k:Int):=by omega
   have wk:IntKind.i64.wrap ((k:Int)+1)=(k:Int)+1:=IntWalk.i64_in _ (by have:=HN.out.2.1;omega)
   have HK:=zh (zi hlt (zi hg hall))
   clear hkn hlt hk hg hall hb hr hx
   cases q:t k
   ·rw [q] at CL
    have NX:=zh (show ∀ i,i<k+1->t i=false from fun i hi=>by
     by_cases e:i=k
     ·rw [e];exact q
     ·exact HK.out.2.2 i (by omega))
    clear q
    go_wp2_with (go_at_call 49;(with_reducible refine CL.out.mono ?_);rintro e w1 ⟨rfl,hb1,hr1⟩;have H1:=zh (zi hb1 hr1);clear hb1 hr1)
    go_roundg (n-(k+1))
    case measure=>have:=HK.out.1;have:=HK.out.2.1;omega
    case rel=>exact ⟨k+1,by push_cast;rfl,HK.out.1,rfl,NX.out,H1.out.1,H1.out.2⟩
   ·rw [q] at CL
    have FH:=zh (ZaA HK.out.1 q HK.out.2.2)
    clear q
    go_wp2_with (go_at_call 49;(with_reducible refine CL.out.mono ?_);rintro e w1 ⟨rfl,hb1,hr1⟩;have H1:=zh (zi hb1 hr1);clear hb1 hr1)
    go_ret
    exact ⟨by rw [FH.out];rfl,H1.out.1,_,H1.out.2⟩
end
end Go.Proofs.YtkgkmdhpnhmcpaaGreatDoor
