import Derived.Test.YtkgkmdhpnhmcpaaGreatDoorQAA
set_option maxRecDepth 100000
set_option maxHeartbeats 8000000
namespace Go.Proofs.YtkgkmdhpnhmcpaaGreatDoor
section
open Go.RowKit
def ZE (t:Nat->Bool) (n:Nat):Int:=match (List.range n).find? t with
 | some k=>(k:Int)
 | none=>-1
theorem Zas {t:Nat->Bool} {n:Nat} (h:∀ i,i<n->t i=false):ZE t n=-1:=by
 unfold ZE
 rw [List.find?_eq_none.mpr (fun i hi=>by rw [h i (List.mem_range.mp hi)];decide)]
theorem ZaA {t:Nat->Bool} {n k:Nat} (hk:k<n) (ht:t k=true) (h:∀ i,i<k->t i=false):ZE t n=(k:Int):=by
 unfold ZE
 rw [List.find?_range_eq_some.mpr ⟨ht,List.mem_range.mpr hk,fun j hj=>by rw [h j hj];rfl⟩]
theorem Zdi {t:Nat->Bool} {n:Nat}:decide (0<=ZE t n)=(List.range n).any t:=by
 unfold ZE
 cases h:(List.range n).find? t with
 | none=>
  rw [List.find?_eq_none] at h
  symm
  rw [List.any_eq_false.mpr h]
  rfl
 | some k=>
  have:=List.find?_some h
  symm
  rw [List.any_eq_true.mpr ⟨k,List.mem_of_find?_eq_some h,this⟩]
  simp
theorem ZbC (x:Sta):(stC x).length=2:=rfl
theorem ZbB (x:Ou):(ouC x).length=2:=rfl
theorem ZaR (x:Value×Mov):(mvC x).length=3:=rfl
theorem ZiU (w0 w:World) (v:Value) (l:List (Sta)) (b:Nat) (t:Nat->Bool) (R:Nat->World->Prop) (hl:Zak 2 stC (fun _ x=>x.name.length<=maxLen) w0 v l) (hb:Below w0.heap.size w0 w) (h0:R 0 w)
  (hf:∀ (k:Nat) (x:Sta) (wr:World),l[k]? = some x->Below w0.heap.size w0 wr->R k wr->Calls Tryz.prog 110 #[.agg #[txt x.name,.bool x.final],.pointer (some ⟨b,0,none⟩)] wr fun e w'=>e=.returned (.bool (t k))/\Below w0.heap.size w0 w'/\R (k+1) w') :
  Calls Tryz.prog 109 #[v,.func (.func 110) #[] #[.pointer (some ⟨b,0,none⟩)]] w fun e w'=>e=.returned (.int .i64 (ZE t l.length))/\Below w0.heap.size w0 w'/\∃ k,R k w':=by
 obtain ⟨A,cp,rfl,h2,h3,h4,h5⟩:=hl
 obtain ⟨n,hn⟩:∃ n,n=l.length:=⟨_,rfl⟩
 have hmx:n<=9223372036854775807:=by unfold maxLen at h3;omega
 rw [<- hn] at h2 h4 ⊢
 have HN:=zh (zi hn (zi hmx hf))
 have H4:=zh h4
 have S0:=zh (zi hb h0)
 clear hn h2 h3 h4 h5 hmx hf hb h0
 go_enter Tryz.func109,Tryz.ntmps109
 go_wp2_with fail
 go_loopg [8] n (fun g v8 wr=>∃ k:Nat,v8=.int .i64 k/\k<=n/\g=n-k/\(∀ i,i<k->t i=false)/\Below w0.heap.size w0 wr/\R k wr)
 case atStart=>exact ⟨0,rfl,Nat.zero_le _,rfl,fun i hi=>absurd hi (Nat.not_lt_zero _),S0.out.1,S0.out.2⟩
 case round=>
  obtain ⟨k,rfl,hk,hg,hall,hb,hr⟩:=hrel
  by_cases hkn:k=n
  ·subst hkn
   have FIN:=zh (zi (Zas hall) (zi hb hr))
   clear hk hg hall hb hr
   go_wp2_with fail
   go_ret
   exact ⟨by rw [FIN.out.1];rfl,FIN.out.2.1,_,FIN.out.2.2⟩
  ·have hlt:k<n:=by omega
   obtain ⟨x,hx⟩:∃ x,l[k]? = some x:=⟨_,List.getElem?_eq_getElem (by have:=HN.out.1;omega)⟩
   obtain ⟨ad,rfl,d0,d1⟩:=ZaN ZbC H4.out hb hx (by omega)
   have CL:=zh (HN.out.2.2 k x wr hx hb hr)
   unfold stC at d0 d1
   simp only [List.getElem?_cons_zero,List.getElem?_cons_succ] at d0 d1
   have i1:(k:Int)<(n:Int):=by omega
   have i2:(0:Int)<=(k:Int):=by omega
   have wk:IntKind.i64.wrap ((k:Int)+1)=(k:Int)+1:=IntWalk.i64_in _ (by have:=HN.out.2.1;omega)
   have HK:=zh (zi hlt (zi hg hall))
   clear hkn hlt hk hg hall hb hr hx
   cases q:t k
   ·rw [q] at CL
    have NX:=zh (show ∀ i,i<k+1->t i=false from fun i hi=>by
     by_cases e:i=k
     ·rw [e];exact q
     ·exact HK.out.2.2 i (by omega))
    clear q
    go_wp2_with (go_at_call 110;(with_reducible refine CL.out.mono ?_);rintro e w1 ⟨rfl,hb1,hr1⟩;have H1:=zh (zi hb1 hr1);clear hb1 hr1)
    go_roundg (n-(k+1))
    case measure=>have:=HK.out.1;have:=HK.out.2.1;omega
    case rel=>exact ⟨k+1,by push_cast;rfl,HK.out.1,rfl,NX.out,H1.out.1,H1.out.2⟩
   ·rw [q] at CL
    have FH:=zh (ZaA HK.out.1 q HK.out.2.2)
    clear q
    go_wp2_with (go_at_call 110;(with_reducible refine CL.out.mono ?_);rintro e w1 ⟨rfl,hb1,hr1⟩;have H1:=zh (zi hb1 hr1);clear hb1 hr1)
    go_ret
    exact ⟨by rw [FH.out];rfl,H1.out.1,_,H1.out.2⟩
theorem Zg2 (w0 w:World) (v:Value) (l:List (Value×Mov)) (b:Nat) (t:Nat->Bool) (R:Nat->World->Prop) (hl:Zak 3 mvC (fun w x=>x.2.op.length<=maxLen/\Zaj w x.1 x.2.outs) w0 v l) (hb:Below w0.heap.size w0 w) (h0:R 0 w)
  (hf:∀ (k:Nat) (x:Value×Mov) (wr:World),l[k]? = some x->Below w0.heap.size w0 wr->R k wr->Calls Tryz.prog 112 #[.agg #[txt x.2.op,.int .i64 x.2.at_,x.1],.pointer (some ⟨b,0,none⟩)] wr fun e w'=>e=.returned (.bool (t k))/\Below w0.heap.size w0 w'/\R (k+1) w') :
  Calls Tryz.prog 48 #[v,.func (.func 112) #[] #[.pointer (some ⟨b,0,none⟩)]] w fun e w'=>e=.returned (.int .i64 (ZE t l.length))/\Below w0.heap.size w0 w'/\∃ k,R k w':=by
 obtain ⟨A,cp,rfl,h2,h3,h4,h5⟩:=hl
 obtain ⟨n,hn⟩:∃ n,n=l.length:=⟨_,rfl⟩
 have hmx:n<=9223372036854775807:=by unfold maxLen at h3;omega
 rw [<- hn] at h2 h4 ⊢
 have HN:=zh (zi hn (zi hmx hf))
 have H4:=zh h4
 have S0:=zh (zi hb h0)
 clear hn h2 h3 h4 h5 hmx hf hb h0
 go_enter Tryz.func48,Tryz.ntmps48
 go_wp2_with fail
 go_loopg [8] n (fun g v8 wr=>∃ k:Nat,v8=.int .i64 k/\k<=n/\g=n-k/\(∀ i,i<k->t i=false)/\Below w0.heap.size w0 wr/\R k wr)
 case atStart=>exact ⟨0,rfl,Nat.zero_le _,rfl,fun i hi=>absurd hi (Nat.not_lt_zero _),S0.out.1,S0.out.2⟩
 case round=>
  obtain ⟨k,rfl,hk,hg,hall,hb,hr⟩:=hrel
  by_cases hkn:k=n
  ·subst hkn
   have FIN:=zh (zi (Zas hall) (zi hb hr))
   clear hk hg hall hb hr
   go_wp2_with fail
   go_ret
   exact ⟨by rw [FIN.out.1];rfl,FIN.out.2.1,_,FIN.out.2.2⟩
  ·have hlt:k<n:=by omega
   obtain ⟨x,hx⟩:∃ x,l[k]? = some x:=⟨_,List.getElem?_eq_getElem (by have:=HN.out.1;omega)⟩
   obtain ⟨ad,rfl,d0,d1,d2⟩:=ZbL ZaR H4.out hb hx (by omega)
   have CL:=zh (HN.out.2.2 k x wr hx hb hr)
   unfold mvC at d0 d1 d2
   simp only [List.getElem?_cons_zero,List.getElem?_cons_succ] at d0 d1 d2
   have i1:(k:Int)<(n:Int):=by omega
   have i2:(0:Int)<=(k:Int):=by omega
   have wk:IntKind.i64.wrap ((k:Int)+1)=(k:Int)+1:=IntWalk.i64_in _ (by have:=HN.out.2.1;omega)
   have HK:=zh (zi hlt (zi hg hall))
   clear hkn hlt hk hg hall hb hr hx
   cases q:t k
   ·rw [q] at CL
    have NX:=zh (show ∀ i,i<k+1->t i=false from fun i hi=>by
     by_cases e:i=k
     ·rw [e];exact q
     ·exact HK.out.2.2 i (by omega))
    clear q
    go_wp2_with (go_at_call 112;(with_reducible refine CL.out.mono ?_);rintro e w1 ⟨rfl,hb1,hr1⟩;have H1:=zh (zi hb1 hr1);clear hb1 hr1)
    go_roundg (n-(k+1))
    case measure=>have:=HK.out.1;have:=HK.out.2.1;omega
    case rel=>exact ⟨k+1,by push_cast;rfl,HK.out.1,rfl,NX.out,H1.out.1,H1.out.2⟩
   ·rw [q] at CL
    have FH:=zh (ZaA HK.out.1 q HK.out.2.2)
    clear q
    go_wp2_with (go_at_call 112;(with_reducible refine CL.out.mono ?_);rintro e w1 ⟨rfl,hb1,hr1⟩;have H1:=zh (zi hb1 hr1);clear hb1 hr1)
    go_ret
    exact ⟨by rw [FH.out];rfl,H1.out.1,_,H1.out.2⟩
theorem Zh0 (w0 w:World) (v:Value) (l:List (Value×Mov)) (b:Nat) (t:Nat->Bool) (R:Nat->World->Prop) (hl:Zak 3 mvC (fun w x=>x.2.op.length<=maxLen/\Zaj w x.1 x.2.outs) w0 v l) (hb:Below w0.heap.size w0 w) (h0:R 0 w)
  (hf:∀ (k:Nat) (x:Value×Mov) (wr:World),l[k]? = some x->Below w0.heap.size w0 wr->R k wr->Calls Tryz.prog 115 #[.agg #[txt x.2.op,.int .i64 x.2.at_,x.1],.pointer (some ⟨b,0,none⟩)] wr fun e w'=>e=.returned (.bool (t k))/\Below w0.heap.size w0 w'/\R (k+1) w') :
  Calls Tryz.prog 48 #[v,.func (.func 115) #[] #[.pointer (some ⟨b,0,none⟩)]] w fun e w'=>e=.returned (.int .i64 (ZE t l.length))/\Below w0.heap.size w0 w'/\∃ k,R k w':=by
 obtain ⟨A,cp,rfl,h2,h3,h4,h5⟩:=hl
 obtain ⟨n,hn⟩:∃ n,n=l.length:=⟨_,rfl⟩
 have hmx:n<=9223372036854775807:=by unfold maxLen at h3;omega
 rw [<- hn] at h2 h4 ⊢
 have HN:=zh (zi hn (zi hmx hf))
 have H4:=zh h4
 have S0:=zh (zi hb h0)
 clear hn h2 h3 h4 h5 hmx hf hb h0
 go_enter Tryz.func48,Tryz.ntmps48
 go_wp2_with fail
 go_loopg [8] n (fun g v8 wr=>∃ k:Nat,v8=.int .i64 k/\k<=n/\g=n-k/\(∀ i,i<k->t i=false)/\Below w0.heap.size w0 wr/\R k wr)
 case atStart=>exact ⟨0,rfl,Nat.zero_le _,rfl,fun i hi=>absurd hi (Nat.not_lt_zero _),S0.out.1,S0.out.2⟩
 case round=>
  obtain ⟨k,rfl,hk,hg,hall,hb,hr⟩:=hrel
  by_cases hkn:k=n
  ·subst hkn
   have FIN:=zh (zi (Zas hall) (zi hb hr))
   clear hk hg hall hb hr
   go_wp2_with fail
   go_ret
   exact ⟨by rw [FIN.out.1];rfl,FIN.out.2.1,_,FIN.out.2.2⟩
  ·have hlt:k<n:=by omega
   obtain ⟨x,hx⟩:∃ x,l[k]? = some x:=⟨_,List.getElem?_eq_getElem (by have:=HN.out.1;omega)⟩
   obtain ⟨ad,rfl,d0,d1,d2⟩:=ZbL ZaR H4.out hb hx (by omega)
   have CL:=zh (HN.out.2.2 k x wr hx hb hr)
   unfold mvC at d0 d1 d2
   simp only [List.getElem?_cons_zero,List.getElem?_cons_succ] at d0 d1 d2
   have i1:(k:Int)<(n:Int):=by omega
   have i2:(0:Int)<=(k:Int):=by omega
   have wk:IntKind.i64.wrap ((k:Int)+1)=(k:Int)+1:=IntWalk.i64_in _ (by have:=HN.out.2.1;omega)
   have HK:=zh (zi hlt (zi hg hall))
   clear hkn hlt hk hg hall hb hr hx
   cases q:t k
   ·rw [q] at CL
    have NX:=zh (show ∀ i,i<k+1->t i=false from fun i hi=>by
     by_cases e:i=k
     ·rw [e];exact q
     ·exact HK.out.2.2 i (by omega))
    clear q
    go_wp2_with (go_at_call 115;(with_reducible refine CL.out.mono ?_);rintro e w1 ⟨rfl,hb1,hr1⟩;have H1:=zh (zi hb1 hr1);clear hb1 hr1)
    go_roundg (n-(k+1))
    case measure=>have:=HK.out.1;have:=HK.out.2.1;omega
    case rel=>exact ⟨k+1,by push_cast;rfl,HK.out.1,rfl,NX.out,H1.out.1,H1.out.2⟩
   ·rw [q] at CL
    have FH:=zh (ZaA HK.out.1 q HK.out.2.2)
    clear q
    go_wp2_with (go_at_call 115;(with_reducible refine CL.out.mono ?_);rintro e w1 ⟨rfl,hb1,hr1⟩;have H1:=zh (zi hb1 hr1);clear hb1 hr1)
    go_ret
    exact ⟨by rw [FH.out];rfl,H1.out.1,_,H1.out.2⟩
theorem ZhZ (w0 w:World) (v:Value) (l:List (Value×Mov)) (b:Nat) (t:Nat->Bool) (R:Nat->World->Prop) (hl:Zak 3 mvC (fun w x=>x.2.op.length<=maxLen/\Zaj w x.1 x.2.outs) w0 v l) (hb:Below w0.heap.size w0 w) (h0:R 0 w)
  (hf:∀ (k:Nat) (x:Value×Mov) (wr:World),l[k]? = some x->Below w0.heap.size w0 wr->R k wr->Calls Tryz.prog 117 #[.agg #[txt x.2.op,.int .i64 x.2.at_,x.1],.pointer (some ⟨b,0,none⟩)] wr fun e w'=>e=.returned (.bool (t k))/\Below w0.heap.size w0 w'/\R (k+1) w') :
  Calls Tryz.prog 48 #[v,.func (.func 117) #[] #[.pointer (some ⟨b,0,none⟩)]] w fun e w'=>e=.returned (.int .i64 (ZE t l.length))/\Below w0.heap.size w0 w'/\∃ k,R k w':=by
 obtain ⟨A,cp,rfl,h2,h3,h4,h5⟩:=hl
 obtain ⟨n,hn⟩:∃ n,n=l.length:=⟨_,rfl⟩
 have hmx:n<=9223372036854775807:=by unfold maxLen at h3;omega
 rw [<- hn] at h2 h4 ⊢
 have HN:=zh (zi hn (zi hmx hf))
 have H4:=zh h4
 have S0:=zh (zi hb h0)
 clear hn h2 h3 h4 h5 hmx hf hb h0
 go_enter Tryz.func48,Tryz.ntmps48
 go_wp2_with fail
 go_loopg [8] n (fun g v8 wr=>∃ k:Nat,v8=.int .i64 k/\k<=n/\g=n-k/\(∀ i,i<k->t i=false)/\Below w0.heap.size w0 wr/\R k wr)
 case atStart=>exact ⟨0,rfl,Nat.zero_le _,rfl,fun i hi=>absurd hi (Nat.not_lt_zero _),S0.out.1,S0.out.2⟩
 case round=>
  obtain ⟨k,rfl,hk,hg,hall,hb,hr⟩:=hrel
  by_cases hkn:k=n
  ·subst hkn
   have FIN:=zh (zi (Zas hall) (zi hb hr))
   clear hk hg hall hb hr
   go_wp2_with fail
   go_ret
   exact ⟨by rw [FIN.out.1];rfl,FIN.out.2.1,_,FIN.out.2.2⟩
  ·have hlt:k<n:=by omega
   obtain ⟨x,hx⟩:∃ x,l[k]? = some x:=⟨_,List.getElem?_eq_getElem (by have:=HN.out.1;omega)⟩
   obtain ⟨ad,rfl,d0,d1,d2⟩:=ZbL ZaR H4.out hb hx (by omega)
   have CL:=zh (HN.out.2.2 k x wr hx hb hr)
   unfold mvC at d0 d1 d2
   simp only [List.getElem?_cons_zero,List.getElem?_cons_succ] at d0 d1 d2
   have i1:(k:Int)<(n:Int):=by omega
   have i2:(0:Int)<=(k:Int):=by omega
   have wk:IntKind.i64.wrap ((k:Int)+1)=(k:Int)+1:=IntWalk.i64_in _ (by have:=HN.out.2.1;omega)
   have HK:=zh (zi hlt (zi hg hall))
   clear hkn hlt hk hg hall hb hr hx
   cases q:t k
   ·rw [q] at CL
    have NX:=zh (show ∀ i,i<k+1->t i=false from fun i hi=>by
     by_cases e:i=k
     ·rw [e];exact q
     ·exact HK.out.2.2 i (by omega))
    clear q
    go_wp2_with (go_at_call 117;(with_reducible refine CL.out.mono ?_);rintro e w1 ⟨rfl,hb1,hr1⟩;have H1:=zh (zi hb1 hr1);clear hb1 hr1)
    go_roundg (n-(k+1))
    case measure=>have:=HK.out.1;have:=HK.out.2.1;omega
    case rel=>exact ⟨k+1,by push_cast;rfl,HK.out.1,rfl,NX.out,H1.out.1,H1.out.2⟩
   ·rw [q] at CL
    have FH:=zh (ZaA HK.out.1 q HK.out.2.2)
    clear q
    go_wp2_with (go_at_call 117;(with_reducible refine CL.out.mono ?_);rintro e w1 ⟨rfl,hb1,hr1⟩;have H1:=zh (zi hb1 hr1);clear hb1 hr1)
    go_ret
    exact ⟨by rw [FH.out];rfl,H1.out.1,_,H1.out.2⟩
theorem ZiT (w0 w:World) (v:Value) (l:List (Ou)) (b:Nat) (t:Nat->Bool) (R:Nat->World->Prop) (hl:Zak 2 ouC (fun _ x=>x.name.length<=maxLen) w0 v l) (hb:Below w0.heap.size w0 w) (h0:R 0 w)
  (hf:∀ (k:Nat) (x:Ou) (wr:World),l[k]? = some x->Below w0.heap.size w0 wr->R k wr->Calls Tryz.prog 113 #[.agg #[txt x.name,.int .i64 x.to],.pointer (some ⟨b,0,none⟩)] wr fun e w'=>e=.returned (.bool (t k))/\Below w0.heap.size w0 w'/\R (k+1) w') :
  Calls Tryz.prog 107 #[v,.func (.func 113) #[] #[.pointer (some ⟨b,0,none⟩)]] w fun e w'=>e=.returned (.int .i64 (ZE t l.length))/\Below w0.heap.size w0 w'/\∃ k,R k w':=by
 obtain ⟨A,cp,rfl,h2,h3,h4,h5⟩:=hl
 obtain ⟨n,hn⟩:∃ n,n=l.length:=⟨_,rfl⟩
 have hmx:n<=9223372036854775807:=by unfold maxLen at h3;omega
 rw [<- hn] at h2 h4 ⊢
 have HN:=zh (zi hn (zi hmx hf))
 have H4:=zh h4
 have S0:=zh (zi hb h0)
 clear hn h2 h3 h4 h5 hmx hf hb h0
 go_enter Tryz.func107,Tryz.ntmps107
 go_wp2_with fail
 go_loopg [8] n (fun g v8 wr=>∃ k:Nat,v8=.int .i64 k/\k<=n/\g=n-k/\(∀ i,i<k->t i=false)/\Below w0.heap.size w0 wr/\R k wr)
 case atStart=>exact ⟨0,rfl,Nat.zero_le _,rfl,fun i hi=>absurd hi (Nat.not_lt_zero _),S0.out.1,S0.out.2⟩
 case round=>
  obtain ⟨k,rfl,hk,hg,hall,hb,hr⟩:=hrel
  by_cases hkn:k=n
  ·subst hkn
   have FIN:=zh (zi (Zas hall) (zi hb hr))
   clear hk hg hall hb hr
   go_wp2_with fail
   go_ret
   exact ⟨by rw [FIN.out.1];rfl,FIN.out.2.1,_,FIN.out.2.2⟩
  ·have hlt:k<n:=by omega
   obtain ⟨x,hx⟩:∃ x,l[k]? = some x:=⟨_,List.getElem?_eq_getElem (by have:=HN.out.1;omega)⟩
   obtain ⟨ad,rfl,d0,d1⟩:=ZaN ZbB H4.out hb hx (by omega)
   have CL:=zh (HN.out.2.2 k x wr hx hb hr)
   unfold ouC at d0 d1
   simp only [List.getElem?_cons_zero,List.getElem?_cons_succ] at d0 d1
   have i1:(k:Int)<(n:Int):=by omega
   have i2:(0:Int)<=(k:Int):=by omega
   have wk:IntKind.i64.wrap ((k:Int)+1)=(k:Int)+1:=IntWalk.i64_in _ (by have:=HN.out.2.1;omega)
   have HK:=zh (zi hlt (zi hg hall))
   clear hkn hlt hk hg hall hb hr hx
   cases q:t k
   ·rw [q] at CL
    have NX:=zh (show ∀ i,i<k+1->t i=false from fun i hi=>by
     by_cases e:i=k
     ·rw [e];exact q
     ·exact HK.out.2.2 i (by omega))
    clear q
    go_wp2_with (go_at_call 113;(with_reducible refine CL.out.mono ?_);rintro e w1 ⟨rfl,hb1,hr1⟩;have H1:=zh (zi hb1 hr1);clear hb1 hr1)
    go_roundg (n-(k+1))
    case measure=>have:=HK.out.1;have:=HK.out.2.1;omega
    case rel=>exact ⟨k+1,by push_cast;rfl,HK.out.1,rfl,NX.out,H1.out.1,H1.out.2⟩
   ·rw [q] at CL
    have FH:=zh (ZaA HK.out.1 q HK.out.2.2)
    clear q
    go_wp2_with (go_at_call 113;(with_reducible refine CL.out.mono ?_);rintro e w1 ⟨rfl,hb1,hr1⟩;have H1:=zh (zi hb1 hr1);clear hb1 hr1)
    go_ret
    exact ⟨by rw [FH.out];rfl,H1.out.1,_,H1.out.2⟩
theorem Zjj (w0 w:World) (v:Value) (l:List (Ou)) (b:Nat) (t:Nat->Bool) (R:Nat->World->Prop) (hl:Zak 2 ouC (fun _ x=>x.name.length<=maxLen) w0 v l) (hb:Below w0.heap.size w0 w) (h0:R 0 w)
  (hf:∀ (k:Nat) (x:Ou) (wr:World),l[k]? = some x->Below w0.heap.size w0 wr->R k wr->Calls Tryz.prog 140 #[.agg #[txt x.name,.int .i64 x.to],.pointer (some ⟨b,0,none⟩)] wr fun e w'=>e=.returned (.bool (t k))/\Below w0.heap.size w0 w'/\R (k+1) w') :
  Calls Tryz.prog 107 #[v,.func (.func 140) #[] #[.pointer (some ⟨b,0,none⟩)]] w fun e w'=>e=.returned (.int .i64 (ZE t l.length))/\Below w0.heap.size w0 w'/\∃ k,R k w':=by
 obtain ⟨A,cp,rfl,h2,h3,h4,h5⟩:=hl
 obtain ⟨n,hn⟩:∃ n,n=l.length:=⟨_,rfl⟩
 have hmx:n<=9223372036854775807:=by unfold maxLen at h3;omega
 rw [<- hn] at h2 h4 ⊢
 have HN:=zh (zi hn (zi hmx hf))
 have H4:=zh h4
 have S0:=zh (zi hb h0)
 clear hn h2 h3 h4 h5 hmx hf hb h0
 go_enter Tryz.func107,Tryz.ntmps107
 go_wp2_with fail
 go_loopg [8] n (fun g v8 wr=>∃ k:Nat,v8=.int .i64 k/\k<=n/\g=n-k/\(∀ i,i<k->t i=false)/\Below w0.heap.size w0 wr/\R k wr)
 case atStart=>exact ⟨0,rfl,Nat.zero_le _,rfl,fun i hi=>absurd hi (Nat.not_lt_zero _),S0.out.1,S0.out.2⟩
 case round=>
  obtain ⟨k,rfl,hk,hg,hall,hb,hr⟩:=hrel
  by_cases hkn:k=n
  ·subst hkn
   have FIN:=zh (zi (Zas hall) (zi hb hr))
   clear hk hg hall hb hr
   go_wp2_with fail
   go_ret
   exact ⟨by rw [FIN.out.1];rfl,FIN.out.2.1,_,FIN.out.2.2⟩
  ·have hlt:k<n:=by omega
   obtain ⟨x,hx⟩:∃ x,l[k]? = some x:=⟨_,List.getElem?_eq_getElem (by have:=HN.out.1;omega)⟩
   obtain ⟨ad,rfl,d0,d1⟩:=ZaN ZbB H4.out hb hx (by omega)
   have CL:=zh (HN.out.2.2 k x wr hx hb hr)
   unfold ouC at d0 d1
   simp only [List.getElem?_cons_zero,List.getElem?_cons_succ] at d0 d1
   have i1:(k:Int)<(n:Int):=by omega
   have i2:(0:Int)<=(k:Int):=by omega
   have wk:IntKind.i64.wrap ((k:Int)+1)=(k:Int)+1:=IntWalk.i64_in _ (by have:=HN.out.2.1;omega)
   have HK:=zh (zi hlt (zi hg hall))
   clear hkn hlt hk hg hall hb hr hx
   cases q:t k
   ·rw [q] at CL
    have NX:=zh (show ∀ i,i<k+1->t i=false from fun i hi=>by
     by_cases e:i=k
     ·rw [e];exact q
     ·exact HK.out.2.2 i (by omega))
    clear q
    go_wp2_with (go_at_call 140;(with_reducible refine CL.out.mono ?_);rintro e w1 ⟨rfl,hb1,hr1⟩;have H1:=zh (zi hb1 hr1);clear hb1 hr1)
    go_roundg (n-(k+1))
    case measure=>have:=HK.out.1;have:=HK.out.2.1;omega
    case rel=>exact ⟨k+1,by push_cast;rfl,HK.out.1,rfl,NX.out,H1.out.1,H1.out.2⟩
   ·rw [q] at CL
    have FH:=zh (ZaA HK.out.1 q HK.out.2.2)
    clear q
    go_wp2_with (go_at_call 140;(with_reducible refine CL.out.mono ?_);rintro e w1 ⟨rfl,hb1,hr1⟩;have H1:=zh (zi hb1 hr1);clear hb1 hr1)
    go_ret
    exact ⟨by rw [FH.out];rfl,H1.out.1,_,H1.out.2⟩
end
end Go.Proofs.YtkgkmdhpnhmcpaaGreatDoor
