import Derived.Test.YtaacbenikcbibabGreatDoorQAB
set_option maxRecDepth 100000
set_option maxHeartbeats 8000000
namespace Go.Proofs.YtaacbenikcbibabGreatDoor
section
open Go.RowKit
def ZH (t:Nat->Bool) (n:Nat):Int:=match (List.range n).find? t with
 | some k=>(k:Int)
 | none=>-1
theorem Zav {t:Nat->Bool} {n:Nat} (h:∀ i,i<n->t i=false):ZH t n=-1:=by
 unfold ZH
 rw [List.find?_eq_none.mpr (fun i hi=>by rw [h i (List.mem_range.mp hi)];decide)]
theorem ZaE {t:Nat->Bool} {n k:Nat} (hk:k<n) (ht:t k=true) (h:∀ i,i<k->t i=false):ZH t n=(k:Int):=by
 unfold ZH
 rw [List.find?_range_eq_some.mpr ⟨ht,List.mem_range.mpr hk,fun j hj=>by rw [h j hj];rfl⟩]
theorem Zdc {t:Nat->Bool} {n:Nat}:decide (0<=ZH t n)=(List.range n).any t:=by
 unfold ZH
 cases h:(List.range n).find? t with
 | none=>
  rw [List.find?_eq_none] at h
  symm
  rw [List.any_eq_false.mpr h]
  rfl
 | some k=>
  have:=List.find?_some h
  symm
  rw [List.any_eq_true.mpr ⟨k,List.mem_of_find?_eq_some h,this⟩]
  simp
theorem ZbB (x:Sta):(stC x).length=2:=rfl
theorem ZbA (x:Ou):(ouC x).length=2:=rfl
theorem ZaR (x:Value×Mov):(mvC x).length=3:=rfl
theorem ZiA (w0 w:World) (v:Value) (l:List (Sta)) (b:Nat) (t:Nat->Bool) (R:Nat->World->Prop) (hl:Zak 2 stC (fun _ x=>x.name.length<=maxLen) w0 v l) (hb:Below w0.heap.size w0 w) (h0:R 0 w)
  (hf:∀ (k:Nat) (x:Sta) (wr:World),l[k]? = some x->Below w0.heap.size w0 wr->R k wr->Calls Tryz.prog 71 #[.agg #[txt x.name,.bool x.final],.pointer (some ⟨b,0,none⟩)] wr fun e w'=>e=.returned (.bool (t k))/\Below w0.heap.size w0 w'/\R (k+1) w') :
  Calls Tryz.prog 70 #[v,.func (.func 71) #[] #[.pointer (some ⟨b,0,none⟩)]] w fun e w'=>e=.returned (.int .i64 (ZH t l.length))/\Below w0.heap.size w0 w'/\∃ k,R k w':=by
 obtain ⟨A,cp,rfl,h2,h3,h4,h5⟩:=hl
 obtain ⟨n,hn⟩:∃ n,n=l.length:=⟨_,rfl⟩
 have hmx:n<=9223372036854775807:=by unfold maxLen at h3;omega
 rw [<- hn] at h2 h4 ⊢
 have HN:=Lib.hid (And.intro hn (And.intro hmx hf))
 have H4:=Lib.hid h4
 have S0:=Lib.hid (And.intro hb h0)
 clear hn h2 h3 h4 h5 hmx hf hb h0
 go_enter Tryz.func70,Tryz.ntmps70
 go_wp2_with fail
 go_loopg [8] n (fun g v8 wr=>∃ k:Nat,v8=.int .i64 k/\k<=n/\g=n-k/\(∀ i,i<k->t i=false)/\Below w0.heap.size w0 wr/\R k wr)
 case atStart=>exact ⟨0,rfl,Nat.zero_le _,rfl,fun i hi=>absurd hi (Nat.not_lt_zero _),S0.out.1,S0.out.2⟩
 case round=>
  obtain ⟨k,rfl,hk,hg,hall,hb,hr⟩:=hrel
  by_cases hkn:k=n
  ·subst hkn
   have FIN:=Lib.hid (And.intro (Zav hall) (And.intro hb hr))
   clear hk hg hall hb hr
   go_wp2_with fail
   go_ret
   exact ⟨by rw [FIN.out.1];rfl,FIN.out.2.1,_,FIN.out.2.2⟩
  ·have hlt:k<n:=by omega
   obtain ⟨x,hx⟩:∃ x,l[k]? = some x:=⟨_,List.getElem?_eq_getElem (by have:=HN.out.1;omega)⟩
   obtain ⟨ad,rfl,d0,d1⟩:=ZaP ZbB H4.out hb hx (by omega)
   have CL:=Lib.hid (HN.out.2.2 k x wr hx hb hr)
   unfold stC at d0 d1
   simp only [List.getElem?_cons_zero,List.getElem?_cons_succ] at d0 d1
   have i1:(k:Int)<(n:Int):=by omega
   have i2:(0:Int)<=(k:Int):=by omega
   have wk:IntKind.i64.wrap ((k:Int)+1)=(k:Int)+1:=IntWalk.i64_in _ (by have:=HN.out.2.1;omega)
   have HK:=Lib.hid (And.intro hlt (And.intro hg hall))
   clear hkn hlt hk hg hall hb hr hx
   cases q:t k
   ·rw [q] at CL
    have NX:=Lib.hid (show ∀ i,i<k+1->t i=false from fun i hi=>by
     by_cases e:i=k
     ·rw [e];exact q
     ·exact HK.out.2.2 i (by omega))
    clear q
    go_wp2_with (go_at_call 71;(with_reducible refine CL.out.mono ?_);rintro e w1 ⟨rfl,hb1,hr1⟩;have H1:=Lib.hid (And.intro hb1 hr1);clear hb1 hr1)
    go_roundg (n-(k+1))
    case measure=>have:=HK.out.1;have:=HK.out.2.1;omega
    case rel=>exact ⟨k+1,by push_cast;rfl,HK.out.1,rfl,NX.out,H1.out.1,H1.out.2⟩
   ·rw [q] at CL
    have FH:=Lib.hid (ZaE HK.out.1 q HK.out.2.2)
    clear q
    go_wp2_with (go_at_call 71;(with_reducible refine CL.out.mono ?_);rintro e w1 ⟨rfl,hb1,hr1⟩;have H1:=Lib.hid (And.intro hb1 hr1);clear hb1 hr1)
    go_ret
    exact ⟨by rw [FH.out];rfl,H1.out.1,_,H1.out.2⟩
theorem ZgS (w0 w:World) (v:Value) (l:List (Value×Mov)) (b:Nat) (t:Nat->Bool) (R:Nat->World->Prop) (hl:Zak 3 mvC (fun w x=>x.2.op.length<=maxLen/\Zaj w x.1 x.2.outs) w0 v l) (hb:Below w0.heap.size w0 w) (h0:R 0 w)
  (hf:∀ (k:Nat) (x:Value×Mov) (wr:World),l[k]? = some x->Below w0.heap.size w0 wr->R k wr->Calls Tryz.prog 73 #[.agg #[txt x.2.op,.int .i64 x.2.at_,x.1],.pointer (some ⟨b,0,none⟩)] wr fun e w'=>e=.returned (.bool (t k))/\Below w0.heap.size w0 w'/\R (k+1) w') :
  Calls Tryz.prog 30 #[v,.func (.func 73) #[] #[.pointer (some ⟨b,0,none⟩)]] w fun e w'=>e=.returned (.int .i64 (ZH t l.length))/\Below w0.heap.size w0 w'/\∃ k,R k w':=by
 obtain ⟨A,cp,rfl,h2,h3,h4,h5⟩:=hl
 obtain ⟨n,hn⟩:∃ n,n=l.length:=⟨_,rfl⟩
 have hmx:n<=9223372036854775807:=by unfold maxLen at h3;omega
 rw [<- hn] at h2 h4 ⊢
 have HN:=Lib.hid (And.intro hn (And.intro hmx hf))
 have H4:=Lib.hid h4
 have S0:=Lib.hid (And.intro hb h0)
 clear hn h2 h3 h4 h5 hmx hf hb h0
 go_enter Tryz.func30,Tryz.ntmps30
 go_wp2_with fail
 go_loopg [8] n (fun g v8 wr=>∃ k:Nat,v8=.int .i64 k/\k<=n/\g=n-k/\(∀ i,i<k->t i=false)/\Below w0.heap.size w0 wr/\R k wr)
 case atStart=>exact ⟨0,rfl,Nat.zero_le _,rfl,fun i hi=>absurd hi (Nat.not_lt_zero _),S0.out.1,S0.out.2⟩
 case round=>
  obtain ⟨k,rfl,hk,hg,hall,hb,hr⟩:=hrel
  by_cases hkn:k=n
  ·subst hkn
   have FIN:=Lib.hid (And.intro (Zav hall) (And.intro hb hr))
   clear hk hg hall hb hr
   go_wp2_with fail
   go_ret
   exact ⟨by rw [FIN.out.1];rfl,FIN.out.2.1,_,FIN.out.2.2⟩
  ·have hlt:k<n:=by omega
   obtain ⟨x,hx⟩:∃ x,l[k]? = some x:=⟨_,List.getElem?_eq_getElem (by have:=HN.out.1;omega)⟩
   obtain ⟨ad,rfl,d0,d1,d2⟩:=ZbI ZaR H4.out hb hx (by omega)
   have CL:=Lib.hid (HN.out.2.2 k x wr hx hb hr)
   unfold mvC at d0 d1 d2
   simp only [List.getElem?_cons_zero,List.getElem?_cons_succ] at d0 d1 d2
   have i1:(k:Int)<(n:Int):=by omega
   have i2:(0:Int)<=(k:Int):=by omega
   have wk:IntKind.i64.wrap ((k:Int)+1)=(k:Int)+1:=IntWalk.i64_in _ (by have:=HN.out.2.1;omega)
   have HK:=Lib.hid (And.intro hlt (And.intro hg hall))
   clear hkn hlt hk hg hall hb hr hx
   cases q:t k
   ·rw [q] at CL
    have NX:=Lib.hid (show ∀ i,i<k+1->t i=false from fun i hi=>by
     by_cases e:i=k
     ·rw [e];exact q
     ·exact HK.out.2.2 i (by omega))
    clear q
    go_wp2_with (go_at_call 73;(with_reducible refine CL.out.mono ?_);rintro e w1 ⟨rfl,hb1,hr1⟩;have H1:=Lib.hid (And.intro hb1 hr1);clear hb1 hr1)
    go_roundg (n-(k+1))
    case measure=>have:=HK.out.1;have:=HK.out.2.1;omega
    case rel=>exact ⟨k+1,by push_cast;rfl,HK.out.1,rfl,NX.out,H1.out.1,H1.out.2⟩
   ·rw [q] at CL
    have FH:=Lib.hid (ZaE HK.out.1 q HK.out.2.2)
    clear q
    go_wp2_with (go_at_call 73;(with_reducible refine CL.out.mono ?_);rintro e w1 ⟨rfl,hb1,hr1⟩;have H1:=Lib.hid (And.intro hb1 hr1);clear hb1 hr1)
    go_ret
    exact ⟨by rw [FH.out];rfl,H1.out.1,_,H1.out.2⟩
theorem ZhJ (w0 w:World) (v:Value) (l:List (Value×Mov)) (b:Nat) (t:Nat->Bool) (R:Nat->World->Prop) (hl:Zak 3 mvC (fun w x=>x.2.op.length<=maxLen/\Zaj w x.1 x.2.outs) w0 v l) (hb:Below w0.heap.size w0 w) (h0:R 0 w)
  (hf:∀ (k:Nat) (x:Value×Mov) (wr:World),l[k]? = some x->Below w0.heap.size w0 wr->R k wr->Calls Tryz.prog 76 #[.agg #[txt x.2.op,.int .i64 x.2.at_,x.1],.pointer (some ⟨b,0,none⟩)] wr fun e w'=>e=.returned (.bool (t k))/\Below w0.heap.size w0 w'/\R (k+1) w') :
  Calls Tryz.prog 30 #[v,.func (.func 76) #[] #[.pointer (some ⟨b,0,none⟩)]] w fun e w'=>e=.returned (.int .i64 (ZH t l.length))/\Below w0.heap.size w0 w'/\∃ k,R k w':=by
 obtain ⟨A,cp,rfl,h2,h3,h4,h5⟩:=hl
 obtain ⟨n,hn⟩:∃ n,n=l.length:=⟨_,rfl⟩
 have hmx:n<=9223372036854775807:=by unfold maxLen at h3;omega
 rw [<- hn] at h2 h4 ⊢
 have HN:=Lib.hid (And.intro hn (And.intro hmx hf))
 have H4:=Lib.hid h4
 have S0:=Lib.hid (And.intro hb h0)
 clear hn h2 h3 h4 h5 hmx hf hb h0
 go_enter Tryz.func30,Tryz.ntmps30
 go_wp2_with fail
 go_loopg [8] n (fun g v8 wr=>∃ k:Nat,v8=.int .i64 k/\k<=n/\g=n-k/\(∀ i,i<k->t i=false)/\Below w0.heap.size w0 wr/\R k wr)
 case atStart=>exact ⟨0,rfl,Nat.zero_le _,rfl,fun i hi=>absurd hi (Nat.not_lt_zero _),S0.out.1,S0.out.2⟩
 case round=>
  obtain ⟨k,rfl,hk,hg,hall,hb,hr⟩:=hrel
  by_cases hkn:k=n
  ·subst hkn
   have FIN:=Lib.hid (And.intro (Zav hall) (And.intro hb hr))
   clear hk hg hall hb hr
   go_wp2_with fail
   go_ret
   exact ⟨by rw [FIN.out.1];rfl,FIN.out.2.1,_,FIN.out.2.2⟩
  ·have hlt:k<n:=by omega
   obtain ⟨x,hx⟩:∃ x,l[k]? = some x:=⟨_,List.getElem?_eq_getElem (by have:=HN.out.1;omega)⟩
   obtain ⟨ad,rfl,d0,d1,d2⟩:=ZbI ZaR H4.out hb hx (by omega)
   have CL:=Lib.hid (HN.out.2.2 k x wr hx hb hr)
   unfold mvC at d0 d1 d2
   simp only [List.getElem?_cons_zero,List.getElem?_cons_succ] at d0 d1 d2
   have i1:(k:Int)<(n:Int):=by omega
   have i2:(0:Int)<=(k:Int):=by omega
   have wk:IntKind.i64.wrap ((k:Int)+1)=(k:Int)+1:=IntWalk.i64_in _ (by have:=HN.out.2.1;omega)
   have HK:=Lib.hid (And.intro hlt (And.intro hg hall))
   clear hkn hlt hk hg hall hb hr hx
   cases q:t k
   ·rw [q] at CL
    have NX:=Lib.hid (show ∀ i,i<k+1->t i=false from fun i hi=>by
     by_cases e:i=k
     ·rw [e];exact q
     ·exact HK.out.2.2 i (by omega))
    clear q
    go_wp2_with (go_at_call 76;(with_reducible refine CL.out.mono ?_);rintro e w1 ⟨rfl,hb1,hr1⟩;have H1:=Lib.hid (And.intro hb1 hr1);clear hb1 hr1)
    go_roundg (n-(k+1))
    case measure=>have:=HK.out.1;have:=HK.out.2.1;omega
    case rel=>exact ⟨k+1,by push_cast;rfl,HK.out.1,rfl,NX.out,H1.out.1,H1.out.2⟩
   ·rw [q] at CL
    have FH:=Lib.hid (ZaE HK.out.1 q HK.out.2.2)
    clear q
    go_wp2_with (go_at_call 76;(with_reducible refine CL.out.mono ?_);rintro e w1 ⟨rfl,hb1,hr1⟩;have H1:=Lib.hid (And.intro hb1 hr1);clear hb1 hr1)
    go_ret
    exact ⟨by rw [FH.out];rfl,H1.out.1,_,H1.out.2⟩
theorem ZhI (w0 w:World) (v:Value) (l:List (Value×Mov)) (b:Nat) (t:Nat->Bool) (R:Nat->World->Prop) (hl:Zak 3 mvC (fun w x=>x.2.op.length<=maxLen/\Zaj w x.1 x.2.outs) w0 v l) (hb:Below w0.heap.size w0 w) (h0:R 0 w)
  (hf:∀ (k:Nat) (x:Value×Mov) (wr:World),l[k]? = some x->Below w0.heap.size w0 wr->R k wr->Calls Tryz.prog 78 #[.agg #[txt x.2.op,.int .i64 x.2.at_,x.1],.pointer (some ⟨b,0,none⟩)] wr fun e w'=>e=.returned (.bool (t k))/\Below w0.heap.size w0 w'/\R (k+1) w') :
  Calls Tryz.prog 30 #[v,.func (.func 78) #[] #[.pointer (some ⟨b,0,none⟩)]] w fun e w'=>e=.returned (.int .i64 (ZH t l.length))/\Below w0.heap.size w0 w'/\∃ k,R k w':=by
 obtain ⟨A,cp,rfl,h2,h3,h4,h5⟩:=hl
 obtain ⟨n,hn⟩:∃ n,n=l.length:=⟨_,rfl⟩
 have hmx:n<=9223372036854775807:=by unfold maxLen at h3;omega
 rw [<- hn] at h2 h4 ⊢
 have HN:=Lib.hid (And.intro hn (And.intro hmx hf))
 have H4:=Lib.hid h4
 have S0:=Lib.hid (And.intro hb h0)
 clear hn h2 h3 h4 h5 hmx hf hb h0
 go_enter Tryz.func30,Tryz.ntmps30
 go_wp2_with fail
 go_loopg [8] n (fun g v8 wr=>∃ k:Nat,v8=.int .i64 k/\k<=n/\g=n-k/\(∀ i,i<k->t i=false)/\Below w0.heap.size w0 wr/\R k wr)
 case atStart=>exact ⟨0,rfl,Nat.zero_le _,rfl,fun i hi=>absurd hi (Nat.not_lt_zero _),S0.out.1,S0.out.2⟩
 case round=>
  obtain ⟨k,rfl,hk,hg,hall,hb,hr⟩:=hrel
  by_cases hkn:k=n
  ·subst hkn
   have FIN:=Lib.hid (And.intro (Zav hall) (And.intro hb hr))
   clear hk hg hall hb hr
   go_wp2_with fail
   go_ret
   exact ⟨by rw [FIN.out.1];rfl,FIN.out.2.1,_,FIN.out.2.2⟩
  ·have hlt:k<n:=by omega
   obtain ⟨x,hx⟩:∃ x,l[k]? = some x:=⟨_,List.getElem?_eq_getElem (by have:=HN.out.1;omega)⟩
   obtain ⟨ad,rfl,d0,d1,d2⟩:=ZbI ZaR H4.out hb hx (by omega)
   have CL:=Lib.hid (HN.out.2.2 k x wr hx hb hr)
   unfold mvC at d0 d1 d2
   simp only [List.getElem?_cons_zero,List.getElem?_cons_succ] at d0 d1 d2
   have i1:(k:Int)<(n:Int):=by omega
   have i2:(0:Int)<=(k:Int):=by omega
   have wk:IntKind.i64.wrap ((k:Int)+1)=(k:Int)+1:=IntWalk.i64_in _ (by have:=HN.out.2.1;omega)
   have HK:=Lib.hid (And.intro hlt (And.intro hg hall))
   clear hkn hlt hk hg hall hb hr hx
   cases q:t k
   ·rw [q] at CL
    have NX:=Lib.hid (show ∀ i,i<k+1->t i=false from fun i hi=>by
     by_cases e:i=k
     ·rw [e];exact q
     ·exact HK.out.2.2 i (by omega))
    clear q
    go_wp2_with (go_at_call 78;(with_reducible refine CL.out.mono ?_);rintro e w1 ⟨rfl,hb1,hr1⟩;have H1:=Lib.hid (And.intro hb1 hr1);clear hb1 hr1)
    go_roundg (n-(k+1))
    case measure=>have:=HK.out.1;have:=HK.out.2.1;omega
    case rel=>exact ⟨k+1,by push_cast;rfl,HK.out.1,rfl,NX.out,H1.out.1,H1.out.2⟩
   ·rw [q] at CL
    have FH:=Lib.hid (ZaE HK.out.1 q HK.out.2.2)
    clear q
    go_wp2_with (go_at_call 78;(with_reducible refine CL.out.mono ?_);rintro e w1 ⟨rfl,hb1,hr1⟩;have H1:=Lib.hid (And.intro hb1 hr1);clear hb1 hr1)
    go_ret
    exact ⟨by rw [FH.out];rfl,H1.out.1,_,H1.out.2⟩
theorem Ziz (w0 w:World) (v:Value) (l:List (Ou)) (b:Nat) (t:Nat->Bool) (R:Nat->World->Prop) (hl:Zak 2 ouC (fun _ x=>x.name.length<=maxLen) w0 v l) (hb:Below w0.heap.size w0 w) (h0:R 0 w)
  (hf:∀ (k:Nat) (x:Ou) (wr:World),l[k]? = some x->Below w0.heap.size w0 wr->R k wr->Calls Tryz.prog 74 #[.agg #[txt x.name,.int .i64 x.to],.pointer (some ⟨b,0,none⟩)] wr fun e w'=>e=.returned (.bool (t k))/\Below w0.heap.size w0 w'/\R (k+1) w') :
  Calls Tryz.prog 68 #[v,.func (.func 74) #[] #[.pointer (some ⟨b,0,none⟩)]] w fun e w'=>e=.returned (.int .i64 (ZH t l.length))/\Below w0.heap.size w0 w'/\∃ k,R k w':=by
 obtain ⟨A,cp,rfl,h2,h3,h4,h5⟩:=hl
 obtain ⟨n,hn⟩:∃ n,n=l.length:=⟨_,rfl⟩
 have hmx:n<=9223372036854775807:=by unfold maxLen at h3;omega
 rw [<- hn] at h2 h4 ⊢
 have HN:=Lib.hid (And.intro hn (And.intro hmx hf))
 have H4:=Lib.hid h4
 have S0:=Lib.hid (And.intro hb h0)
 clear hn h2 h3 h4 h5 hmx hf hb h0
 go_enter Tryz.func68,Tryz.ntmps68
 go_wp2_with fail
 go_loopg [8] n (fun g v8 wr=>∃ k:Nat,v8=.int .i64 k/\k<=n/\g=n-k/\(∀ i,i<k->t i=false)/\Below w0.heap.size w0 wr/\R k wr)
 case atStart=>exact ⟨0,rfl,Nat.zero_le _,rfl,fun i hi=>absurd hi (Nat.not_lt_zero _),S0.out.1,S0.out.2⟩
 case round=>
  obtain ⟨k,rfl,hk,hg,hall,hb,hr⟩:=hrel
  by_cases hkn:k=n
  ·subst hkn
   have FIN:=Lib.hid (And.intro (Zav hall) (And.intro hb hr))
   clear hk hg hall hb hr
   go_wp2_with fail
   go_ret
   exact ⟨by rw [FIN.out.1];rfl,FIN.out.2.1,_,FIN.out.2.2⟩
  ·have hlt:k<n:=by omega
   obtain ⟨x,hx⟩:∃ x,l[k]? = some x:=⟨_,List.getElem?_eq_getElem (by have:=HN.out.1;omega)⟩
   obtain ⟨ad,rfl,d0,d1⟩:=ZaP ZbA H4.out hb hx (by omega)
   have CL:=Lib.hid (HN.out.2.2 k x wr hx hb hr)
   unfold ouC at d0 d1
   simp only [List.getElem?_cons_zero,List.getElem?_cons_succ] at d0 d1
   have i1:(k:Int)<(n:Int):=by omega
   have i2:(0:Int)<=(k:Int):=by omega
   have wk:IntKind.i64.wrap ((k:Int)+1)=(k:Int)+1:=IntWalk.i64_in _ (by have:=HN.out.2.1;omega)
   have HK:=Lib.hid (And.intro hlt (And.intro hg hall))
   clear hkn hlt hk hg hall hb hr hx
   cases q:t k
   ·rw [q] at CL
    have NX:=Lib.hid (show ∀ i,i<k+1->t i=false from fun i hi=>by
     by_cases e:i=k
     ·rw [e];exact q
     ·exact HK.out.2.2 i (by omega))
    clear q
    go_wp2_with (go_at_call 74;(with_reducible refine CL.out.mono ?_);rintro e w1 ⟨rfl,hb1,hr1⟩;have H1:=Lib.hid (And.intro hb1 hr1);clear hb1 hr1)
    go_roundg (n-(k+1))
    case measure=>have:=HK.out.1;have:=HK.out.2.1;omega
    case rel=>exact ⟨k+1,by push_cast;rfl,HK.out.1,rfl,NX.out,H1.out.1,H1.out.2⟩
   ·rw [q] at CL
    have FH:=Lib.hid (ZaE HK.out.1 q HK.out.2.2)
    clear q
    go_wp2_with (go_at_call 74;(with_reducible refine CL.out.mono ?_);rintro e w1 ⟨rfl,hb1,hr1⟩;have H1:=Lib.hid (And.intro hb1 hr1);clear hb1 hr1)
    go_ret
    exact ⟨by rw [FH.out];rfl,H1.out.1,_,H1.out.2⟩
theorem ZiY (w0 w:World) (v:Value) (l:List (Ou)) (b:Nat) (t:Nat->Bool) (R:Nat->World->Prop) (hl:Zak 2 ouC (fun _ x=>x.name.length<=maxLen) w0 v l) (hb:Below w0.heap.size w0 w) (h0:R 0 w)
  (hf:∀ (k:Nat) (x:Ou) (wr:World),l[k]? = some x->Below w0.heap.size w0 wr->R k wr->Calls Tryz.prog 99 #[.agg #[txt x.name,.int .i64 x.to],.pointer (some ⟨b,0,none⟩)] wr fun e w'=>e=.returned (.bool (t k))/\Below w0.heap.size w0 w'/\R (k+1) w') :
  Calls Tryz.prog 68 #[v,.func (.func 99) #[] #[.pointer (some ⟨b,0,none⟩)]] w fun e w'=>e=.returned (.int .i64 (ZH t l.length))/\Below w0.heap.size w0 w'/\∃ k,R k w':=by
 obtain ⟨A,cp,rfl,h2,h3,h4,h5⟩:=hl
 obtain ⟨n,hn⟩:∃ n,n=l.length:=⟨_,rfl⟩
 have hmx:n<=9223372036854775807:=by unfold maxLen at h3;omega
 rw [<- hn] at h2 h4 ⊢
 have HN:=Lib.hid (And.intro hn (And.intro hmx hf))
 have H4:=Lib.hid h4
 have S0:=Lib.hid (And.intro hb h0)
 clear hn h2 h3 h4 h5 hmx hf hb h0
 go_enter Tryz.func68,Tryz.ntmps68
 go_wp2_with fail
 go_loopg [8] n (fun g v8 wr=>∃ k:Nat,v8=.int .i64 k/\k<=n/\g=n-k/\(∀ i,i<k->t i=false)/\Below w0.heap.size w0 wr/\R k wr)
 case atStart=>exact ⟨0,rfl,Nat.zero_le _,rfl,fun i hi=>absurd hi (Nat.not_lt_zero _),S0.out.1,S0.out.2⟩
 case round=>
  obtain ⟨k,rfl,hk,hg,hall,hb,hr⟩:=hrel
  by_cases hkn:k=n
  ·subst hkn
   have FIN:=Lib.hid (And.intro (Zav hall) (And.intro hb hr))
   clear hk hg hall hb hr
   go_wp2_with fail
   go_ret
   exact ⟨by rw [FIN.out.1];rfl,FIN.out.2.1,_,FIN.out.2.2⟩
  ·have hlt:k<n:=by omega
   obtain ⟨x,hx⟩:∃ x,l[k]? = some x:=⟨_,List.getElem?_eq_getElem (by have:=HN.out.1;omega)⟩
   obtain ⟨ad,rfl,d0,d1⟩:=ZaP ZbA H4.out hb hx (by omega)
   have CL:=Lib.hid (HN.out.2.2 k x wr hx hb hr)
   unfold ouC at d0 d1
   simp only [List.getElem?_cons_zero,List.getElem?_cons_succ] at d0 d1
   have i1:(k:Int)<(n:Int):=by omega
   have i2:(0:Int)<=(k:Int):=by omega
   have wk:IntKind.i64.wrap ((k:Int)+1)=(k:Int)+1:=IntWalk.i64_in _ (by have:=HN.out.2.1;omega)
   have HK:=Lib.hid (And.intro hlt (And.intro hg hall))
   clear hkn hlt hk hg hall hb hr hx
   cases q:t k
   ·rw [q] at CL
    have NX:=Lib.hid (show ∀ i,i<k+1->t i=false from fun i hi=>by
     by_cases e:i=k
     ·rw [e];exact q
     ·exact HK.out.2.2 i (by omega))
    clear q
    go_wp2_with (go_at_call 99;(with_reducible refine CL.out.mono ?_);rintro e w1 ⟨rfl,hb1,hr1⟩;have H1:=Lib.hid (And.intro hb1 hr1);clear hb1 hr1)
    go_roundg (n-(k+1))
    case measure=>have:=HK.out.1;have:=HK.out.2.1;omega
    case rel=>exact ⟨k+1,by push_cast;rfl,HK.out.1,rfl,NX.out,H1.out.1,H1.out.2⟩
   ·rw [q] at CL
    have FH:=Lib.hid (ZaE HK.out.1 q HK.out.2.2)
    clear q
    go_wp2_with (go_at_call 99;(with_reducible refine CL.out.mono ?_);rintro e w1 ⟨rfl,hb1,hr1⟩;have H1:=Lib.hid (And.intro hb1 hr1);clear hb1 hr1)
    go_ret
    exact ⟨by rw [FH.out];rfl,H1.out.1,_,H1.out.2⟩
end
end Go.Proofs.YtaacbenikcbibabGreatDoor
