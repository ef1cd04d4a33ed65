import Derived.Test.YtaacbenikcbibabGreatDoorQAY
set_option maxRecDepth 100000
set_option maxHeartbeats 8000000
namespace Go.Proofs.YtaacbenikcbibabGreatDoor
section
open Go.RowKit
theorem Zdz {t:Nat->Bool} {n:Nat}:ZH t n<n/\-1<=ZH t n/\(0<=ZH t n->t (ZH t n).toNat=true):=by
 unfold ZH
 cases h:(List.range n).find? t with
 | none=>exact ⟨by show (-1:Int)<n;omega,by show (-1:Int)<=-1;omega,fun q=>absurd q (by decide)⟩
 | some k=>
  have h1:=List.mem_range.1 (List.mem_of_find?_eq_some h)
  exact ⟨by show (k:Int)<n;omega,by show (-1:Int)<=k;omega,fun _=>by show t ((k:Int)).toNat=true;rw [Int.toNat_natCast];exact List.find?_some h⟩
theorem ZdA {α:Type} {f:α->Bool} {l:List α}:ZX f l<l.length/\-1<=ZX f l:=by
 unfold ZX
 cases h:l.findIdx? f with
 | none=>exact ⟨by show (-1:Int)<l.length;omega,by show (-1:Int)<=-1;omega⟩
 | some k=>
  have h1:=(List.findIdx?_eq_some_iff_getElem.1 h).1
  exact ⟨by show (k:Int)<l.length;omega,by show (-1:Int)<=k;omega⟩
theorem ZiB (w0 w:World) (v:Value) (l:List (Ou)) (t:Nat->Bool) (R:Nat->World->Prop) (hl:Zak 2 ouC (fun _ x=>x.name.length<=maxLen) w0 v l) (hb:Below w0.heap.size w0 w) (h0:R 0 w)
  (hf:∀ (k:Nat) (x:Ou) (wr:World),l[k]? = some x->Below w0.heap.size w0 wr->R k wr->Calls Tryz.prog 46 #[.agg #[txt x.name,.int .i64 x.to]] wr fun e w'=>e=.returned (.bool (t k))/\Below w0.heap.size w0 w'/\R (k+1) w') :
  Calls Tryz.prog 68 #[v,.func (.func 46) #[] #[]] w fun e w'=>e=.returned (.int .i64 (ZH t l.length))/\Below w0.heap.size w0 w'/\∃ k,R k w':=by
 obtain ⟨A,cp,rfl,h2,h3,h4,h5⟩:=hl
 obtain ⟨n,hn⟩:∃ n,n=l.length:=⟨_,rfl⟩
 have hmx:n<=9223372036854775807:=by unfold maxLen at h3;omega
 rw [<- hn] at h2 h4 ⊢
 have HN:=Lib.hid (And.intro hn (And.intro hmx hf))
 have H4:=Lib.hid h4
 have S0:=Lib.hid (And.intro hb h0)
 clear hn h2 h3 h4 h5 hmx hf hb h0
 go_enter Tryz.func68,Tryz.ntmps68
 go_wp2_with fail
 go_loopg [8] n (fun g v8 wr=>∃ k:Nat,v8=.int .i64 k/\k<=n/\g=n-k/\(∀ i,i<k->t i=false)/\Below w0.heap.size w0 wr/\R k wr)
 case atStart=>exact ⟨0,rfl,Nat.zero_le _,rfl,fun i hi=>absurd hi (Nat.not_lt_zero _),S0.out.1,S0.out.2⟩
 case round=>
  obtain ⟨k,rfl,hk,hg,hall,hb,hr⟩:=hrel
  by_cases hkn:k=n
  ·subst hkn
   have FIN:=Lib.hid (And.intro (Zav hall) (And.intro hb hr))
   clear hk hg hall hb hr
   go_wp2_with fail
   go_ret
   exact ⟨by rw [FIN.out.1];rfl,FIN.out.2.1,_,FIN.out.2.2⟩
  ·have hlt:k<n:=by omega
   obtain ⟨x,hx⟩:∃ x,l[k]? = some x:=⟨_,List.getElem?_eq_getElem (by have:=HN.out.1;omega)⟩
   obtain ⟨ad,rfl,d0,d1⟩:=ZaP ZbA H4.out hb hx (by omega)
   have CL:=Lib.hid (HN.out.2.2 k x wr hx hb hr)
   unfold ouC at d0 d1
   simp only [List.getElem?_cons_zero,List.getElem?_cons_succ] at d0 d1
   have i1:(k:Int)<(n:Int):=by omega
   have i2:(0:Int)<=(k:Int):=by omega
   have wk:IntKind.i64.wrap ((k:Int)+1)=(k:Int)+1:=IntWalk.i64_in _ (by have:=HN.out.2.1;omega)
   have HK:=Lib.hid (And.intro hlt (And.intro hg hall))
   clear hkn hlt hk hg hall hb hr hx
   cases q:t k
   ·rw [q] at CL
    have NX:=Lib.hid (show ∀ i,i<k+1->t i=false from fun i hi=>by
     by_cases e:i=k
     ·rw [e];exact q
     ·exact HK.out.2.2 i (by omega))
    clear q
    go_wp2_with (go_at_call 46;(with_reducible refine CL.out.mono ?_);rintro e w1 ⟨rfl,hb1,hr1⟩;have H1:=Lib.hid (And.intro hb1 hr1);clear hb1 hr1)
    go_roundg (n-(k+1))
    case measure=>have:=HK.out.1;have:=HK.out.2.1;omega
    case rel=>exact ⟨k+1,by push_cast;rfl,HK.out.1,rfl,NX.out,H1.out.1,H1.out.2⟩
   ·rw [q] at CL
    have FH:=Lib.hid (ZaE HK.out.1 q HK.out.2.2)
    clear q
    go_wp2_with (go_at_call 46;(with_reducible refine CL.out.mono ?_);rintro e w1 ⟨rfl,hb1,hr1⟩;have H1:=Lib.hid (And.intro hb1 hr1);clear hb1 hr1)
    go_ret
    exact ⟨by rw [FH.out];rfl,H1.out.1,_,H1.out.2⟩
theorem Zio (w0 w:World) (v:Value) (l:List (Ou)) (t:Nat->Bool) (R:Nat->World->Prop) (hl:Zak 2 ouC (fun _ x=>x.name.length<=maxLen) w0 v l) (hb:Below w0.heap.size w0 w) (h0:R 0 w)
  (hf:∀ (k:Nat) (x:Ou) (wr:World),l[k]? = some x->Below w0.heap.size w0 wr->R k wr->Calls Tryz.prog 46 #[.agg #[txt x.name,.int .i64 x.to]] wr fun e w'=>e=.returned (.bool (t k))/\Below w0.heap.size w0 w'/\R (k+1) w') :
  Calls Tryz.prog 45 #[v,.func (.func 46) #[] #[]] w fun e w'=>e=.returned (.bool ((List.range l.length).any t))/\Below w0.heap.size w0 w'/\∃ k,R k w':=by
 have IXH:=Lib.hid (ZiB w0 w v l t R hl hb h0 hf)
 have EQ:=Lib.hid (Zdc (t:=t) (n:=l.length))
 clear hl hb h0 hf
 generalize (List.range l.length).any t=B at *
 generalize ZH t l.length=z at *
 go_enter Tryz.func45,Tryz.ntmps45
 go_wp2_with (go_at_call 68;(with_reducible refine IXH.out.mono ?_);rintro e w1 ⟨rfl,hb1,hr1⟩;have H1:=Lib.hid (And.intro hb1 hr1);clear hb1 hr1)
 go_ret
 exact ⟨by rw [<- EQ.out];rfl,H1.out⟩
theorem Zib (w:World) (x:Ou):Calls Tryz.prog 46 #[.agg #[txt x.name,.int .i64 x.to]] w fun e w'=>e=.returned (.bool (Zb3 x))/\Below w.heap.size w w':=by
 have a1:=Lib.hid (Za w (.cells #[txt x.name,.int .i64 x.to] 100))
 have B1:=Blk.start w #[txt x.name,.int .i64 x.to] 100
 have c1:=B1.cell 1
 simp only [List.getElem?_toArray,List.getElem?_cons_zero,List.getElem?_cons_succ] at c1
 have e:Zb3 x=(x.to==-1):=by unfold Zb3;cases h:(x.to==-1)<;>simp_all
 rw [e]
 clear B1 e
 go_enter Tryz.func46,Tryz.ntmps46
 go_wp2_with fail
 go_ret
 exact ⟨rfl,a1.out⟩
theorem ZhN (w:World) (vo:Value) (m:Mov) (ho:Zaj w vo m.outs) :
  Calls Tryz.prog 31 #[.agg #[txt m.op,.int .i64 m.at_,vo]] w fun e w'=>e=.returned (.bool (ZbK m))/\Below w.heap.size w w':=by
 obtain ⟨Ao,co,rfl,hlo⟩:=ho.len
 have a1:=Za w (.cells #[txt m.op,.int .i64 m.at_,.slice Ao m.outs.length co] 79)
 have B1:=Blk.start w #[txt m.op,.int .i64 m.at_,.slice Ao m.outs.length co] 79
 have CF:=Lib.hid (Zio _ _ _ m.outs (fun k=>match m.outs[k]? with | some o=>Zb3 o | none=>false) (fun _ _=>True) (ho.below a1) (Below.refl _ _) trivial (fun k x wr hx hb _=>(Zib wr x).mono fun e w' ⟨he,hb'⟩=>⟨by rw [he,hx],hb.trans (hb'.mono hb.size),trivial⟩))
 rw [Zco (f:=Zb3) (fun k x hx=>by rw [hx])] at CF
 have c1:=B1.cell 1
 have c2:=B1.cell 2
 simp only [List.getElem?_toArray,List.getElem?_cons_zero,List.getElem?_cons_succ] at c1 c2
 have HA:=Lib.hid a1
 clear ho hlo B1 a1
 unfold ZbK
 by_cases q:m.at_=-1
 ·have q2:(m.at_==-1)=true:=beq_iff_eq.mpr q
  rw [decide_eq_true q,Bool.true_or]
  clear q
  go_enter Tryz.func31,Tryz.ntmps31
  go_wp2_with fail
  go_ret
  exact ⟨rfl,HA.out⟩
 ·have q2:(m.at_==-1)=false:=beq_eq_false_iff_ne.mpr q
  rw [decide_eq_false q,Bool.false_or]
  clear q
  generalize m.outs.any Zb3=B at *
  go_enter Tryz.func31,Tryz.ntmps31
  go_wp2_with (go_at_call 45;(refine CF.out.mono ?_);rintro e w1 ⟨rfl,hb1,_⟩;have H1:=Lib.hid (HA.out.trans (hb1.mono HA.out.size));clear hb1)
  go_ret
  exact ⟨rfl,H1.out⟩
theorem Ziy (w0 w:World) (v:Value) (l:List (Value×Mov)) (t:Nat->Bool) (R:Nat->World->Prop) (hl:Zak 3 mvC (fun w x=>x.2.op.length<=maxLen/\Zaj w x.1 x.2.outs) w0 v l) (hb:Below w0.heap.size w0 w) (h0:R 0 w)
  (hf:∀ (k:Nat) (x:Value×Mov) (wr:World),l[k]? = some x->Below w0.heap.size w0 wr->R k wr->Calls Tryz.prog 31 #[.agg #[txt x.2.op,.int .i64 x.2.at_,x.1]] wr fun e w'=>e=.returned (.bool (t k))/\Below w0.heap.size w0 w'/\R (k+1) w') :
  Calls Tryz.prog 30 #[v,.func (.func 31) #[] #[]] w fun e w'=>e=.returned (.int .i64 (ZH t l.length))/\Below w0.heap.size w0 w'/\∃ k,R k w':=by
 obtain ⟨A,cp,rfl,h2,h3,h4,h5⟩:=hl
 obtain ⟨n,hn⟩:∃ n,n=l.length:=⟨_,rfl⟩
 have hmx:n<=9223372036854775807:=by unfold maxLen at h3;omega
 rw [<- hn] at h2 h4 ⊢
 have HN:=Lib.hid (And.intro hn (And.intro hmx hf))
 have H4:=Lib.hid h4
 have S0:=Lib.hid (And.intro hb h0)
 clear hn h2 h3 h4 h5 hmx hf hb h0
 go_enter Tryz.func30,Tryz.ntmps30
 go_wp2_with fail
 go_loopg [8] n (fun g v8 wr=>∃ k:Nat,v8=.int .i64 k/\k<=n/\g=n-k/\(∀ i,i<k->t i=false)/\Below w0.heap.size w0 wr/\R k wr)
 case atStart=>exact ⟨0,rfl,Nat.zero_le _,rfl,fun i hi=>absurd hi (Nat.not_lt_zero _),S0.out.1,S0.out.2⟩
 case round=>
  obtain ⟨k,rfl,hk,hg,hall,hb,hr⟩:=hrel
  by_cases hkn:k=n
  ·subst hkn
   have FIN:=Lib.hid (And.intro (Zav hall) (And.intro hb hr))
   clear hk hg hall hb hr
   go_wp2_with fail
   go_ret
   exact ⟨by rw [FIN.out.1];rfl,FIN.out.2.1,_,FIN.out.2.2⟩
  ·have hlt:k<n:=by omega
   obtain ⟨x,hx⟩:∃ x,l[k]? = some x:=⟨_,List.getElem?_eq_getElem (by have:=HN.out.1;omega)⟩
   obtain ⟨ad,rfl,d0,d1,d2⟩:=ZbI ZaR H4.out hb hx (by omega)
   have CL:=Lib.hid (HN.out.2.2 k x wr hx hb hr)
   unfold mvC at d0 d1 d2
   simp only [List.getElem?_cons_zero,List.getElem?_cons_succ] at d0 d1 d2
   have i1:(k:Int)<(n:Int):=by omega
   have i2:(0:Int)<=(k:Int):=by omega
   have wk:IntKind.i64.wrap ((k:Int)+1)=(k:Int)+1:=IntWalk.i64_in _ (by have:=HN.out.2.1;omega)
   have HK:=Lib.hid (And.intro hlt (And.intro hg hall))
   clear hkn hlt hk hg hall hb hr hx
   cases q:t k
   ·rw [q] at CL
    have NX:=Lib.hid (show ∀ i,i<k+1->t i=false from fun i hi=>by
     by_cases e:i=k
     ·rw [e];exact q
     ·exact HK.out.2.2 i (by omega))
    clear q
    go_wp2_with (go_at_call 31;(with_reducible refine CL.out.mono ?_);rintro e w1 ⟨rfl,hb1,hr1⟩;have H1:=Lib.hid (And.intro hb1 hr1);clear hb1 hr1)
    go_roundg (n-(k+1))
    case measure=>have:=HK.out.1;have:=HK.out.2.1;omega
    case rel=>exact ⟨k+1,by push_cast;rfl,HK.out.1,rfl,NX.out,H1.out.1,H1.out.2⟩
   ·rw [q] at CL
    have FH:=Lib.hid (ZaE HK.out.1 q HK.out.2.2)
    clear q
    go_wp2_with (go_at_call 31;(with_reducible refine CL.out.mono ?_);rintro e w1 ⟨rfl,hb1,hr1⟩;have H1:=Lib.hid (And.intro hb1 hr1);clear hb1 hr1)
    go_ret
    exact ⟨by rw [FH.out];rfl,H1.out.1,_,H1.out.2⟩
end
section
open Go.RowKit
theorem ZgQ (f:Mov->Bool) (l:List (Value×Mov)):ZX (fun x:Value×Mov=>f x.2) l=ZX f (l.map (·.2)):=by
 unfold ZX
 rw [List.findIdx?_map]
 rfl
theorem Zhp {p:Pro} (h:(Zy p).1≠0) (hs:p.states.length≠0):(((Zy p).1=1\/(Zy p).1=5)->0<=(Zy p).2/\(Zy p).2<p.states.length)/\(¬ ((Zy p).1=1\/(Zy p).1=5)->0<=(Zy p).2/\(Zy p).2<p.moves.length):=by
 unfold Zy at h ⊢
 by_cases q:p.states.length=0\/16<p.states.length
 ·rw [if_pos q]
  exact ⟨fun _=>⟨Int.le_refl _,by show (0:Int)<_;omega⟩,fun k=>absurd (.inl rfl) k⟩
 rw [if_neg q] at h ⊢
 split
 ·rename_i z
  exact ⟨fun _=>⟨z,Zdz.1⟩,fun k=>absurd (.inl rfl) k⟩
 rename_i z1
 rw [if_neg z1] at h
 split
 ·rename_i z
  exact ⟨fun k=>by simp at k,fun _=>⟨z,ZdA.1⟩⟩
 rename_i z2
 rw [if_neg z2] at h
 split
 ·rename_i z
  exact ⟨fun k=>by simp at k,fun _=>⟨z,Zdz.1⟩⟩
 rename_i z3
 rw [if_neg z3] at h
 split
 ·rename_i z
  exact ⟨fun k=>by simp at k,fun _=>⟨z,ZdA.1⟩⟩
 rename_i z4
 rw [if_neg z4] at h
 split
 ·rename_i z
  exact ⟨fun _=>⟨z,Zdz.1⟩,fun k=>absurd (.inr rfl) k⟩
 rename_i z5
 rw [if_neg z5] at h
 exact absurd rfl h
theorem Zf1 (w:World) (vs vm va vo:Value) (d:Dcl) (used:Bool) (h:ProAt w vs vm d.pro) (hs:ZL w va d.sts) (ho:ZL w vo d.ops) (l1:d.sts.length=d.pro.states.length) (l2:d.ops.length=d.pro.moves.length) (hml:d.pro.moves.length<1000000) (hol:∀ m∈d.pro.moves,m.outs.length<1000000) :
  Calls Tryz.prog 15 #[.agg #[txt d.pro.name,vs,vm,.int .i64 d.at_,va,vo],.bool used] w fun e w'=>e=.returned (.tuple #[.int .i64 (ZaG used d).1,.int .i64 (ZaG used d).2])/\Below w.heap.size w w':=by
 have hP:=h
 obtain ⟨rs,hm,hM⟩:=h.moves
 obtain ⟨As,cs,rfl,hsl⟩:=h.states.len
 have hrl:rs.length=d.pro.moves.length:=by rw [<- hm,List.length_map]
 obtain ⟨Am,cm,rfl,hm2,hm3,_⟩:=id hM
 obtain ⟨Aa,ca,rfl,ha1,ha2,hA⟩:=hs
 obtain ⟨Ao,co,rfl,ho1,ho2,hO⟩:=ho
 have a1:=Za w (.cells #[txt d.pro.name,.slice As d.pro.states.length cs,.slice Am rs.length cm,.int .i64 d.at_,.slice Aa d.sts.length ca,.slice Ao d.ops.length co] 54)
 have B1:=Ze.start w #[txt d.pro.name,.slice As d.pro.states.length cs,.slice Am rs.length cm,.int .i64 d.at_,.slice Aa d.sts.length ca,.slice Ao d.ops.length co] 54
 have IX:=Lib.hid (Ziy _ _ _ rs (fun k=>match rs[k]? with | some x=>ZbK x.2 | none=>false) (fun _ _=>True) (Zak.below (fun _ _ _ h hb=>⟨h.1,h.2.below hb⟩) hM a1) (Below.refl _ _) trivial (fun k x wr hx hb _=>by
  obtain ⟨_,_,_,_,_,_,hall⟩:=Zak.below (fun _ _ _ h hb=>⟨h.1,Zaj.below h.2 hb⟩) hM a1
  exact (ZhN wr x.1 x.2 ((hall x (List.mem_of_getElem? hx)).2.below hb)).mono fun e w' ⟨he,hb'⟩=>⟨by rw [he,hx],hb.trans (hb'.mono hb.size),trivial⟩))
 rw [Zcx (f:=fun x:Value×Mov=>ZbK x.2) (fun k x hx=>by rw [hx]),ZgQ ZbK rs,hm] at IX
 have WR:=Lib.hid (fun (V:World) (hb:Below w.heap.size w V)=>Zd0 V _ _ d.pro (hP.below hb) hml hol)
 have AT1:=Lib.hid (fun (V:World) (hb:Below w.heap.size w V) (k:Nat) (u:Int) (hu:d.ops[k]? = some u)=>ZC hO hb hu (by have:=(List.getElem?_eq_some_iff.1 hu).1;omega))
 have AT2:=Lib.hid (fun (V:World) (hb:Below w.heap.size w V) (k:Nat) (u:Int) (hu:d.sts[k]? = some u)=>ZC hA hb hu (by have:=(List.getElem?_eq_some_iff.1 hu).1;omega))
 have HH:=Lib.hid (And.intro a1 (And.intro B1 (And.intro hrl (And.intro l1 (And.intro l2 (And.intro ho1 (And.intro ho2 (And.intro ha1 ha2))))))))
 clear hP h hM hm hA hO a1 l1 l2 hml hol ho1 ho2 ha1 ha2 hsl hm2 hm3 hrl
 generalize hz:ZX ZbK d.pro.moves=z at *
 have hz1:z<d.pro.moves.length:=by rw [<- hz];exact ZdA.1
 have c0:=B1.blk.cell 0
 have c1:=B1.blk.cell 1
 have c2:=B1.blk.cell 2
 have c3:=B1.blk.cell 3
 have c4:=B1.blk.cell 4
 have c5:=B1.blk.cell 5
 simp only [List.getElem?_toArray,List.getElem?_cons_zero,List.getElem?_cons_succ] at c0 c1 c2 c3 c4 c5
 clear B1
 by_cases qu:used=true
 ·subst qu
  clear IX WR AT1 AT2
  go_enter Tryz.func15,Tryz.ntmps15
  go_wp2_with fail
  go_region
  go_wp2_with fail
  exact bodyPost_ret (v:=.tuple #[.int .i64 2,.int .i64 d.at_]) (by simp [results,Tryz.results15,go_sem]) rfl ⟨rfl,HH.out.1.drew⟩
 have qf:used=false:=by simpa using qu
 subst qf
 clear qu
 by_cases qz:0<=z
 ·obtain ⟨k,rfl⟩:=Int.eq_ofNat_of_zero_le qz
  have kl:k<d.ops.length:=by have:=HH.out.2.2.2.2.1;omega
  obtain ⟨u,hu⟩:∃ u,d.ops[k]? = some u:=⟨_,List.getElem?_eq_getElem kl⟩
  have eW:ZaG false d=(3,u):=by
   unfold ZaG
   rw [if_neg (by decide),hz,if_pos qz,Int.toNat_natCast,hu]
   rfl
  rw [eW]
  have i1:(k:Int)<(d.ops.length:Int):=by omega
  have i2:(0:Int)<=(k:Int):=by omega
  have AT:=Lib.hid (fun (V:World) (hb:Below w.heap.size w V)=>AT1.out V hb k u hu)
  clear WR AT1 AT2 hz hz1 qz eW hu kl
  go_enter Tryz.func15,Tryz.ntmps15
  go_upto_region 5 with (go_at_call 30;(with_reducible refine IX.out.mono ?_);rintro e w1 ⟨rfl,hb1,_⟩;have b1:=HH.out.1.trans (hb1.mono HH.out.1.size);have X1:=HH.out.2.1.keep hb1;have H1:=Lib.hid b1;have e0:=X1.blk.cell 0;have e1:=X1.blk.cell 1;have e2:=X1.blk.cell 2;have e3:=X1.blk.cell 3;have e4:=X1.blk.cell 4;have e5:=X1.blk.cell 5;simp only [List.getElem?_toArray,List.getElem?_cons_zero,List.getElem?_cons_succ] at e0 e1 e2 e3 e4 e5;have HX1:=Lib.hid X1;clear hb1 b1 X1)
  obtain ⟨ad,rfl,r0⟩:=AT.out w1 H1.out
  go_region
  go_wp2_with fail
  exact bodyPost_ret (v:=.tuple #[.int .i64 3,.int .i64 u]) (by simp [results,Tryz.results15,go_sem]) rfl ⟨rfl,H1.out.drew⟩
 have tz:decide (0<=z)=false:=decide_eq_false qz
 have eW0:ZaG false d=(if (Zy d.pro).1=0 then (0,0) else if d.pro.states.length=0 then (1,d.at_) else if (Zy d.pro).1=1\/(Zy d.pro).1=5 then (1,(d.sts[(Zy d.pro).2.toNat]?).getD 0) else (1,(d.ops[(Zy d.pro).2.toNat]?).getD 0)):=by
  unfold ZaG
  rw [if_neg (by decide),hz,if_neg qz]
 rw [eW0]
 have WA:=fun h0 hs=>Zhp (p:=d.pro) h0 hs
 generalize Zy d.pro=r at *
 obtain ⟨rr,ri⟩:=r
 dsimp only at WR WA ⊢
 clear hz eW0 hz1
 by_cases q0:rr=0
 ·subst q0
  rw [if_pos rfl]
  clear AT1 AT2 WA
  go_enter Tryz.func15,Tryz.ntmps15
  go_wp2_with (first
   | (go_at_call 30;(with_reducible refine IX.out.mono ?_);rintro e w1 ⟨rfl,hb1,_⟩;have b1:=HH.out.1.trans (hb1.mono HH.out.1.size);have X1:=HH.out.2.1.keep hb1;have H1:=Lib.hid b1;have e0:=X1.blk.cell 0;have e1:=X1.blk.cell 1;have e2:=X1.blk.cell 2;have e3:=X1.blk.cell 3;have e4:=X1.blk.cell 4;have e5:=X1.blk.cell 5;simp only [List.getElem?_toArray,List.getElem?_cons_zero,List.getElem?_cons_succ] at e0 e1 e2 e3 e4 e5;have HX1:=Lib.hid X1;clear hb1 b1 X1)
   | (go_at_call 32;(refine (WR.out _ H1.out).mono ?_);rintro e w2 ⟨rfl,hb2⟩;have X2:=HX1.out.keep hb2;have H2:=Lib.hid (H1.out.trans (hb2.mono H1.out.size));have g0:=X2.blk.cell 0;have g1:=X2.blk.cell 1;have g2:=X2.blk.cell 2;have g3:=X2.blk.cell 3;have g4:=X2.blk.cell 4;have g5:=X2.blk.cell 5;simp only [List.getElem?_toArray,List.getElem?_cons_zero,List.getElem?_cons_succ] at g0 g1 g2 g3 g4 g5;clear hb2 X2))
  exact bodyPost_ret (v:=.tuple #[.int .i64 0,.int .i64 0]) (by simp [results,Tryz.results15,go_sem]) rfl ⟨rfl,H2.out⟩
 rw [if_neg q0]
 have t0:(rr==0)=false:=beq_eq_false_iff_ne.mpr q0
 by_cases qs:d.pro.states.length=0
 ·rw [if_pos qs]
  have t1:((d.pro.states.length:Int)==0)=true:=by simp [qs]
  clear AT1 AT2 WA q0 qs
  go_enter Tryz.func15,Tryz.ntmps15
  go_upto_region 11 with (first
   | (go_at_call 30;(with_reducible refine IX.out.mono ?_);rintro e w1 ⟨rfl,hb1,_⟩;have b1:=HH.out.1.trans (hb1.mono HH.out.1.size);have X1:=HH.out.2.1.keep hb1;have H1:=Lib.hid b1;have e0:=X1.blk.cell 0;have e1:=X1.blk.cell 1;have e2:=X1.blk.cell 2;have e3:=X1.blk.cell 3;have e4:=X1.blk.cell 4;have e5:=X1.blk.cell 5;simp only [List.getElem?_toArray,List.getElem?_cons_zero,List.getElem?_cons_succ] at e0 e1 e2 e3 e4 e5;have HX1:=Lib.hid X1;clear hb1 b1 X1)
   | (go_at_call 32;(refine (WR.out _ H1.out).mono ?_);rintro e w2 ⟨rfl,hb2⟩;have X2:=HX1.out.keep hb2;have H2:=Lib.hid (H1.out.trans (hb2.mono H1.out.size));have g0:=X2.blk.cell 0;have g1:=X2.blk.cell 1;have g2:=X2.blk.cell 2;have g3:=X2.blk.cell 3;have g4:=X2.blk.cell 4;have g5:=X2.blk.cell 5;simp only [List.getElem?_toArray,List.getElem?_cons_zero,List.getElem?_cons_succ] at g0 g1 g2 g3 g4 g5;clear hb2 X2))
  go_region
  go_wp2_with fail
  exact bodyPost_ret (v:=.tuple #[.int .i64 1,.int .i64 d.at_]) (by simp [results,Tryz.results15,go_sem]) rfl ⟨rfl,H2.out.drew⟩
 rw [if_neg qs]
 have t1:((d.pro.states.length:Int)==0)=false:=by rw [beq_eq_false_iff_ne];omega
 obtain ⟨wa1,wa2⟩:=WA q0 qs
 by_cases q5:rr=1\/rr=5
 ·rw [if_pos q5]
  obtain ⟨k0,k1⟩:=wa1 q5
  obtain ⟨k,rfl⟩:=Int.eq_ofNat_of_zero_le k0
  have kl:k<d.sts.length:=by have:=HH.out.2.2.2.1;omega
  obtain ⟨u,hu⟩:∃ u,d.sts[k]? = some u:=⟨_,List.getElem?_eq_getElem kl⟩
  rw [Int.toNat_natCast,hu]
  show Calls _ _ _ _ fun e w'=>e=.returned (.tuple #[.int .i64 1,.int .i64 u])/\_
  have i1:(k:Int)<(d.sts.length:Int):=by omega
  have i2:(0:Int)<=(k:Int):=by omega
  have AT:=Lib.hid (fun (V:World) (hb:Below w.heap.size w V)=>AT2.out V hb k u hu)
  clear AT1 AT2 WA wa1 wa2 k0 k1 hu kl q0 qs
  rcases q5 with rfl | rfl
  ·go_enter Tryz.func15,Tryz.ntmps15
   go_upto_region 13 with (first
    | (go_at_call 30;(with_reducible refine IX.out.mono ?_);rintro e w1 ⟨rfl,hb1,_⟩;have b1:=HH.out.1.trans (hb1.mono HH.out.1.size);have X1:=HH.out.2.1.keep hb1;have H1:=Lib.hid b1;have e0:=X1.blk.cell 0;have e1:=X1.blk.cell 1;have e2:=X1.blk.cell 2;have e3:=X1.blk.cell 3;have e4:=X1.blk.cell 4;have e5:=X1.blk.cell 5;simp only [List.getElem?_toArray,List.getElem?_cons_zero,List.getElem?_cons_succ] at e0 e1 e2 e3 e4 e5;have HX1:=Lib.hid X1;clear hb1 b1 X1)
    | (go_at_call 32;(refine (WR.out _ H1.out).mono ?_);rintro e w2 ⟨rfl,hb2⟩;have X2:=HX1.out.keep hb2;have H2:=Lib.hid (H1.out.trans (hb2.mono H1.out.size));have g0:=X2.blk.cell 0;have g1:=X2.blk.cell 1;have g2:=X2.blk.cell 2;have g3:=X2.blk.cell 3;have g4:=X2.blk.cell 4;have g5:=X2.blk.cell 5;simp only [List.getElem?_toArray,List.getElem?_cons_zero,List.getElem?_cons_succ] at g0 g1 g2 g3 g4 g5;clear hb2 X2))
   obtain ⟨ad,rfl,r0⟩:=AT.out w2 H2.out
   go_region
   go_wp2_with fail
   exact bodyPost_ret (v:=.tuple #[.int .i64 1,.int .i64 u]) (by simp [results,Tryz.results15,go_sem]) rfl ⟨rfl,H2.out.drew⟩
  ·go_enter Tryz.func15,Tryz.ntmps15
   go_upto_region 13 with (first
    | (go_at_call 30;(with_reducible refine IX.out.mono ?_);rintro e w1 ⟨rfl,hb1,_⟩;have b1:=HH.out.1.trans (hb1.mono HH.out.1.size);have X1:=HH.out.2.1.keep hb1;have H1:=Lib.hid b1;have e0:=X1.blk.cell 0;have e1:=X1.blk.cell 1;have e2:=X1.blk.cell 2;have e3:=X1.blk.cell 3;have e4:=X1.blk.cell 4;have e5:=X1.blk.cell 5;simp only [List.getElem?_toArray,List.getElem?_cons_zero,List.getElem?_cons_succ] at e0 e1 e2 e3 e4 e5;have HX1:=Lib.hid X1;clear hb1 b1 X1)
    | (go_at_call 32;(refine (WR.out _ H1.out).mono ?_);rintro e w2 ⟨rfl,hb2⟩;have X2:=HX1.out.keep hb2;have H2:=Lib.hid (H1.out.trans (hb2.mono H1.out.size));have g0:=X2.blk.cell 0;have g1:=X2.blk.cell 1;have g2:=X2.blk.cell 2;have g3:=X2.blk.cell 3;have g4:=X2.blk.cell 4;have g5:=X2.blk.cell 5;simp only [List.getElem?_toArray,List.getElem?_cons_zero,List.getElem?_cons_succ] at g0 g1 g2 g3 g4 g5;clear hb2 X2))
   obtain ⟨ad,rfl,r0⟩:=AT.out w2 H2.out
   go_region
   go_wp2_with fail
   exact bodyPost_ret (v:=.tuple #[.int .i64 1,.int .i64 u]) (by simp [results,Tryz.results15,go_sem]) rfl ⟨rfl,H2.out.drew⟩
 ·rw [if_neg q5]
  obtain ⟨k0,k1⟩:=wa2 q5
  obtain ⟨k,rfl⟩:=Int.eq_ofNat_of_zero_le k0
  have kl:k<d.ops.length:=by have:=HH.out.2.2.2.2.1;omega
  obtain ⟨u,hu⟩:∃ u,d.ops[k]? = some u:=⟨_,List.getElem?_eq_getElem kl⟩
  rw [Int.toNat_natCast,hu]
  show Calls _ _ _ _ fun e w'=>e=.returned (.tuple #[.int .i64 1,.int .i64 u])/\_
  have i1:(k:Int)<(d.ops.length:Int):=by omega
  have i2:(0:Int)<=(k:Int):=by omega
  have t5:(rr==1)=false:=beq_eq_false_iff_ne.mpr (fun e=>q5 (.inl e))
  have t6:(rr==5)=false:=beq_eq_false_iff_ne.mpr (fun e=>q5 (.inr e))
  have AT:=Lib.hid (fun (V:World) (hb:Below w.heap.size w V)=>AT1.out V hb k u hu)
  clear AT1 AT2 WA wa1 wa2 k0 k1 hu kl q0 qs q5
  go_enter Tryz.func15,Tryz.ntmps15
  go_upto_region 7 with (first
   | (go_at_call 30;(with_reducible refine IX.out.mono ?_);rintro e w1 ⟨rfl,hb1,_⟩;have b1:=HH.out.1.trans (hb1.mono HH.out.1.size);have X1:=HH.out.2.1.keep hb1;have H1:=Lib.hid b1;have e0:=X1.blk.cell 0;have e1:=X1.blk.cell 1;have e2:=X1.blk.cell 2;have e3:=X1.blk.cell 3;have e4:=X1.blk.cell 4;have e5:=X1.blk.cell 5;simp only [List.getElem?_toArray,List.getElem?_cons_zero,List.getElem?_cons_succ] at e0 e1 e2 e3 e4 e5;have HX1:=Lib.hid X1;clear hb1 b1 X1)
   | (go_at_call 32;(refine (WR.out _ H1.out).mono ?_);rintro e w2 ⟨rfl,hb2⟩;have X2:=HX1.out.keep hb2;have H2:=Lib.hid (H1.out.trans (hb2.mono H1.out.size));have g0:=X2.blk.cell 0;have g1:=X2.blk.cell 1;have g2:=X2.blk.cell 2;have g3:=X2.blk.cell 3;have g4:=X2.blk.cell 4;have g5:=X2.blk.cell 5;simp only [List.getElem?_toArray,List.getElem?_cons_zero,List.getElem?_cons_succ] at g0 g1 g2 g3 g4 g5;clear hb2 X2))
  obtain ⟨ad,rfl,r0⟩:=AT.out w2 H2.out
  go_region
  go_wp2_with fail
  exact bodyPost_ret (v:=.tuple #[.int .i64 1,.int .i64 u]) (by simp [results,Tryz.results15,go_sem]) rfl ⟨rfl,H2.out.drew⟩
end
end Go.Proofs.YtaacbenikcbibabGreatDoor
