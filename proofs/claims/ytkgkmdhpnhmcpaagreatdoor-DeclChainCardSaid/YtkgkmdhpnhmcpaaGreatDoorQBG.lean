import Derived.Test.YtkgkmdhpnhmcpaaGreatDoorQAK
set_option maxRecDepth 100000
set_option maxHeartbeats 8000000
namespace Go.Proofs.YtkgkmdhpnhmcpaaGreatDoor
section
open Go.RowKit
theorem ZbF (n a:Nat):∀ (x y:List Int) (p:List Int),Zaf n a (x++y) p=(Zaf n a x p).bind (Zaf n a y)
 | [],y,p=>rfl
 | k::r,y,p=>by
  rw [List.cons_append,Zaf,Zaf]
  split
  ·rfl
  ·exact ZbF n a r y _
theorem ZcI (n a:Nat):∀ (x:List Int) (p q:List Int),Zaf n a x p=some q->q.length=p.length
 | [],p,q,h=>by
  injection h with h
  rw [h]
 | k::r,p,q,h=>by
  rw [Zaf] at h
  split at h
  ·cases h
  ·rw [ZcI n a r _ q h,List.length_set]
theorem Zc5 (ns:List Nd):∀ (j:Nat) (p:List Int),Zap ns j=some p->p.length=ns.length
 | 0,p,h=>by
  injection h with h
  rw [<- h,List.length_replicate]
 | j+1,p,h=>by
  rw [Zap] at h
  cases hq:Zap ns j with
  | none=>rw [hq] at h;cases h
  | some q=>
   rw [hq,Option.bind_some] at h
   split at h
   ·cases h
   ·rw [ZcI _ _ _ _ _ h,Zc5 ns j q hq]
theorem ZdY (ns:List Nd) {j:Nat} (h:Zap ns j=none):∀ d,Zap ns (j+d)=none
 | 0=>h
 | d+1=>by rw [Nat.add_succ,Zap,ZdY ns h d];rfl
theorem Zi5 {ns:List Nd} (h0:ns.length≠0) (h1:¬ 1500<ns.length):Zat ns=Zap ns ns.length:=by
 unfold Zat
 rw [if_neg (by omega)]
theorem Zcm {ns:List Nd} {j:Nat} (h:Zap ns j=none) (hj:j<=ns.length):Zat ns=none:=by
 unfold Zat
 split
 ·rfl
 ·have:=ZdY ns h (ns.length-j)
  rwa [Nat.add_sub_cancel' hj] at this
theorem Zbd {p:List Int} {k:Nat} {x:Int} (h:p[k]? = some x):atI p k=x:=by
 unfold atI
 rw [Int.toNat_natCast,h]
 rfl
theorem Zb5 {ns:List Nd} {k:Nat} {x:Nd} (h:ns[k]? = some x):Zu ns k=x:=by
 unfold Zu
 rw [Int.toNat_natCast,h]
 rfl
theorem Zgv {ns:List Nd} {j:Nat} {p:List Int} {x:Int} (h:Zap ns j=some p) (h0:0<j) (hx:p[j]? = some x) (hn:x<0):Zap ns (j+1)=none:=by
 rw [Zap,h,Option.bind_some,if_pos ⟨h0,by rw [Zbd hx];exact hn⟩]
theorem Zhh {ns:List Nd} {j:Nat} {p:List Int} {x:Int} (h:Zap ns j=some p) (hx:p[j]? = some x) (hn:¬ (0<j/\x<0)) {d:Nd} (hd:ns[j]? = some d):Zap ns (j+1)=Zaf ns.length j d.kids p:=by
 rw [Zap,h,Option.bind_some,if_neg (by rw [Zbd hx];exact hn),Zb5 hd]
theorem Zgh {l:List Int} {i:Nat} {k:Int} (h:l[i]? = some k):l=l.take i++k::l.drop (i+1):=by
 obtain ⟨hi,e⟩:=List.getElem?_eq_some_iff.mp h
 rw [<- e,List.getElem_cons_drop,List.take_append_drop]
theorem ZcH {n a i:Nat} {l p q:List Int} {k:Int} (h:Zaf n a (l.take i) p=some q) (hk:l[i]? = some k) (hb:k<=(a:Int)\/(n:Int)<=k\/0<=atI q k):Zaf n a l p=none:=by
 rw [Zgh hk,ZbF,h,Option.bind_some,Zaf,if_pos hb]
theorem Zgg {n a i:Nat} {l p q:List Int} {k:Int} (h:Zaf n a (l.take i) p=some q) (hk:l[i]? = some k) (hb:¬ (k<=(a:Int)\/(n:Int)<=k\/0<=atI q k)):Zaf n a (l.take (i+1)) p=some (q.set k.toNat a):=by
 rw [List.take_add_one,hk,ZbF,h,Option.bind_some]
 show Zaf n a [k] q=_
 rw [Zaf,if_neg hb]
 rfl
def PIn (w:World) (g:Nat) (p:List Int):Prop:=∃ cs:Array Value,Blk w g cs/\∀ (k:Nat) (x:Int),p[k]? = some x->cs[k]? = some (Value.int .i64 x)
theorem PIn.cell {w:World} {g k:Nat} {p:List Int} {x:Int} (h:PIn w g p) (hx:p[k]? = some x):w.cell? ⟨g,k,none⟩=some (.int .i64 x):=by
 obtain ⟨cs,hb,hc⟩:=h
 rw [hb.cell]
 exact hc k x hx
theorem PIn.free {w:World} {g:Nat} {p:List Int} (h:PIn w g p) (k:Nat):w.frozen? ⟨g,k,none⟩=false:=by
 obtain ⟨cs,hb,_⟩:=h
 exact hb.free k
theorem PIn.keepB {w w':World} {g B:Nat} {p:List Int} (h:PIn w g p) (hb:Below B w w') (hlt:g<B):PIn w' g p:=by
 obtain ⟨cs,h1,hc⟩:=h
 exact ⟨cs,h1.keepB hb hlt,hc⟩
theorem PIn.lt {w:World} {g:Nat} {p:List Int} (h:PIn w g p):g<w.heap.size:=by
 obtain ⟨cs,h1,_⟩:=h
 exact h1.lt
theorem PIn.keep {w w':World} {g:Nat} {p:List Int} (h:PIn w g p) (hb:Below w.heap.size w w'):PIn w' g p:=h.keepB hb h.lt
theorem PIn.set {w:World} {g k:Nat} {p:List Int} (h:PIn w g p) (hk:k<p.length) (x:Int):PIn (w.setCell ⟨g,k,none⟩ (.int .i64 x)) g (p.set k x):=by
 obtain ⟨cs,h1,hc⟩:=h
 refine ⟨_,h1.set k _,fun j y hj=>?_⟩
 rw [List.getElem?_set] at hj
 rw [Array.getElem?_setIfInBounds]
 split at hj
 ·rename_i e
  rw [if_pos e]
  have:=hc k _ (List.getElem?_eq_getElem hk)
  obtain ⟨q,_⟩:=Array.getElem?_eq_some_iff.mp this
  rw [if_pos q]
  injection hj with hj
  rw [hj]
 ·rename_i e
  rw [if_neg e]
  exact hc j y hj
theorem Zed {w:World} {B n:Nat} {v:Value} (h:w.ownsRow B 3 1 v n (Zau n n)) (hn:0<n):∃ g c,v=.slice (some ⟨g,0,none⟩) n c/\n<=c/\c<=maxLen/\B<=g/\PIn w g (List.replicate n (-1)):=by
 rcases h.2 with ⟨e,he⟩ | ⟨g,cap,cur,e,hge,hh,hc,hm,hsz,htk⟩
 ·exfalso
  omega
 ·refine ⟨g,cap,e,hc,hm,hge,cur,⟨_,hh⟩,fun k x hx=>?_⟩
  rw [List.getElem?_replicate] at hx
  split at hx
  ·rename_i q
   injection hx with hx
   have:(cur.toList.take (n*1))[k]? = some (.int .i64 x):=by
    rw [htk]
    unfold Zau
    rw [List.getElem?_append_left (by rw [List.length_replicate];omega),List.getElem?_replicate,if_pos q,hx]
   rw [List.getElem?_take_of_lt (by omega)] at this
   simpa using this
  ·cases hx
def ZaI (w:World) (ns:List Nd) (e:Ending) (w':World):Prop:=
 Below w.heap.size w w'/\match Zat ns with
  | none=>e=.returned (.tuple #[.slice none 0 0,.bool false])
  | some p=>∃ g c,e=.returned (.tuple #[.slice (some ⟨g,0,none⟩) ns.length c,.bool true])/\ns.length<=c/\c<=maxLen/\w.heap.size<=g/\PIn w' g p
theorem ZaI.bad {w w':World} {ns:List Nd} (h:Zat ns=none) (hb:Below w.heap.size w w'):ZaI w ns (.returned (.tuple #[.slice none 0 0,.bool false])) w':=by
 refine ⟨hb,?_⟩
 rw [h]
theorem ZaI.good {w w':World} {ns:List Nd} {p:List Int} {g c:Nat} (h:Zat ns=some p) (hb:Below w.heap.size w w') (h1:ns.length<=c) (h2:c<=maxLen) (h3:w.heap.size<=g) (h4:PIn w' g p) :
  ZaI w ns (.returned (.tuple #[.slice (some ⟨g,0,none⟩) ns.length c,.bool true])) w':=by
 refine ⟨hb,?_⟩
 rw [h]
 exact ⟨g,c,rfl,h1,h2,h3,h4⟩
theorem ZcR (w:World) (v:Value) (ns:List Nd) (h:Zn w v ns) :
  Calls Tryz.prog 37 #[v] w (ZaI w ns):=by
 obtain ⟨A,cp,rs,rfl,h2,h3,h4,h5,h6⟩:=h
 obtain ⟨n,hn⟩:∃ n,n=ns.length:=⟨_,rfl⟩
 have hmx:n<=9223372036854775807:=by unfold maxLen at h3;omega
 rw [<- hn] at h2 h5 ⊢
 by_cases q0:n=0
 ·have t1:((n:Int)==0)=true:=by rw [q0];rfl
  have FIN:=zh (ZaI.bad (w:=w) (w':=w) (ns:=ns) (by unfold Zat;rw [if_pos (.inl (by omega))]) (Below.refl _ _))
  clear hn h2 h3 h4 h5 h6 hmx q0
  go_enter Tryz.func37,Tryz.ntmps37
  go_wp2_with fail
  exact bodyPost_ret (v:=.tuple #[.slice none 0 0,.bool false]) (by simp [results,Tryz.results37,go_sem]) rfl FIN.out
 have t1:((n:Int)==0)=false:=by simpa using fun e=>q0 (by omega)
 by_cases q1:1500<n
 ·have i1:(1500:Int)<(n:Int):=by omega
  have FIN:=zh (ZaI.bad (w:=w) (w':=w) (ns:=ns) (by unfold Zat;rw [if_pos (.inr (by omega))]) (Below.refl _ _))
  clear hn h2 h3 h4 h5 h6 hmx q0 q1
  go_enter Tryz.func37,Tryz.ntmps37
  go_wp2_with fail
  exact bodyPost_ret (v:=.tuple #[.slice none 0 0,.bool false]) (by simp [results,Tryz.results37,go_sem]) rfl FIN.out
 have i1:(n:Int)<=1500:=by omega
 have tr:=fun w=>ZfE w
 have HN:=zh (zi hn (zi q0 q1))
 have H4:=zh (zi h4 (zi h5 h6))
 have TR:=zh tr
 clear hn q0 q1 h2 h3 h4 h5 h6 tr hmx
 go_enter Tryz.func37,Tryz.ntmps37
 go_upto_region 4 with (go_at_call 69;(with_reducible refine (TR.out _ _ _ _ (Blk.start _ _ _) (by have:=HN.out;omega) (by have:=HN.out;omega)).mono ?_);rintro e w1 ⟨v1,rfl,hO,bO⟩)
 have bA:=below_alloc1 w (.cells #[.int .i64 (-1)] 3)
 have b1:=bA.trans (bO.mono bA.size)
 have sz:=(World.size_alloc w (.cells #[.int .i64 (-1)] 3))
 obtain ⟨g,c,rfl,hc,hm,hg,hP⟩:=Zed hO (by have:=HN.out;omega)
 rw [sz] at hg
 have HG:=zh (zi hc (zi hm (zi (show w.heap.size<=g by omega) (zi hP b1))))
 clear hc hm hg hP b1 bO hO bA sz TR
 go_wp2_with fail
 go_loopg [23] n (fun gk v23 wr=>∃ (j:Nat) (p:List Int),v23=.int .i64 j/\j<=n/\gk=n-j/\Zap ns j=some p/\PIn wr g p/\Below w.heap.size w wr)
 case atStart=>exact ⟨0,_,rfl,Nat.zero_le _,rfl,(show Zap ns 0=some (List.replicate ns.length (-1)) from rfl),by rw [<- HN.out.1];exact HG.out.2.2.2.1,HG.out.2.2.2.2⟩
 case round=>
  obtain ⟨j,p,rfl,hj,hgk,hpk,hP,hb⟩:=hrel
  by_cases hjn:j=n
  ·subst hjn
   have fin:Zat ns=some p:=by rw [Zi5 (by have:=HN.out;omega) (by have:=HN.out;omega),<- HN.out.1];exact hpk
   have FIN:=zh (ZaI.good fin hb (by rw [<- HN.out.1];exact HG.out.1) HG.out.2.1 HG.out.2.2.1 hP)
   rw [<- HN.out.1] at FIN
   clear fin hpk hP hb hj hgk
   go_wp2_with fail
   exact bodyPost_ret (v:=.tuple #[.slice (some ⟨g,0,none⟩) j c,.bool true]) (by simp [results,Tryz.results37,go_sem]) rfl FIN.out
  have hlt:j<n:=by omega
  obtain ⟨x,hx⟩:∃ x,rs[j]? = some x:=⟨_,List.getElem?_eq_getElem (by have:=congrArg List.length H4.out.1;rw [List.length_map] at this;have:=HN.out.1;omega)⟩
  have hd:ns[j]? = some x.2:=by rw [<- H4.out.1,List.getElem?_map,hx];rfl
  obtain ⟨ad,rfl,d0,d1,d2,d3,d4⟩:=ZS H4.out.2.1 hb hx (by omega)
  have hp:=Zc5 ns j p hpk
  obtain ⟨y,hy⟩:∃ y,p[j]? = some y:=⟨_,List.getElem?_eq_getElem (by have:=HN.out.1;omega)⟩
  have i2:(j:Int)<(n:Int):=by omega
  have i3:(0:Int)<=(j:Int):=by omega
  have u1:IntKind.i64.wrap ((j:Int)+1)=(j:Int)+1:=IntWalk.i64_in _ (by have:=HN.out;omega)
  obtain ⟨⟨A1,c1,ev1,_⟩,⟨A2,c2,ev2,_⟩,A3,c3,ev3,k2,k3,k4⟩:=H4.out.2.2 x (List.mem_of_getElem? hx)
  have HJ:=zh (zi hgk (zi hpk (zi hP (zi hb (zi hd (zi hp (zi hy hlt)))))))
  obtain ⟨⟨va,vb,vc⟩,kd,ws,nums,ks,ps⟩:=x
  dsimp only at d0 d1 d2 d3 d4 ev1 ev2 ev3 k2 k3 k4
  subst ev1 ev2 ev3
  obtain ⟨m,hmm⟩:∃ m,m=ks.length:=⟨_,rfl⟩
  have HM:=zh (zi hmm (zi (show m<=9223372036854775807 by unfold maxLen at k3;omega) k4))
  rw [<- hmm] at d3
  clear hgk hpk hP hb hd hp hy hlt hjn hj hx k2 k3 k4 hmm
  go_upto_region 7 with fail
  have f3:(wr.alloc (.cells #[.int .i64 kd,.slice A1 ws.length c1,.slice A2 nums.length c2,.slice A3 m c3,.int .i64 ps] 27)).cell? ⟨wr.heap.size,3,none⟩=some (.slice A3 m c3):=(Blk.start wr #[.int .i64 kd,.slice A1 ws.length c1,.slice A2 nums.length c2,.slice A3 m c3,.int .i64 ps] 27).cell 3
  have a5:=below_alloc1 wr (.cells #[.int .i64 kd,.slice A1 ws.length c1,.slice A2 nums.length c2,.slice A3 m c3,.int .i64 ps] 27)
  have b5:=HJ.out.2.2.2.1.trans (a5.mono HJ.out.2.2.2.1.size)
  have p5:=HJ.out.2.2.1.keep a5
  have cy:=p5.cell HJ.out.2.2.2.2.2.2.1
  have H5:=zh (zi p5 b5)
  clear p5 b5 a5 d0 d1 d2 d3 d4
  generalize wr.alloc (.cells #[.int .i64 kd,.slice A1 ws.length c1,.slice A2 nums.length c2,.slice A3 m c3,.int .i64 ps] 27)=w5 at *
  generalize hnb:wr.heap.size=nb at *
  clear hnb
  by_cases hbd:0<j/\y<0
  ·have i4:(0:Int)<(j:Int):=by omega
   have i5:=hbd.2
   have FIN:=zh (ZaI.bad (Zcm (Zgv HJ.out.2.1 hbd.1 HJ.out.2.2.2.2.2.2.1 hbd.2) (by have:=HJ.out;have:=HN.out;omega)) H5.out.2)
   clear hbd
   go_wp2_with fail
   exact bodyPost_ret (v:=.tuple #[.slice none 0 0,.bool false]) (by simp [results,Tryz.results37,go_sem]) rfl FIN.out
  have BD:=zh (Zhh HJ.out.2.1 HJ.out.2.2.2.2.2.2.1 hbd HJ.out.2.2.2.2.1)
  rw [<- HN.out.1] at BD
  have ways:((j:Int)<=0/\j=0)\/((0:Int)<(j:Int)/\0<=y):=by omega
  clear hbd
  rcases ways with ⟨i4,_⟩ | ⟨i4,i5⟩
  all_goals
   go_wp2_with fail
   go_loopg [40] m (fun gi v40 wi=>∃ (i:Nat) (q:List Int),v40=.int .i64 i/\i<=m/\gi=m-i/\Zaf n j (ks.take i) p=some q/\PIn wi g q/\Below w.heap.size w wi)
   case atStart=>exact ⟨0,p,rfl,Nat.zero_le _,rfl,rfl,H5.out.1,H5.out.2⟩
   case round=>
    obtain ⟨i,q,rfl,hi,hgi,hk,hP,hb⟩:=hrel
    by_cases him:i=m
    ·have e:ks.take i=ks:=by rw [him,HM.out.1];exact List.take_length
     rw [e] at hk
     have NX:=zh (zi (BD.out.trans hk) (zi hP hb))
     subst him
     clear e hk hP hb hgi hi
     go_wp2_with fail
     go_roundg (n-(j+1))
     case measure=>have:=HJ.out;omega
     case rel=>exact ⟨j+1,q,by first | (push_cast;rfl) | (rw [show j=0 by omega];rfl),by have:=HJ.out;omega,rfl,NX.out.1,NX.out.2.1,NX.out.2.2⟩
    ·have hlt:i<m:=by omega
     obtain ⟨k,hk1⟩:∃ k,ks[i]? = some k:=⟨_,List.getElem?_eq_getElem (by have:=HM.out.1;omega)⟩
     obtain ⟨ad3,rfl,dk⟩:=ints_at HM.out.2.2 hb hk1 (by have:=HM.out.1;omega)
     have i6:(i:Int)<(m:Int):=by omega
     have i7:(0:Int)<=(i:Int):=by omega
     have u2:IntKind.i64.wrap ((i:Int)+1)=(i:Int)+1:=IntWalk.i64_in _ (by have:=HM.out.2.1;omega)
     have hq:=ZcI _ _ _ _ _ hk
     have HK:=zh (zi hk (zi hP (zi hb (zi hk1 (zi hgi (zi hlt hq))))))
     clear hk hb hk1 hgi hlt hi him
     by_cases k1:k<=(j:Int)
     ·
      have FIN:=zh (ZaI.bad (Zcm (BD.out.trans (ZcH HK.out.1 HK.out.2.2.2.1 (.inl k1))) (by have:=HJ.out;have:=HN.out;omega)) HK.out.2.2.1)
      go_wp2_with fail
      exact bodyPost_ret (v:=.tuple #[.slice none 0 0,.bool false]) (by simp [results,Tryz.results37,go_sem]) rfl FIN.out
     have k1':(j:Int)<k:=by omega
     by_cases k2:(n:Int)<=k
     ·
      have FIN:=zh (ZaI.bad (Zcm (BD.out.trans (ZcH HK.out.1 HK.out.2.2.2.1 (.inr (.inl k2)))) (by have:=HJ.out;have:=HN.out;omega)) HK.out.2.2.1)
      clear k1
      go_wp2_with fail
      exact bodyPost_ret (v:=.tuple #[.slice none 0 0,.bool false]) (by simp [results,Tryz.results37,go_sem]) rfl FIN.out
     obtain ⟨kn,rfl⟩:∃ kn:Nat,k=kn:=⟨k.toNat,by omega⟩
     have k2':(kn:Int)<(n:Int):=by omega
     have k0:(0:Int)<=(kn:Int):=by omega
     obtain ⟨z,hz⟩:∃ z,q[kn]? = some z:=⟨_,List.getElem?_eq_getElem (by have:=HJ.out.2.2.2.2.2.1;have:=HN.out.1;omega)⟩
     have cz:=hP.cell hz
     have fz:=hP.free kn
     clear hP hq
     by_cases k3:0<=z
     ·
      have FIN:=zh (ZaI.bad (Zcm (BD.out.trans (ZcH HK.out.1 HK.out.2.2.2.1 (.inr (.inr (by rw [Zbd hz];exact k3))))) (by have:=HJ.out;have:=HN.out;omega)) HK.out.2.2.1)
      clear k1 k2 hz
      go_wp2_with fail
      exact bodyPost_ret (v:=.tuple #[.slice none 0 0,.bool false]) (by simp [results,Tryz.results37,go_sem]) rfl FIN.out
     have NX:=zh (Zgg HK.out.1 HK.out.2.2.2.1 (show ¬ ((kn:Int)<=(j:Int)\/(n:Int)<=(kn:Int)\/0<=atI q (kn:Int)) by rw [Zbd hz];omega))
     have k3':z<0:=by omega
     have KL:=zh (show kn<q.length from (List.getElem?_eq_some_iff.mp hz).1)
     clear k1 k2 k3 hz
     go_wp2_with fail
     go_roundg (m-(i+1))
     case measure=>have:=HK.out;omega
     case rel=>exact ⟨i+1,_,by push_cast;rfl,by have:=HK.out;omega,rfl,NX.out,by first | exact HK.out.2.1.set KL.out _ | simpa [show j=0 by omega] using HK.out.2.1.set KL.out 0,HK.out.2.2.1.setCell (p:=⟨g,kn,none⟩) HG.out.2.2.1 _⟩
end
end Go.Proofs.YtkgkmdhpnhmcpaaGreatDoor
