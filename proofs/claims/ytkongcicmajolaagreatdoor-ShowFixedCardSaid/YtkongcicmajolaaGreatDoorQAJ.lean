import Derived.Test.YtkongcicmajolaaGreatDoorQAH
set_option maxRecDepth 100000
set_option maxHeartbeats 8000000
namespace Go.Proofs.YtkongcicmajolaaGreatDoor
section
open Go.RowKit
theorem Zf9 (n a:Nat):∀ (x y:List Int) (p:List Int),Zb6 n a (x++y) p=(Zb6 n a x p).bind (Zb6 n a y)
 | [],y,p=>rfl
 | k::r,y,p=>by
  rw [List.cons_append,Zb6,Zb6]
  split
  ·rfl
  ·exact Zf9 n a r y _
theorem Zgl (n a:Nat):∀ (x:List Int) (p q:List Int),Zb6 n a x p=some q->q.length=p.length
 | [],p,q,h=>by
  injection h with h
  rw [h]
 | k::r,p,q,h=>by
  rw [Zb6] at h
  split at h
  ·cases h
  ·rw [Zgl n a r _ q h,List.length_set]
theorem Ziu (ns:List Nd):∀ (j:Nat) (p:List Int),ZcA ns j=some p->p.length=ns.length
 | 0,p,h=>by
  injection h with h
  rw [<- h,List.length_replicate]
 | j+1,p,h=>by
  rw [ZcA] at h
  cases hq:ZcA ns j with
  | none=>rw [hq] at h;cases h
  | some q=>
   rw [hq,Option.bind_some] at h
   split at h
   ·cases h
   ·rw [Zgl _ _ _ _ _ h,Ziu ns j q hq]
theorem Zj2 (ns:List Nd) {j:Nat} (h:ZcA ns j=none):∀ d,ZcA ns (j+d)=none
 | 0=>h
 | d+1=>by rw [Nat.add_succ,ZcA,Zj2 ns h d];rfl
theorem ZrD {ns:List Nd} (h0:ns.length≠0) (h1:¬ 1500<ns.length):Zcg ns=ZcA ns ns.length:=by
 unfold Zcg
 rw [if_neg (by omega)]
theorem Zg8 {ns:List Nd} {j:Nat} (h:ZcA ns j=none) (hj:j<=ns.length):Zcg ns=none:=by
 unfold Zcg
 split
 ·rfl
 ·have:=Zj2 ns h (ns.length-j)
  rwa [Nat.add_sub_cancel' hj] at this
theorem Zei {p:List Int} {k:Nat} {x:Int} (h:p[k]? = some x):atI p k=x:=by
 unfold atI
 rw [Int.toNat_natCast,h]
 rfl
theorem Zb2 {ns:List Nd} {k:Nat} {x:Nd} (h:ns[k]? = some x):Za ns k=x:=by
 unfold Za
 rw [Int.toNat_natCast,h]
 rfl
theorem ZnD {ns:List Nd} {j:Nat} {p:List Int} {x:Int} (h:ZcA ns j=some p) (h0:0<j) (hx:p[j]? = some x) (hn:x<0):ZcA ns (j+1)=none:=by
 rw [ZcA,h,Option.bind_some,if_pos ⟨h0,by rw [Zei hx];exact hn⟩]
theorem Zo4 {ns:List Nd} {j:Nat} {p:List Int} {x:Int} (h:ZcA ns j=some p) (hx:p[j]? = some x) (hn:¬ (0<j/\x<0)) {d:Nd} (hd:ns[j]? = some d):ZcA ns (j+1)=Zb6 ns.length j d.kids p:=by
 rw [ZcA,h,Option.bind_some,if_neg (by rw [Zei hx];exact hn),Zb2 hd]
theorem Znq {l:List Int} {i:Nat} {k:Int} (h:l[i]? = some k):l=l.take i++k::l.drop (i+1):=by
 obtain ⟨hi,e⟩:=List.getElem?_eq_some_iff.mp h
 rw [<- e,List.getElem_cons_drop,List.take_append_drop]
theorem Zhz {n a i:Nat} {l p q:List Int} {k:Int} (h:Zb6 n a (l.take i) p=some q) (hk:l[i]? = some k) (hb:k<=(a:Int)\/(n:Int)<=k\/0<=atI q k):Zb6 n a l p=none:=by
 rw [Znq hk,Zf9,h,Option.bind_some,Zb6,if_pos hb]
theorem Zno {n a i:Nat} {l p q:List Int} {k:Int} (h:Zb6 n a (l.take i) p=some q) (hk:l[i]? = some k) (hb:¬ (k<=(a:Int)\/(n:Int)<=k\/0<=atI q k)):Zb6 n a (l.take (i+1)) p=some (q.set k.toNat a):=by
 rw [List.take_add_one,hk,Zf9,h,Option.bind_some]
 show Zb6 n a [k] q=_
 rw [Zb6,if_neg hb]
 rfl
def PIn (w:World) (g:Nat) (p:List Int):Prop:=∃ cs:Array Value,Blk w g cs/\∀ (k:Nat) (x:Int),p[k]? = some x->cs[k]? = some (Value.int .i64 x)
theorem PIn.cell {w:World} {g k:Nat} {p:List Int} {x:Int} (h:PIn w g p) (hx:p[k]? = some x):w.cell? ⟨g,k,none⟩=some (.int .i64 x):=by
 obtain ⟨cs,hb,hc⟩:=h
 rw [hb.cell]
 exact hc k x hx
theorem PIn.free {w:World} {g:Nat} {p:List Int} (h:PIn w g p) (k:Nat):w.frozen? ⟨g,k,none⟩=false:=by
 obtain ⟨cs,hb,_⟩:=h
 exact hb.free k
theorem PIn.keepB {w w':World} {g B:Nat} {p:List Int} (h:PIn w g p) (hb:Below B w w') (hlt:g<B):PIn w' g p:=by
 obtain ⟨cs,h1,hc⟩:=h
 exact ⟨cs,h1.keepB hb hlt,hc⟩
theorem PIn.lt {w:World} {g:Nat} {p:List Int} (h:PIn w g p):g<w.heap.size:=by
 obtain ⟨cs,h1,_⟩:=h
 exact h1.lt
theorem PIn.keep {w w':World} {g:Nat} {p:List Int} (h:PIn w g p) (hb:Below w.heap.size w w'):PIn w' g p:=h.keepB hb h.lt
theorem PIn.set {w:World} {g k:Nat} {p:List Int} (h:PIn w g p) (hk:k<p.length) (x:Int):PIn (w.setCell ⟨g,k,none⟩ (.int .i64 x)) g (p.set k x):=by
 obtain ⟨cs,h1,hc⟩:=h
 refine ⟨_,h1.set k _,fun j y hj=>?_⟩
 rw [List.getElem?_set] at hj
 rw [Array.getElem?_setIfInBounds]
 split at hj
 ·rename_i e
  rw [if_pos e]
  have:=hc k _ (List.getElem?_eq_getElem hk)
  obtain ⟨q,_⟩:=Array.getElem?_eq_some_iff.mp this
  rw [if_pos q]
  injection hj with hj
  rw [hj]
 ·rename_i e
  rw [if_neg e]
  exact hc j y hj
theorem Zkp {w:World} {B n:Nat} {v:Value} (h:w.ownsRow B 3 1 v n (Zdj n n)) (hn:0<n):∃ g c,v=.slice (some ⟨g,0,none⟩) n c/\n<=c/\c<=maxLen/\B<=g/\PIn w g (List.replicate n (-1)):=by
 rcases h.2 with ⟨e,he⟩ | ⟨g,cap,cur,e,hge,hh,hc,hm,hsz,htk⟩
 ·exfalso
  omega
 ·refine ⟨g,cap,e,hc,hm,hge,cur,⟨_,hh⟩,fun k x hx=>?_⟩
  rw [List.getElem?_replicate] at hx
  split at hx
  ·rename_i q
   injection hx with hx
   have:(cur.toList.take (n*1))[k]? = some (.int .i64 x):=by
    rw [htk]
    unfold Zdj
    rw [List.getElem?_append_left (by rw [List.length_replicate];omega),List.getElem?_replicate,if_pos q,hx]
   rw [List.getElem?_take_of_lt (by omega)] at this
   simpa using this
  ·cases hx
def ZdP (w:World) (ns:List Nd) (e:Ending) (w':World):Prop:=
 Below w.heap.size w w'/\match Zcg ns with
  | none=>e=.returned (.tuple #[.slice none 0 0,.bool false])
  | some p=>∃ g c,e=.returned (.tuple #[.slice (some ⟨g,0,none⟩) ns.length c,.bool true])/\ns.length<=c/\c<=maxLen/\w.heap.size<=g/\PIn w' g p
theorem ZdP.bad {w w':World} {ns:List Nd} (h:Zcg ns=none) (hb:Below w.heap.size w w'):ZdP w ns (.returned (.tuple #[.slice none 0 0,.bool false])) w':=by
 refine ⟨hb,?_⟩
 rw [h]
theorem ZdP.good {w w':World} {ns:List Nd} {p:List Int} {g c:Nat} (h:Zcg ns=some p) (hb:Below w.heap.size w w') (h1:ns.length<=c) (h2:c<=maxLen) (h3:w.heap.size<=g) (h4:PIn w' g p) :
  ZdP w ns (.returned (.tuple #[.slice (some ⟨g,0,none⟩) ns.length c,.bool true])) w':=by
 refine ⟨hb,?_⟩
 rw [h]
 exact ⟨g,c,rfl,h1,h2,h3,h4⟩
theorem Zh5 (w:World) (v:Value) (ns:List Nd) (h:Zs w v ns) :
  Calls Tryz.prog 31 #[v] w (ZdP w ns):=by
 obtain ⟨A,cp,rs,rfl,h2,h3,h4,h5,h6⟩:=h
 obtain ⟨n,hn⟩:∃ n,n=ns.length:=⟨_,rfl⟩
 have hmx:n<=9223372036854775807:=by unfold maxLen at h3;omega
 rw [<- hn] at h2 h5 ⊢
 by_cases q0:n=0
 ·have t1:((n:Int)==0)=true:=by rw [q0];rfl
  have FIN:=zh (ZdP.bad (w:=w) (w':=w) (ns:=ns) (by unfold Zcg;rw [if_pos (.inl (by omega))]) (Below.refl _ _))
  clear hn h2 h3 h4 h5 h6 hmx q0
  go_enter Tryz.func31,Tryz.ntmps31
  go_wp2_with fail
  exact bodyPost_ret (v:=.tuple #[.slice none 0 0,.bool false]) (by simp [results,Tryz.results31,go_sem]) rfl FIN.out
 have t1:((n:Int)==0)=false:=by simpa using fun e=>q0 (by omega)
 by_cases q1:1500<n
 ·have i1:(1500:Int)<(n:Int):=by omega
  have FIN:=zh (ZdP.bad (w:=w) (w':=w) (ns:=ns) (by unfold Zcg;rw [if_pos (.inr (by omega))]) (Below.refl _ _))
  clear hn h2 h3 h4 h5 h6 hmx q0 q1
  go_enter Tryz.func31,Tryz.ntmps31
  go_wp2_with fail
  exact bodyPost_ret (v:=.tuple #[.slice none 0 0,.bool false]) (by simp [results,Tryz.results31,go_sem]) rfl FIN.out
 have i1:(n:Int)<=1500:=by omega
 have tr:=fun w=>Zme w
 have HN:=zh (zi hn (zi q0 q1))
 have H4:=zh (zi h4 (zi h5 h6))
 have TR:=zh tr
 clear hn q0 q1 h2 h3 h4 h5 h6 tr hmx
 go_enter Tryz.func31,Tryz.ntmps31
 go_upto_region 4 with (go_at_call 60;(with_reducible refine (TR.out _ _ _ _ (Blk.start _ _ _) (by have:=HN.out;omega) (by have:=HN.out;omega)).mono ?_);rintro e w1 ⟨v1,rfl,hO,bO⟩)
 have bA:=below_alloc1 w (.cells #[.int .i64 (-1)] 3)
 have b1:=bA.trans (bO.mono bA.size)
 have sz:=(World.size_alloc w (.cells #[.int .i64 (-1)] 3))
 obtain ⟨g,c,rfl,hc,hm,hg,hP⟩:=Zkp hO (by have:=HN.out;omega)
 rw [sz] at hg
 have HG:=zh (zi hc (zi hm (zi (show w.heap.size<=g by omega) (zi hP b1))))
 clear hc hm hg hP b1 bO hO bA sz TR
 go_wp2_with fail
 go_loopg [23] n (fun gk v23 wr=>∃ (j:Nat) (p:List Int),v23=.int .i64 j/\j<=n/\gk=n-j/\ZcA ns j=some p/\PIn wr g p/\Below w.heap.size w wr)
 case atStart=>exact ⟨0,_,rfl,Nat.zero_le _,rfl,(show ZcA ns 0=some (List.replicate ns.length (-1)) from rfl),by rw [<- HN.out.1];exact HG.out.2.2.2.1,HG.out.2.2.2.2⟩
 case round=>
  obtain ⟨j,p,rfl,hj,hgk,hpk,hP,hb⟩:=hrel
  by_cases hjn:j=n
  ·subst hjn
   have fin:Zcg ns=some p:=by rw [ZrD (by have:=HN.out;omega) (by have:=HN.out;omega),<- HN.out.1];exact hpk
   have FIN:=zh (ZdP.good fin hb (by rw [<- HN.out.1];exact HG.out.1) HG.out.2.1 HG.out.2.2.1 hP)
   rw [<- HN.out.1] at FIN
   clear fin hpk hP hb hj hgk
   go_wp2_with fail
   exact bodyPost_ret (v:=.tuple #[.slice (some ⟨g,0,none⟩) j c,.bool true]) (by simp [results,Tryz.results31,go_sem]) rfl FIN.out
  have hlt:j<n:=by omega
  obtain ⟨x,hx⟩:∃ x,rs[j]? = some x:=⟨_,List.getElem?_eq_getElem (by have:=congrArg List.length H4.out.1;rw [List.length_map] at this;have:=HN.out.1;omega)⟩
  have hd:ns[j]? = some x.2:=by rw [<- H4.out.1,List.getElem?_map,hx];rfl
  obtain ⟨ad,rfl,d0,d1,d2,d3,d4⟩:=ZbA H4.out.2.1 hb hx (by omega)
  have hp:=Ziu ns j p hpk
  obtain ⟨y,hy⟩:∃ y,p[j]? = some y:=⟨_,List.getElem?_eq_getElem (by have:=HN.out.1;omega)⟩
  have i2:(j:Int)<(n:Int):=by omega
  have i3:(0:Int)<=(j:Int):=by omega
  have u1:IntKind.i64.wrap ((j:Int)+1)=(j:Int)+1:=IntWalk.i64_in _ (by have:=HN.out;omega)
  obtain ⟨⟨A1,c1,ev1,_⟩,⟨A2,c2,ev2,_⟩,A3,c3,ev3,k2,k3,k4⟩:=H4.out.2.2 x (List.mem_of_getElem? hx)
  have HJ:=zh (zi hgk (zi hpk (zi hP (zi hb (zi hd (zi hp (zi hy hlt)))))))
  obtain ⟨⟨va,vb,vc⟩,kd,ws,nums,ks,ps⟩:=x
  dsimp only at d0 d1 d2 d3 d4 ev1 ev2 ev3 k2 k3 k4
  subst ev1 ev2 ev3
  obtain ⟨m,hmm⟩:∃ m,m=ks.length:=⟨_,rfl⟩
  have HM:=zh (zi hmm (zi (show m<=9223372036854775807 by unfold maxLen at k3;omega) k4))
  rw [<- hmm] at d3
  clear hgk hpk hP hb hd hp hy hlt hjn hj hx k2 k3 k4 hmm
  go_upto_region 7 with fail
  have f3:(wr.alloc (.cells #[.int .i64 kd,.slice A1 ws.length c1,.slice A2 nums.length c2,.slice A3 m c3,.int .i64 ps] 37)).cell? ⟨wr.heap.size,3,none⟩=some (.slice A3 m c3):=(Blk.start wr #[.int .i64 kd,.slice A1 ws.length c1,.slice A2 nums.length c2,.slice A3 m c3,.int .i64 ps] 37).cell 3
  have a5:=below_alloc1 wr (.cells #[.int .i64 kd,.slice A1 ws.length c1,.slice A2 nums.length c2,.slice A3 m c3,.int .i64 ps] 37)
  have b5:=HJ.out.2.2.2.1.trans (a5.mono HJ.out.2.2.2.1.size)
  have p5:=HJ.out.2.2.1.keep a5
  have cy:=p5.cell HJ.out.2.2.2.2.2.2.1
  have H5:=zh (zi p5 b5)
  clear p5 b5 a5 d0 d1 d2 d3 d4
  generalize wr.alloc (.cells #[.int .i64 kd,.slice A1 ws.length c1,.slice A2 nums.length c2,.slice A3 m c3,.int .i64 ps] 37)=w5 at *
  generalize hnb:wr.heap.size=nb at *
  clear hnb
  by_cases hbd:0<j/\y<0
  ·have i4:(0:Int)<(j:Int):=by omega
   have i5:=hbd.2
   have FIN:=zh (ZdP.bad (Zg8 (ZnD HJ.out.2.1 hbd.1 HJ.out.2.2.2.2.2.2.1 hbd.2) (by have:=HJ.out;have:=HN.out;omega)) H5.out.2)
   clear hbd
   go_wp2_with fail
   exact bodyPost_ret (v:=.tuple #[.slice none 0 0,.bool false]) (by simp [results,Tryz.results31,go_sem]) rfl FIN.out
  have BD:=zh (Zo4 HJ.out.2.1 HJ.out.2.2.2.2.2.2.1 hbd HJ.out.2.2.2.2.1)
  rw [<- HN.out.1] at BD
  have ways:((j:Int)<=0/\j=0)\/((0:Int)<(j:Int)/\0<=y):=by omega
  clear hbd
  rcases ways with ⟨i4,_⟩ | ⟨i4,i5⟩
  all_goals
   go_wp2_with fail
   go_loopg [40] m (fun gi v40 wi=>∃ (i:Nat) (q:List Int),v40=.int .i64 i/\i<=m/\gi=m-i/\Zb6 n j (ks.take i) p=some q/\PIn wi g q/\Below w.heap.size w wi)
   case atStart=>exact ⟨0,p,rfl,Nat.zero_le _,rfl,rfl,H5.out.1,H5.out.2⟩
   case round=>
    obtain ⟨i,q,rfl,hi,hgi,hk,hP,hb⟩:=hrel
    by_cases him:i=m
    ·have e:ks.take i=ks:=by rw [him,HM.out.1];exact List.take_length
     rw [e] at hk
     have NX:=zh (zi (BD.out.trans hk) (zi hP hb))
     subst him
     clear e hk hP hb hgi hi
     go_wp2_with fail
     go_roundg (n-(j+1))
     case measure=>have:=HJ.out;omega
     case rel=>exact ⟨j+1,q,by first | (push_cast;rfl) | (rw [show j=0 by omega];rfl),by have:=HJ.out;omega,rfl,NX.out.1,NX.out.2.1,NX.out.2.2⟩
    ·have hlt:i<m:=by omega
     obtain ⟨k,hk1⟩:∃ k,ks[i]? = some k:=⟨_,List.getElem?_eq_getElem (by have:=HM.out.1;omega)⟩
     obtain ⟨ad3,rfl,dk⟩:=ints_at HM.out.2.2 hb hk1 (by have:=HM.out.1;omega)
     have i6:(i:Int)<(m:Int):=by omega
     have i7:(0:Int)<=(i:Int):=by omega
     have u2:IntKind.i64.wrap ((i:Int)+1)=(i:Int)+1:=IntWalk.i64_in _ (by have:=HM.out.2.1;omega)
     have hq:=Zgl _ _ _ _ _ hk
     have HK:=zh (zi hk (zi hP (zi hb (zi hk1 (zi hgi (zi hlt hq))))))
     clear hk hb hk1 hgi hlt hi him
     by_cases k1:k<=(j:Int)
     ·
      have FIN:=zh (ZdP.bad (Zg8 (BD.out.trans (Zhz HK.out.1 HK.out.2.2.2.1 (.inl k1))) (by have:=HJ.out;have:=HN.out;omega)) HK.out.2.2.1)
      go_wp2_with fail
      exact bodyPost_ret (v:=.tuple #[.slice none 0 0,.bool false]) (by simp [results,Tryz.results31,go_sem]) rfl FIN.out
     have k1':(j:Int)<k:=by omega
     by_cases k2:(n:Int)<=k
     ·
      have FIN:=zh (ZdP.bad (Zg8 (BD.out.trans (Zhz HK.out.1 HK.out.2.2.2.1 (.inr (.inl k2)))) (by have:=HJ.out;have:=HN.out;omega)) HK.out.2.2.1)
      clear k1
      go_wp2_with fail
      exact bodyPost_ret (v:=.tuple #[.slice none 0 0,.bool false]) (by simp [results,Tryz.results31,go_sem]) rfl FIN.out
     obtain ⟨kn,rfl⟩:∃ kn:Nat,k=kn:=⟨k.toNat,by omega⟩
     have k2':(kn:Int)<(n:Int):=by omega
     have k0:(0:Int)<=(kn:Int):=by omega
     obtain ⟨z,hz⟩:∃ z,q[kn]? = some z:=⟨_,List.getElem?_eq_getElem (by have:=HJ.out.2.2.2.2.2.1;have:=HN.out.1;omega)⟩
     have cz:=hP.cell hz
     have fz:=hP.free kn
     clear hP hq
     by_cases k3:0<=z
     ·
      have FIN:=zh (ZdP.bad (Zg8 (BD.out.trans (Zhz HK.out.1 HK.out.2.2.2.1 (.inr (.inr (by rw [Zei hz];exact k3))))) (by have:=HJ.out;have:=HN.out;omega)) HK.out.2.2.1)
      clear k1 k2 hz
      go_wp2_with fail
      exact bodyPost_ret (v:=.tuple #[.slice none 0 0,.bool false]) (by simp [results,Tryz.results31,go_sem]) rfl FIN.out
     have NX:=zh (Zno HK.out.1 HK.out.2.2.2.1 (show ¬ ((kn:Int)<=(j:Int)\/(n:Int)<=(kn:Int)\/0<=atI q (kn:Int)) by rw [Zei hz];omega))
     have k3':z<0:=by omega
     have KL:=zh (show kn<q.length from (List.getElem?_eq_some_iff.mp hz).1)
     clear k1 k2 k3 hz
     go_wp2_with fail
     go_roundg (m-(i+1))
     case measure=>have:=HK.out;omega
     case rel=>exact ⟨i+1,_,by push_cast;rfl,by have:=HK.out;omega,rfl,NX.out,by first | exact HK.out.2.1.set KL.out _ | simpa [show j=0 by omega] using HK.out.2.1.set KL.out 0,HK.out.2.2.1.setCell (p:=⟨g,kn,none⟩) HG.out.2.2.1 _⟩
end
section
open Go.RowKit
def ZfD (p:List Int):Prop:=∀ (k:Nat) (x:Int),p[k]? = some x->x<k
theorem ZfD.set {p:List Int} (h:ZfD p) {k:Nat} {x:Int} (hx:x<k):ZfD (p.set k x):=fun i y hi=>by
 rw [List.getElem?_set] at hi
 split at hi
 ·rename_i e
  split at hi
  ·injection hi with hi
   omega
  ·cases hi
 ·exact h i y hi
theorem Zh4 (n a:Nat):∀ (x:List Int) (p q:List Int),Zb6 n a x p=some q->ZfD p->ZfD q
 | [],p,q,h,hp=>by
  injection h with h
  rwa [<- h]
 | k::r,p,q,h,hp=>by
  rw [Zb6] at h
  split at h
  ·cases h
  ·rename_i hb
   exact Zh4 n a r _ q h (hp.set (by omega))
theorem Zi1 (ns:List Nd):∀ (j:Nat) (p:List Int),ZcA ns j=some p->ZfD p
 | 0,p,h=>by
  injection h with h
  rw [<- h]
  intro k x hx
  rw [List.getElem?_replicate] at hx
  split at hx
  ·injection hx with hx
   omega
  ·cases hx
 | j+1,p,h=>by
  rw [ZcA] at h
  cases hq:ZcA ns j with
  | none=>rw [hq] at h;cases h
  | some q=>
   rw [hq,Option.bind_some] at h
   split at h
   ·cases h
   ·exact Zh4 _ _ _ _ _ h (Zi1 ns j q hq)
theorem Zb7 (p:List Int):∀ j,(Zc2 p j).length=j
 | 0=>rfl
 | j+1=>by rw [Zc2,List.length_append,Zb7 p j];rfl
theorem ZgU {p:List Int} (ha:ZfD p):∀ (j:Nat),j<=p.length->∀ (k:Nat) (x:Int),(Zc2 p j)[k]? = some x->1<=x/\x<=(k:Int)+1
 | 0,_,k,x,h=>by simp [Zc2] at h
 | j+1,hj,k,x,h=>by
  rw [Zc2,List.getElem?_append,Zb7] at h
  split at h
  ·exact ZgU ha j (by omega) k x h
  ·rename_i hk
   have e:k=j:=by
    have:=(List.getElem?_eq_some_iff.mp h).1
    simp at this
    omega
   subst e
   rw [Nat.sub_self] at h
   injection h with h
   obtain ⟨y,hy⟩:∃ y,p[k]? = some y:=⟨_,List.getElem?_eq_getElem (by omega)⟩
   rw [Zei hy] at h
   have:=ha k y hy
   split at h
   ·rename_i h0
    obtain ⟨m,rfl⟩:∃ m:Nat,y=m:=⟨y.toNat,by omega⟩
    obtain ⟨z,hz⟩:∃ z,(Zc2 p k)[m]? = some z:=⟨_,List.getElem?_eq_getElem (by rw [Zb7];omega)⟩
    rw [Zei hz] at h
    have:=ZgU ha k (by omega) m z hz
    omega
   ·omega
def Zfx (p:List Int) (n j:Nat):List Int:=Zc2 p j++List.replicate (n-j) 0
theorem ZkJ {p:List Int} {n j:Nat} (h:j<=n):(Zfx p n j).length=n:=by
 unfold Zfx
 rw [List.length_append,Zb7,List.length_replicate]
 omega
theorem Zrl {p:List Int} {n j k:Nat} (h:k<j):(Zfx p n j)[k]? = (Zc2 p j)[k]?:=by
 unfold Zfx
 rw [List.getElem?_append_left (by rw [Zb7];exact h)]
theorem ZkK {p:List Int} {n j:Nat} {x:Int} (h:j<n) (hx:x=if 0<=atI p j then 1+atI (Zc2 p j) (atI p j) else 1):(Zfx p n j).set j x=Zfx p n (j+1):=by
 unfold Zfx
 rw [List.set_append_right _ _ (by rw [Zb7];exact Nat.le_refl _),Zb7,Nat.sub_self,Zc2,<- hx,List.append_assoc]
 congr 1
 rw [show n-j=(n-(j+1))+1 by omega,List.replicate_succ,List.set_cons_zero]
 rfl
theorem Zp0 (p:List Int):Zfx p p.length p.length=Zb8 p:=by
 unfold Zfx Zb8
 rw [Nat.sub_self,List.replicate_zero,List.append_nil]
theorem ZlY {w:World} {B n:Nat} {v:Value} (h:w.ownsRow B 3 1 v n (madeCells #[Value.int .i64 0] n).toList) (hn:0<n):∃ g c,v=.slice (some ⟨g,0,none⟩) n c/\n<=c/\c<=maxLen/\B<=g/\PIn w g (List.replicate n 0):=by
 rcases h.2 with ⟨e,he⟩ | ⟨g,cap,cur,e,hge,hh,hc,hm,hsz,htk⟩
 ·exfalso
  omega
 ·refine ⟨g,cap,e,hc,hm,hge,cur,⟨_,hh⟩,fun k x hx=>?_⟩
  rw [List.getElem?_replicate] at hx
  split at hx
  ·rename_i q
   injection hx with hx
   have:(cur.toList.take (n*1))[k]? = some (.int .i64 x):=by
    rw [htk,<- hx]
    simp [madeCells,q,Nat.mod_one]
   rw [List.getElem?_take_of_lt (by omega)] at this
   simpa using this
  ·cases hx
theorem PIn.other {w:World} {g:Nat} {p:List Int} (h:PIn w g p) {q:Addr} (hq:q.block≠g) (v:Value):PIn (w.setCell q v) g p:=by
 obtain ⟨cs,h1,hc⟩:=h
 exact ⟨cs,h1.other hq v,hc⟩
theorem PIn.drew {w:World} {g:Nat} {p:List Int} (h:PIn w g p):PIn w.drew g p:=by
 obtain ⟨cs,h1,hc⟩:=h
 exact ⟨cs,h1.drew,hc⟩
theorem Znf (w:World) (g c n:Nat) (p:List Int) (hp:PIn w g p) (hn:p.length=n) (h1:1<=n) (h2:n<=1500) (ha:ZfD p) :
  Calls Tryz.prog 33 #[.slice (some ⟨g,0,none⟩) n c] w fun e w'=>Below w.heap.size w w'/\∃ g2 c2,e=.returned (.slice (some ⟨g2,0,none⟩) n c2)/\n<=c2/\c2<=maxLen/\PIn w' g2 (Zb8 p):=by
 obtain ⟨i0,hi,hz0,hz1,hz2⟩:=ZiU Zmz
 have HN:=zh (zi hn (zi h1 (zi h2 (zi hp ha))))
 clear hn h1 h2 ha hp
 go_enter Tryz.func33,Tryz.ntmps33
 go_upto_region 2 with (at_make;refine wpList_make_full _ rfl _ _ 35 rfl w.heap.size 3 i0 (.int .i64 0) 1 Tryz.underlying35 hi hz0 hz1 .i64 .i64 _ _ n rfl rfl ?c1 ?c2 ?c3 ?c4 ?c5 ?_)
 case c1=>rfl
 case c2=>have:=HN.out;omega
 case c3=>rw [hz2];have:=HN.out;omega
 case c4=>have:=HN.out;unfold maxLen;omega
 case c5=>simp
 intro w2 hown hgrow
 have b2:Below w.heap.size w w2:=(Below.refl _ _).grown hgrow (Nat.le_refl _) (fun k hk=>by cases hk)
 obtain ⟨gd,cd,ed,hcd,hmd,hgd,hD⟩:=ZlY hown (by have:=HN.out;omega)
 rw [ed]
 have p2:=HN.out.2.2.2.1.keep b2
 have H2:=zh (zi hcd (zi hmd (zi hgd (zi HN.out.2.2.2.1.lt b2))))
 have D2:=zh (zi hD p2)
 clear hcd hmd hgd hD p2 b2 hown hgrow ed hi hz0 hz1 hz2 i0
 go_wp2_with fail
 go_loopg [11] n (fun gk v11 wr=>∃ j:Nat,v11=.int .i64 j/\j<=n/\gk=n-j/\PIn wr gd (Zfx p n j)/\PIn wr g p/\Below w.heap.size w wr)
 case atStart=>exact ⟨0,rfl,Nat.zero_le _,rfl,D2.out.1,D2.out.2,H2.out.2.2.2.2⟩
 case round=>
  obtain ⟨j,rfl,hj,hgk,hD,hP,hb⟩:=hrel
  by_cases hjn:j=n
  ·subst hjn
   have e:Zfx p j j=Zb8 p:=by
    have:=Zp0 p
    rwa [HN.out.1] at this
   rw [e] at hD
   have FIN:=zh (zi hb hD)
   clear e hj hgk hD hP hb
   go_wp2_with fail
   go_ret
   exact ⟨FIN.out.1,gd,cd,rfl,H2.out.1,H2.out.2.1,FIN.out.2⟩
  have hlt:j<n:=by omega
  obtain ⟨y,hy⟩:∃ y,p[j]? = some y:=⟨_,List.getElem?_eq_getElem (by have:=HN.out.1;omega)⟩
  have cy:=hP.cell hy
  have ay:=HN.out.2.2.2.2 j y hy
  obtain ⟨z0,hz0⟩:∃ z0,(Zfx p n j)[j]? = some z0:=⟨_,List.getElem?_eq_getElem (by rw [ZkJ hj];exact hlt)⟩
  have cz:=hD.cell hz0
  have fz:=hD.free j
  have i2:(j:Int)<(n:Int):=by omega
  have i3:(0:Int)<=(j:Int):=by omega
  have u1:IntKind.i64.wrap ((j:Int)+1)=(j:Int)+1:=IntWalk.i64_in _ (by have:=HN.out;omega)
  have len:=ZkJ (p:=p) hj
  have D5:=hD.set (k:=j) (by omega) 1
  have P5:PIn (wr.setCell ⟨gd,j,none⟩ (.int .i64 1)) g p:=hP.other (q:=⟨gd,j,none⟩) (by show gd≠g;have:=H2.out;omega) _
  have b5:Below w.heap.size w (wr.setCell ⟨gd,j,none⟩ (.int .i64 1)):=hb.setCell (p:=⟨gd,j,none⟩) H2.out.2.2.1 _
  have H5:=zh (zi D5 (zi P5 b5))
  have HJ:=zh (zi hlt (zi hgk (zi hy (zi ay len))))
  clear hj hgk hP hD hy ay hz0 hlt D5 P5 b5 len hb hjn
  go_upto_region 6 with fail
  clear cy cz fz
  generalize wr.setCell ⟨gd,j,none⟩ (.int .i64 1)=w5 at *
  by_cases h0:0<=y
  ·obtain ⟨m,rfl⟩:∃ m:Nat,y=m:=⟨y.toNat,by omega⟩
   have hm:m<j:=by have:=HJ.out.2.2.2.1;omega
   obtain ⟨z,hz⟩:∃ z,(Zc2 p j)[m]? = some z:=⟨_,List.getElem?_eq_getElem (by rw [Zb7];exact hm)⟩
   have bz:=ZgU HN.out.2.2.2.2 j (by have:=HJ.out;have:=HN.out;omega) m z hz
   have cm:=H5.out.1.cell (k:=m) (x:=z) (by rw [List.getElem?_set_ne (by omega),Zrl hm];exact hz)
   have cj:=H5.out.1.cell (k:=j) (x:=1) (by rw [List.getElem?_set_self (by rw [HJ.out.2.2.2.2];exact HJ.out.1)])
   have fj:=H5.out.1.free j
   have u2:IntKind.i64.wrap (1+z)=1+z:=IntWalk.i64_in _ (by have:=HJ.out;have:=HN.out;omega)
   have i5:(m:Int)<(n:Int):=by have:=HJ.out;omega
   have D8:=H5.out.1.set (k:=j) (by rw [List.length_set,HJ.out.2.2.2.2];exact HJ.out.1) (1+z)
   rw [List.set_set,ZkK HJ.out.1 (by rw [Zei HJ.out.2.2.1,if_pos h0,Zei hz])] at D8
   have P8:=H5.out.2.1.other (q:=⟨gd,j,none⟩) (by show gd≠g;have:=H2.out;omega) (.int .i64 (1+z))
   have b8:=H5.out.2.2.setCell (p:=⟨gd,j,none⟩) H2.out.2.2.1 (.int .i64 (1+z))
   have H8:=zh (zi D8 (zi P8 b8))
   clear D8 P8 b8 hz bz hm
   go_wp2_with fail
   go_region
   all_goals
    go_wp2_with fail
    go_roundg (n-(j+1))
    case measure=>have:=HJ.out;omega
    case rel=>exact ⟨j+1,by push_cast;rfl,by have:=HJ.out;omega,rfl,H8.out.1.drew,H8.out.2.1.drew,H8.out.2.2.drew⟩
  ·have i4:y<0:=by omega
   have D8:=H5.out.1
   rw [ZkK HJ.out.1 (by rw [Zei HJ.out.2.2.1,if_neg h0])] at D8
   have H8:=zh D8
   clear D8 h0
   go_wp2_with fail
   go_roundg (n-(j+1))
   case measure=>have:=HJ.out;omega
   case rel=>exact ⟨j+1,by push_cast;rfl,by have:=HJ.out;omega,rfl,H8.out,H5.out.2.1,H5.out.2.2⟩
end
end Go.Proofs.YtkongcicmajolaaGreatDoor
