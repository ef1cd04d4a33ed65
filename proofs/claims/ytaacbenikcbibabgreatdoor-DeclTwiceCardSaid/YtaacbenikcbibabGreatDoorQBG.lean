import Derived.Test.YtaacbenikcbibabGreatDoorQBE
set_option maxRecDepth 100000
set_option maxHeartbeats 8000000
namespace Go.Proofs.YtaacbenikcbibabGreatDoor
section
open Go.RowKit
theorem ZbE (n a:Nat):∀ (x y:List Int) (p:List Int),Zag n a (x++y) p=(Zag n a x p).bind (Zag n a y)
 | [],y,p=>rfl
 | k::r,y,p=>by
  rw [List.cons_append,Zag,Zag]
  split
  ·rfl
  ·exact ZbE n a r y _
theorem ZcB (n a:Nat):∀ (x:List Int) (p q:List Int),Zag n a x p=some q->q.length=p.length
 | [],p,q,h=>by
  injection h with h
  rw [h]
 | k::r,p,q,h=>by
  rw [Zag] at h
  split at h
  ·cases h
  ·rw [ZcB n a r _ q h,List.length_set]
theorem ZcZ (ns:List Nd):∀ (j:Nat) (p:List Int),Zaq ns j=some p->p.length=ns.length
 | 0,p,h=>by
  injection h with h
  rw [<- h,List.length_replicate]
 | j+1,p,h=>by
  rw [Zaq] at h
  cases hq:Zaq ns j with
  | none=>rw [hq] at h;cases h
  | some q=>
   rw [hq,Option.bind_some] at h
   split at h
   ·cases h
   ·rw [ZcB _ _ _ _ _ h,ZcZ ns j q hq]
theorem ZdS (ns:List Nd) {j:Nat} (h:Zaq ns j=none):∀ d,Zaq ns (j+d)=none
 | 0=>h
 | d+1=>by rw [Nat.add_succ,Zaq,ZdS ns h d];rfl
theorem ZiL {ns:List Nd} (h0:ns.length≠0) (h1:¬ 1500<ns.length):Zaw ns=Zaq ns ns.length:=by
 unfold Zaw
 rw [if_neg (by omega)]
theorem Zch {ns:List Nd} {j:Nat} (h:Zaq ns j=none) (hj:j<=ns.length):Zaw ns=none:=by
 unfold Zaw
 split
 ·rfl
 ·have:=ZdS ns h (ns.length-j)
  rwa [Nat.add_sub_cancel' hj] at this
theorem Zbe {p:List Int} {k:Nat} {x:Int} (h:p[k]? = some x):atI p k=x:=by
 unfold atI
 rw [Int.toNat_natCast,h]
 rfl
theorem Zb1 {ns:List Nd} {k:Nat} {x:Nd} (h:ns[k]? = some x):ZB ns k=x:=by
 unfold ZB
 rw [Int.toNat_natCast,h]
 rfl
theorem Zgl {ns:List Nd} {j:Nat} {p:List Int} {x:Int} (h:Zaq ns j=some p) (h0:0<j) (hx:p[j]? = some x) (hn:x<0):Zaq ns (j+1)=none:=by
 rw [Zaq,h,Option.bind_some,if_pos ⟨h0,by rw [Zbe hx];exact hn⟩]
theorem Zg6 {ns:List Nd} {j:Nat} {p:List Int} {x:Int} (h:Zaq ns j=some p) (hx:p[j]? = some x) (hn:¬ (0<j/\x<0)) {d:Nd} (hd:ns[j]? = some d):Zaq ns (j+1)=Zag ns.length j d.kids p:=by
 rw [Zaq,h,Option.bind_some,if_neg (by rw [Zbe hx];exact hn),Zb1 hd]
theorem Zf9 {l:List Int} {i:Nat} {k:Int} (h:l[i]? = some k):l=l.take i++k::l.drop (i+1):=by
 obtain ⟨hi,e⟩:=List.getElem?_eq_some_iff.mp h
 rw [<- e,List.getElem_cons_drop,List.take_append_drop]
theorem ZcA {n a i:Nat} {l p q:List Int} {k:Int} (h:Zag n a (l.take i) p=some q) (hk:l[i]? = some k) (hb:k<=(a:Int)\/(n:Int)<=k\/0<=atI q k):Zag n a l p=none:=by
 rw [Zf9 hk,ZbE,h,Option.bind_some,Zag,if_pos hb]
theorem Zf8 {n a i:Nat} {l p q:List Int} {k:Int} (h:Zag n a (l.take i) p=some q) (hk:l[i]? = some k) (hb:¬ (k<=(a:Int)\/(n:Int)<=k\/0<=atI q k)):Zag n a (l.take (i+1)) p=some (q.set k.toNat a):=by
 rw [List.take_add_one,hk,ZbE,h,Option.bind_some]
 show Zag n a [k] q=_
 rw [Zag,if_neg hb]
 rfl
def PIn (w:World) (g:Nat) (p:List Int):Prop:=∃ cs:Array Value,Blk w g cs/\∀ (k:Nat) (x:Int),p[k]? = some x->cs[k]? = some (Value.int .i64 x)
theorem PIn.cell {w:World} {g k:Nat} {p:List Int} {x:Int} (h:PIn w g p) (hx:p[k]? = some x):w.cell? ⟨g,k,none⟩=some (.int .i64 x):=by
 obtain ⟨cs,hb,hc⟩:=h
 rw [hb.cell]
 exact hc k x hx
theorem PIn.free {w:World} {g:Nat} {p:List Int} (h:PIn w g p) (k:Nat):w.frozen? ⟨g,k,none⟩=false:=by
 obtain ⟨cs,hb,_⟩:=h
 exact hb.free k
theorem PIn.keepB {w w':World} {g B:Nat} {p:List Int} (h:PIn w g p) (hb:Below B w w') (hlt:g<B):PIn w' g p:=by
 obtain ⟨cs,h1,hc⟩:=h
 exact ⟨cs,h1.keepB hb hlt,hc⟩
theorem PIn.lt {w:World} {g:Nat} {p:List Int} (h:PIn w g p):g<w.heap.size:=by
 obtain ⟨cs,h1,_⟩:=h
 exact h1.lt
theorem PIn.keep {w w':World} {g:Nat} {p:List Int} (h:PIn w g p) (hb:Below w.heap.size w w'):PIn w' g p:=h.keepB hb h.lt
theorem PIn.set {w:World} {g k:Nat} {p:List Int} (h:PIn w g p) (hk:k<p.length) (x:Int):PIn (w.setCell ⟨g,k,none⟩ (.int .i64 x)) g (p.set k x):=by
 obtain ⟨cs,h1,hc⟩:=h
 refine ⟨_,h1.set k _,fun j y hj=>?_⟩
 rw [List.getElem?_set] at hj
 rw [Array.getElem?_setIfInBounds]
 split at hj
 ·rename_i e
  rw [if_pos e]
  have:=hc k _ (List.getElem?_eq_getElem hk)
  obtain ⟨q,_⟩:=Array.getElem?_eq_some_iff.mp this
  rw [if_pos q]
  injection hj with hj
  rw [hj]
 ·rename_i e
  rw [if_neg e]
  exact hc j y hj
theorem Zd7 {w:World} {B n:Nat} {v:Value} (h:w.ownsRow B 3 1 v n (Zax n n)) (hn:0<n):∃ g c,v=.slice (some ⟨g,0,none⟩) n c/\n<=c/\c<=maxLen/\B<=g/\PIn w g (List.replicate n (-1)):=by
 rcases h.2 with ⟨e,he⟩ | ⟨g,cap,cur,e,hge,hh,hc,hm,hsz,htk⟩
 ·exfalso
  omega
 ·refine ⟨g,cap,e,hc,hm,hge,cur,⟨_,hh⟩,fun k x hx=>?_⟩
  rw [List.getElem?_replicate] at hx
  split at hx
  ·rename_i q
   injection hx with hx
   have:(cur.toList.take (n*1))[k]? = some (.int .i64 x):=by
    rw [htk]
    unfold Zax
    rw [List.getElem?_append_left (by rw [List.length_replicate];omega),List.getElem?_replicate,if_pos q,hx]
   rw [List.getElem?_take_of_lt (by omega)] at this
   simpa using this
  ·cases hx
def ZaL (w:World) (ns:List Nd) (e:Ending) (w':World):Prop:=
 Below w.heap.size w w'/\match Zaw ns with
  | none=>e=.returned (.tuple #[.slice none 0 0,.bool false])
  | some p=>∃ g c,e=.returned (.tuple #[.slice (some ⟨g,0,none⟩) ns.length c,.bool true])/\ns.length<=c/\c<=maxLen/\w.heap.size<=g/\PIn w' g p
theorem ZaL.bad {w w':World} {ns:List Nd} (h:Zaw ns=none) (hb:Below w.heap.size w w'):ZaL w ns (.returned (.tuple #[.slice none 0 0,.bool false])) w':=by
 refine ⟨hb,?_⟩
 rw [h]
theorem ZaL.good {w w':World} {ns:List Nd} {p:List Int} {g c:Nat} (h:Zaw ns=some p) (hb:Below w.heap.size w w') (h1:ns.length<=c) (h2:c<=maxLen) (h3:w.heap.size<=g) (h4:PIn w' g p) :
  ZaL w ns (.returned (.tuple #[.slice (some ⟨g,0,none⟩) ns.length c,.bool true])) w':=by
 refine ⟨hb,?_⟩
 rw [h]
 exact ⟨g,c,rfl,h1,h2,h3,h4⟩
theorem ZcM (w:World) (v:Value) (ns:List Nd) (h:Zo w v ns) :
  Calls Tryz.prog 19 #[v] w (ZaL w ns):=by
 obtain ⟨A,cp,rs,rfl,h2,h3,h4,h5,h6⟩:=h
 obtain ⟨n,hn⟩:∃ n,n=ns.length:=⟨_,rfl⟩
 have hmx:n<=9223372036854775807:=by unfold maxLen at h3;omega
 rw [<- hn] at h2 h5 ⊢
 by_cases q0:n=0
 ·have t1:((n:Int)==0)=true:=by rw [q0];rfl
  have FIN:=Lib.hid (ZaL.bad (w:=w) (w':=w) (ns:=ns) (by unfold Zaw;rw [if_pos (.inl (by omega))]) (Below.refl _ _))
  clear hn h2 h3 h4 h5 h6 hmx q0
  go_enter Tryz.func19,Tryz.ntmps19
  go_wp2_with fail
  exact bodyPost_ret (v:=.tuple #[.slice none 0 0,.bool false]) (by simp [results,Tryz.results19,go_sem]) rfl FIN.out
 have t1:((n:Int)==0)=false:=by simpa using fun e=>q0 (by omega)
 by_cases q1:1500<n
 ·have i1:(1500:Int)<(n:Int):=by omega
  have FIN:=Lib.hid (ZaL.bad (w:=w) (w':=w) (ns:=ns) (by unfold Zaw;rw [if_pos (.inr (by omega))]) (Below.refl _ _))
  clear hn h2 h3 h4 h5 h6 hmx q0 q1
  go_enter Tryz.func19,Tryz.ntmps19
  go_wp2_with fail
  exact bodyPost_ret (v:=.tuple #[.slice none 0 0,.bool false]) (by simp [results,Tryz.results19,go_sem]) rfl FIN.out
 have i1:(n:Int)<=1500:=by omega
 have tr:=fun w=>Zfx w
 have HN:=Lib.hid (And.intro hn (And.intro q0 q1))
 have H4:=Lib.hid (And.intro h4 (And.intro h5 h6))
 have TR:=Lib.hid tr
 clear hn q0 q1 h2 h3 h4 h5 h6 tr hmx
 go_enter Tryz.func19,Tryz.ntmps19
 go_upto_region 4 with (go_at_call 37;(with_reducible refine (TR.out _ _ _ _ (Blk.start _ _ _) (by have:=HN.out;omega) (by have:=HN.out;omega)).mono ?_);rintro e w1 ⟨v1,rfl,hO,bO⟩)
 have bA:=Za w (.cells #[.int .i64 (-1)] 3)
 have b1:=bA.trans (bO.mono bA.size)
 have sz:=(World.size_alloc w (.cells #[.int .i64 (-1)] 3))
 obtain ⟨g,c,rfl,hc,hm,hg,hP⟩:=Zd7 hO (by have:=HN.out;omega)
 rw [sz] at hg
 have HG:=Lib.hid (And.intro hc (And.intro hm (And.intro (show w.heap.size<=g by omega) (And.intro hP b1))))
 clear hc hm hg hP b1 bO hO bA sz TR
 go_wp2_with fail
 go_loopg [23] n (fun gk v23 wr=>∃ (j:Nat) (p:List Int),v23=.int .i64 j/\j<=n/\gk=n-j/\Zaq ns j=some p/\PIn wr g p/\Below w.heap.size w wr)
 case atStart=>exact ⟨0,_,rfl,Nat.zero_le _,rfl,(show Zaq ns 0=some (List.replicate ns.length (-1)) from rfl),by rw [<- HN.out.1];exact HG.out.2.2.2.1,HG.out.2.2.2.2⟩
 case round=>
  obtain ⟨j,p,rfl,hj,hgk,hpk,hP,hb⟩:=hrel
  by_cases hjn:j=n
  ·subst hjn
   have fin:Zaw ns=some p:=by rw [ZiL (by have:=HN.out;omega) (by have:=HN.out;omega),<- HN.out.1];exact hpk
   have FIN:=Lib.hid (ZaL.good fin hb (by rw [<- HN.out.1];exact HG.out.1) HG.out.2.1 HG.out.2.2.1 hP)
   rw [<- HN.out.1] at FIN
   clear fin hpk hP hb hj hgk
   go_wp2_with fail
   exact bodyPost_ret (v:=.tuple #[.slice (some ⟨g,0,none⟩) j c,.bool true]) (by simp [results,Tryz.results19,go_sem]) rfl FIN.out
  have hlt:j<n:=by omega
  obtain ⟨x,hx⟩:∃ x,rs[j]? = some x:=⟨_,List.getElem?_eq_getElem (by have:=congrArg List.length H4.out.1;rw [List.length_map] at this;have:=HN.out.1;omega)⟩
  have hd:ns[j]? = some x.2:=by rw [<- H4.out.1,List.getElem?_map,hx];rfl
  obtain ⟨ad,rfl,d0,d1,d2,d3,d4⟩:=ZW H4.out.2.1 hb hx (by omega)
  have hp:=ZcZ ns j p hpk
  obtain ⟨y,hy⟩:∃ y,p[j]? = some y:=⟨_,List.getElem?_eq_getElem (by have:=HN.out.1;omega)⟩
  have i2:(j:Int)<(n:Int):=by omega
  have i3:(0:Int)<=(j:Int):=by omega
  have u1:IntKind.i64.wrap ((j:Int)+1)=(j:Int)+1:=IntWalk.i64_in _ (by have:=HN.out;omega)
  obtain ⟨⟨A1,c1,ev1,_⟩,⟨A2,c2,ev2,_⟩,A3,c3,ev3,k2,k3,k4⟩:=H4.out.2.2 x (List.mem_of_getElem? hx)
  have HJ:=Lib.hid (And.intro hgk (And.intro hpk (And.intro hP (And.intro hb (And.intro hd (And.intro hp (And.intro hy hlt)))))))
  obtain ⟨⟨va,vb,vc⟩,kd,ws,nums,ks,ps⟩:=x
  dsimp only at d0 d1 d2 d3 d4 ev1 ev2 ev3 k2 k3 k4
  subst ev1 ev2 ev3
  obtain ⟨m,hmm⟩:∃ m,m=ks.length:=⟨_,rfl⟩
  have HM:=Lib.hid (And.intro hmm (And.intro (show m<=9223372036854775807 by unfold maxLen at k3;omega) k4))
  rw [<- hmm] at d3
  clear hgk hpk hP hb hd hp hy hlt hjn hj hx k2 k3 k4 hmm
  go_upto_region 7 with fail
  have f3:(wr.alloc (.cells #[.int .i64 kd,.slice A1 ws.length c1,.slice A2 nums.length c2,.slice A3 m c3,.int .i64 ps] 27)).cell? ⟨wr.heap.size,3,none⟩=some (.slice A3 m c3):=(Blk.start wr #[.int .i64 kd,.slice A1 ws.length c1,.slice A2 nums.length c2,.slice A3 m c3,.int .i64 ps] 27).cell 3
  have a5:=Za wr (.cells #[.int .i64 kd,.slice A1 ws.length c1,.slice A2 nums.length c2,.slice A3 m c3,.int .i64 ps] 27)
  have b5:=HJ.out.2.2.2.1.trans (a5.mono HJ.out.2.2.2.1.size)
  have p5:=HJ.out.2.2.1.keep a5
  have cy:=p5.cell HJ.out.2.2.2.2.2.2.1
  have H5:=Lib.hid (And.intro p5 b5)
  clear p5 b5 a5 d0 d1 d2 d3 d4
  generalize wr.alloc (.cells #[.int .i64 kd,.slice A1 ws.length c1,.slice A2 nums.length c2,.slice A3 m c3,.int .i64 ps] 27)=w5 at *
  generalize hnb:wr.heap.size=nb at *
  clear hnb
  by_cases hbd:0<j/\y<0
  ·have i4:(0:Int)<(j:Int):=by omega
   have i5:=hbd.2
   have FIN:=Lib.hid (ZaL.bad (Zch (Zgl HJ.out.2.1 hbd.1 HJ.out.2.2.2.2.2.2.1 hbd.2) (by have:=HJ.out;have:=HN.out;omega)) H5.out.2)
   clear hbd
   go_wp2_with fail
   exact bodyPost_ret (v:=.tuple #[.slice none 0 0,.bool false]) (by simp [results,Tryz.results19,go_sem]) rfl FIN.out
  have BD:=Lib.hid (Zg6 HJ.out.2.1 HJ.out.2.2.2.2.2.2.1 hbd HJ.out.2.2.2.2.1)
  rw [<- HN.out.1] at BD
  have ways:((j:Int)<=0/\j=0)\/((0:Int)<(j:Int)/\0<=y):=by omega
  clear hbd
  rcases ways with ⟨i4,_⟩ | ⟨i4,i5⟩
  all_goals
   go_wp2_with fail
   go_loopg [40] m (fun gi v40 wi=>∃ (i:Nat) (q:List Int),v40=.int .i64 i/\i<=m/\gi=m-i/\Zag n j (ks.take i) p=some q/\PIn wi g q/\Below w.heap.size w wi)
   case atStart=>exact ⟨0,p,rfl,Nat.zero_le _,rfl,rfl,H5.out.1,H5.out.2⟩
   case round=>
    obtain ⟨i,q,rfl,hi,hgi,hk,hP,hb⟩:=hrel
    by_cases him:i=m
    ·have e:ks.take i=ks:=by rw [him,HM.out.1];exact List.take_length
     rw [e] at hk
     have NX:=Lib.hid (And.intro (BD.out.trans hk) (And.intro hP hb))
     subst him
     clear e hk hP hb hgi hi
     go_wp2_with fail
     go_roundg (n-(j+1))
     case measure=>have:=HJ.out;omega
     case rel=>exact ⟨j+1,q,by first | (push_cast;rfl) | (rw [show j=0 by omega];rfl),by have:=HJ.out;omega,rfl,NX.out.1,NX.out.2.1,NX.out.2.2⟩
    ·have hlt:i<m:=by omega
     obtain ⟨k,hk1⟩:∃ k,ks[i]? = some k:=⟨_,List.getElem?_eq_getElem (by have:=HM.out.1;omega)⟩
     obtain ⟨ad3,rfl,dk⟩:=ZC HM.out.2.2 hb hk1 (by have:=HM.out.1;omega)
     have i6:(i:Int)<(m:Int):=by omega
     have i7:(0:Int)<=(i:Int):=by omega
     have u2:IntKind.i64.wrap ((i:Int)+1)=(i:Int)+1:=IntWalk.i64_in _ (by have:=HM.out.2.1;omega)
     have hq:=ZcB _ _ _ _ _ hk
     have HK:=Lib.hid (And.intro hk (And.intro hP (And.intro hb (And.intro hk1 (And.intro hgi (And.intro hlt hq))))))
     clear hk hb hk1 hgi hlt hi him
     by_cases k1:k<=(j:Int)
     ·
      have FIN:=Lib.hid (ZaL.bad (Zch (BD.out.trans (ZcA HK.out.1 HK.out.2.2.2.1 (.inl k1))) (by have:=HJ.out;have:=HN.out;omega)) HK.out.2.2.1)
      go_wp2_with fail
      exact bodyPost_ret (v:=.tuple #[.slice none 0 0,.bool false]) (by simp [results,Tryz.results19,go_sem]) rfl FIN.out
     have k1':(j:Int)<k:=by omega
     by_cases k2:(n:Int)<=k
     ·
      have FIN:=Lib.hid (ZaL.bad (Zch (BD.out.trans (ZcA HK.out.1 HK.out.2.2.2.1 (.inr (.inl k2)))) (by have:=HJ.out;have:=HN.out;omega)) HK.out.2.2.1)
      clear k1
      go_wp2_with fail
      exact bodyPost_ret (v:=.tuple #[.slice none 0 0,.bool false]) (by simp [results,Tryz.results19,go_sem]) rfl FIN.out
     obtain ⟨kn,rfl⟩:∃ kn:Nat,k=kn:=⟨k.toNat,by omega⟩
     have k2':(kn:Int)<(n:Int):=by omega
     have k0:(0:Int)<=(kn:Int):=by omega
     obtain ⟨z,hz⟩:∃ z,q[kn]? = some z:=⟨_,List.getElem?_eq_getElem (by have:=HJ.out.2.2.2.2.2.1;have:=HN.out.1;omega)⟩
     have cz:=hP.cell hz
     have fz:=hP.free kn
     clear hP hq
     by_cases k3:0<=z
     ·
      have FIN:=Lib.hid (ZaL.bad (Zch (BD.out.trans (ZcA HK.out.1 HK.out.2.2.2.1 (.inr (.inr (by rw [Zbe hz];exact k3))))) (by have:=HJ.out;have:=HN.out;omega)) HK.out.2.2.1)
      clear k1 k2 hz
      go_wp2_with fail
      exact bodyPost_ret (v:=.tuple #[.slice none 0 0,.bool false]) (by simp [results,Tryz.results19,go_sem]) rfl FIN.out
     have NX:=Lib.hid (Zf8 HK.out.1 HK.out.2.2.2.1 (show ¬ ((kn:Int)<=(j:Int)\/(n:Int)<=(kn:Int)\/0<=atI q (kn:Int)) by rw [Zbe hz];omega))
     have k3':z<0:=by omega
     have KL:=Lib.hid (show kn<q.length from (List.getElem?_eq_some_iff.mp hz).1)
     clear k1 k2 k3 hz
     go_wp2_with fail
     go_roundg (m-(i+1))
     case measure=>have:=HK.out;omega
     case rel=>exact ⟨i+1,_,by push_cast;rfl,by have:=HK.out;omega,rfl,NX.out,by first | exact HK.out.2.1.set KL.out _ | simpa [show j=0 by omega] using HK.out.2.1.set KL.out 0,HK.out.2.2.1.setCell (p:=⟨g,kn,none⟩) HG.out.2.2.1 _⟩
end
section
open Go.RowKit
def Zbw (p:List Int):Prop:=∀ (k:Nat) (x:Int),p[k]? = some x->x<k
theorem Zbw.set {p:List Int} (h:Zbw p) {k:Nat} {x:Int} (hx:x<k):Zbw (p.set k x):=fun i y hi=>by
 rw [List.getElem?_set] at hi
 split at hi
 ·rename_i e
  split at hi
  ·injection hi with hi
   omega
  ·cases hi
 ·exact h i y hi
theorem ZcL (n a:Nat):∀ (x:List Int) (p q:List Int),Zag n a x p=some q->Zbw p->Zbw q
 | [],p,q,h,hp=>by
  injection h with h
  rwa [<- h]
 | k::r,p,q,h,hp=>by
  rw [Zag] at h
  split at h
  ·cases h
  ·rename_i hb
   exact ZcL n a r _ q h (hp.set (by omega))
theorem Zdl (ns:List Nd):∀ (j:Nat) (p:List Int),Zaq ns j=some p->Zbw p
 | 0,p,h=>by
  injection h with h
  rw [<- h]
  intro k x hx
  rw [List.getElem?_replicate] at hx
  split at hx
  ·injection hx with hx
   omega
  ·cases hx
 | j+1,p,h=>by
  rw [Zaq] at h
  cases hq:Zaq ns j with
  | none=>rw [hq] at h;cases h
  | some q=>
   rw [hq,Option.bind_some] at h
   split at h
   ·cases h
   ·exact ZcL _ _ _ _ _ h (Zdl ns j q hq)
theorem ZaJ (p:List Int):∀ j,(Zbf p j).length=j
 | 0=>rfl
 | j+1=>by rw [Zbf,List.length_append,ZaJ p j];rfl
theorem ZcR {p:List Int} (ha:Zbw p):∀ (j:Nat),j<=p.length->∀ (k:Nat) (x:Int),(Zbf p j)[k]? = some x->1<=x/\x<=(k:Int)+1
 | 0,_,k,x,h=>by simp [Zbf] at h
 | j+1,hj,k,x,h=>by
  rw [Zbf,List.getElem?_append,ZaJ] at h
  split at h
  ·exact ZcR ha j (by omega) k x h
  ·rename_i hk
   have e:k=j:=by
    have:=(List.getElem?_eq_some_iff.mp h).1
    simp at this
    omega
   subst e
   rw [Nat.sub_self] at h
   injection h with h
   obtain ⟨y,hy⟩:∃ y,p[k]? = some y:=⟨_,List.getElem?_eq_getElem (by omega)⟩
   rw [Zbe hy] at h
   have:=ha k y hy
   split at h
   ·rename_i h0
    obtain ⟨m,rfl⟩:∃ m:Nat,y=m:=⟨y.toNat,by omega⟩
    obtain ⟨z,hz⟩:∃ z,(Zbf p k)[m]? = some z:=⟨_,List.getElem?_eq_getElem (by rw [ZaJ];omega)⟩
    rw [Zbe hz] at h
    have:=ZcR ha k (by omega) m z hz
    omega
   ·omega
def Zbs (p:List Int) (n j:Nat):List Int:=Zbf p j++List.replicate (n-j) 0
theorem Zeq {p:List Int} {n j:Nat} (h:j<=n):(Zbs p n j).length=n:=by
 unfold Zbs
 rw [List.length_append,ZaJ,List.length_replicate]
 omega
theorem Ziq {p:List Int} {n j k:Nat} (h:k<j):(Zbs p n j)[k]? = (Zbf p j)[k]?:=by
 unfold Zbs
 rw [List.getElem?_append_left (by rw [ZaJ];exact h)]
theorem Zer {p:List Int} {n j:Nat} {x:Int} (h:j<n) (hx:x=if 0<=atI p j then 1+atI (Zbf p j) (atI p j) else 1):(Zbs p n j).set j x=Zbs p n (j+1):=by
 unfold Zbs
 rw [List.set_append_right _ _ (by rw [ZaJ];exact Nat.le_refl _),ZaJ,Nat.sub_self,Zbf,<- hx,List.append_assoc]
 congr 1
 rw [show n-j=(n-(j+1))+1 by omega,List.replicate_succ,List.set_cons_zero]
 rfl
theorem Zhw (p:List Int):Zbs p p.length p.length=Zbt p:=by
 unfold Zbs Zbt
 rw [Nat.sub_self,List.replicate_zero,List.append_nil]
theorem Zfo {w:World} {B n:Nat} {v:Value} (h:w.ownsRow B 3 1 v n (madeCells #[Value.int .i64 0] n).toList) (hn:0<n):∃ g c,v=.slice (some ⟨g,0,none⟩) n c/\n<=c/\c<=maxLen/\B<=g/\PIn w g (List.replicate n 0):=by
 rcases h.2 with ⟨e,he⟩ | ⟨g,cap,cur,e,hge,hh,hc,hm,hsz,htk⟩
 ·exfalso
  omega
 ·refine ⟨g,cap,e,hc,hm,hge,cur,⟨_,hh⟩,fun k x hx=>?_⟩
  rw [List.getElem?_replicate] at hx
  split at hx
  ·rename_i q
   injection hx with hx
   have:(cur.toList.take (n*1))[k]? = some (.int .i64 x):=by
    rw [htk,<- hx]
    simp [madeCells,q,Nat.mod_one]
   rw [List.getElem?_take_of_lt (by omega)] at this
   simpa using this
  ·cases hx
theorem PIn.other {w:World} {g:Nat} {p:List Int} (h:PIn w g p) {q:Addr} (hq:q.block≠g) (v:Value):PIn (w.setCell q v) g p:=by
 obtain ⟨cs,h1,hc⟩:=h
 exact ⟨cs,h1.other hq v,hc⟩
theorem PIn.drew {w:World} {g:Nat} {p:List Int} (h:PIn w g p):PIn w.drew g p:=by
 obtain ⟨cs,h1,hc⟩:=h
 exact ⟨cs,h1.drew,hc⟩
theorem ZfX (w:World) (g c n:Nat) (p:List Int) (hp:PIn w g p) (hn:p.length=n) (h1:1<=n) (h2:n<=1500) (ha:Zbw p) :
  Calls Tryz.prog 21 #[.slice (some ⟨g,0,none⟩) n c] w fun e w'=>Below w.heap.size w w'/\∃ g2 c2,e=.returned (.slice (some ⟨g2,0,none⟩) n c2)/\n<=c2/\c2<=maxLen/\PIn w' g2 (Zbt p):=by
 obtain ⟨i0,hi,hz0,hz1,hz2⟩:=Zdh ZfH
 have HN:=Lib.hid (And.intro hn (And.intro h1 (And.intro h2 (And.intro hp ha))))
 clear hn h1 h2 ha hp
 go_enter Tryz.func21,Tryz.ntmps21
 go_upto_region 2 with (at_make;refine wpList_make_full _ rfl _ _ 25 rfl w.heap.size 3 i0 (.int .i64 0) 1 Tryz.underlying25 hi hz0 hz1 .i64 .i64 _ _ n rfl rfl ?c1 ?c2 ?c3 ?c4 ?c5 ?_)
 case c1=>rfl
 case c2=>have:=HN.out;omega
 case c3=>rw [hz2];have:=HN.out;omega
 case c4=>have:=HN.out;unfold maxLen;omega
 case c5=>simp
 intro w2 hown hgrow
 have b2:Below w.heap.size w w2:=(Below.refl _ _).grown hgrow (Nat.le_refl _) (fun k hk=>by cases hk)
 obtain ⟨gd,cd,ed,hcd,hmd,hgd,hD⟩:=Zfo hown (by have:=HN.out;omega)
 rw [ed]
 have p2:=HN.out.2.2.2.1.keep b2
 have H2:=Lib.hid (And.intro hcd (And.intro hmd (And.intro hgd (And.intro HN.out.2.2.2.1.lt b2))))
 have D2:=Lib.hid (And.intro hD p2)
 clear hcd hmd hgd hD p2 b2 hown hgrow ed hi hz0 hz1 hz2 i0
 go_wp2_with fail
 go_loopg [11] n (fun gk v11 wr=>∃ j:Nat,v11=.int .i64 j/\j<=n/\gk=n-j/\PIn wr gd (Zbs p n j)/\PIn wr g p/\Below w.heap.size w wr)
 case atStart=>exact ⟨0,rfl,Nat.zero_le _,rfl,D2.out.1,D2.out.2,H2.out.2.2.2.2⟩
 case round=>
  obtain ⟨j,rfl,hj,hgk,hD,hP,hb⟩:=hrel
  by_cases hjn:j=n
  ·subst hjn
   have e:Zbs p j j=Zbt p:=by
    have:=Zhw p
    rwa [HN.out.1] at this
   rw [e] at hD
   have FIN:=Lib.hid (And.intro hb hD)
   clear e hj hgk hD hP hb
   go_wp2_with fail
   go_ret
   exact ⟨FIN.out.1,gd,cd,rfl,H2.out.1,H2.out.2.1,FIN.out.2⟩
  have hlt:j<n:=by omega
  obtain ⟨y,hy⟩:∃ y,p[j]? = some y:=⟨_,List.getElem?_eq_getElem (by have:=HN.out.1;omega)⟩
  have cy:=hP.cell hy
  have ay:=HN.out.2.2.2.2 j y hy
  obtain ⟨z0,hz0⟩:∃ z0,(Zbs p n j)[j]? = some z0:=⟨_,List.getElem?_eq_getElem (by rw [Zeq hj];exact hlt)⟩
  have cz:=hD.cell hz0
  have fz:=hD.free j
  have i2:(j:Int)<(n:Int):=by omega
  have i3:(0:Int)<=(j:Int):=by omega
  have u1:IntKind.i64.wrap ((j:Int)+1)=(j:Int)+1:=IntWalk.i64_in _ (by have:=HN.out;omega)
  have len:=Zeq (p:=p) hj
  have D5:=hD.set (k:=j) (by omega) 1
  have P5:PIn (wr.setCell ⟨gd,j,none⟩ (.int .i64 1)) g p:=hP.other (q:=⟨gd,j,none⟩) (by show gd≠g;have:=H2.out;omega) _
  have b5:Below w.heap.size w (wr.setCell ⟨gd,j,none⟩ (.int .i64 1)):=hb.setCell (p:=⟨gd,j,none⟩) H2.out.2.2.1 _
  have H5:=Lib.hid (And.intro D5 (And.intro P5 b5))
  have HJ:=Lib.hid (And.intro hlt (And.intro hgk (And.intro hy (And.intro ay len))))
  clear hj hgk hP hD hy ay hz0 hlt D5 P5 b5 len hb hjn
  go_upto_region 6 with fail
  clear cy cz fz
  generalize wr.setCell ⟨gd,j,none⟩ (.int .i64 1)=w5 at *
  by_cases h0:0<=y
  ·obtain ⟨m,rfl⟩:∃ m:Nat,y=m:=⟨y.toNat,by omega⟩
   have hm:m<j:=by have:=HJ.out.2.2.2.1;omega
   obtain ⟨z,hz⟩:∃ z,(Zbf p j)[m]? = some z:=⟨_,List.getElem?_eq_getElem (by rw [ZaJ];exact hm)⟩
   have bz:=ZcR HN.out.2.2.2.2 j (by have:=HJ.out;have:=HN.out;omega) m z hz
   have cm:=H5.out.1.cell (k:=m) (x:=z) (by rw [List.getElem?_set_ne (by omega),Ziq hm];exact hz)
   have cj:=H5.out.1.cell (k:=j) (x:=1) (by rw [List.getElem?_set_self (by rw [HJ.out.2.2.2.2];exact HJ.out.1)])
   have fj:=H5.out.1.free j
   have u2:IntKind.i64.wrap (1+z)=1+z:=IntWalk.i64_in _ (by have:=HJ.out;have:=HN.out;omega)
   have i5:(m:Int)<(n:Int):=by have:=HJ.out;omega
   have D8:=H5.out.1.set (k:=j) (by rw [List.length_set,HJ.out.2.2.2.2];exact HJ.out.1) (1+z)
   rw [List.set_set,Zer HJ.out.1 (by rw [Zbe HJ.out.2.2.1,if_pos h0,Zbe hz])] at D8
   have P8:=H5.out.2.1.other (q:=⟨gd,j,none⟩) (by show gd≠g;have:=H2.out;omega) (.int .i64 (1+z))
   have b8:=H5.out.2.2.setCell (p:=⟨gd,j,none⟩) H2.out.2.2.1 (.int .i64 (1+z))
   have H8:=Lib.hid (And.intro D8 (And.intro P8 b8))
   clear D8 P8 b8 hz bz hm
   go_wp2_with fail
   go_region
   all_goals
    go_wp2_with fail
    go_roundg (n-(j+1))
    case measure=>have:=HJ.out;omega
    case rel=>exact ⟨j+1,by push_cast;rfl,by have:=HJ.out;omega,rfl,H8.out.1.drew,H8.out.2.1.drew,H8.out.2.2.drew⟩
  ·have i4:y<0:=by omega
   have D8:=H5.out.1
   rw [Zer HJ.out.1 (by rw [Zbe HJ.out.2.2.1,if_neg h0])] at D8
   have H8:=Lib.hid D8
   clear D8 h0
   go_wp2_with fail
   go_roundg (n-(j+1))
   case measure=>have:=HJ.out;omega
   case rel=>exact ⟨j+1,by push_cast;rfl,by have:=HJ.out;omega,rfl,H8.out,H5.out.2.1,H5.out.2.2⟩
end
end Go.Proofs.YtaacbenikcbibabGreatDoor
