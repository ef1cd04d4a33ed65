import Derived.Test.YtolookeddknmoaaGreatQAF
set_option maxRecDepth 100000
set_option maxHeartbeats 8000000
namespace Go.Proofs.YtolookeddknmoaaGreat
section
open Go.RowKit
theorem ZhD (w:World) (b:Bool):(w.alloc (.cells #[.bool b] 4)).ownsRow w.heap.size 4 1 (.slice (some ⟨w.heap.size,0,none⟩) 1 1) 1 [.bool b]:=
 ⟨rfl,.inr ⟨w.heap.size,1,#[.bool b],rfl,Nat.le_refl _,heap_alloc_new w _,Nat.le_refl _,by decide,rfl,rfl⟩⟩
theorem Zf0 {w:World} {base:Nat} {v:Value} {b:Bool} {l:List Bool} (h:w.ownsRow base 4 1 v (1+l.length) ([.bool b]++l.map Value.bool)):Zk w v (b::l):=by
 refine ZhE (base:=base) ?_
 rw [List.length_cons,List.map_cons,Nat.add_comm]
 exact h
theorem Zdw {w0 w w1:World} {b:Bool} (hb:Below w0.heap.size w0 w) (hg:(w.alloc (.cells #[.bool b] 4)).grownBy w1 (Value.slice (some ⟨w.heap.size,0,none⟩) 1 1).ownBlock):Below w0.heap.size w0 w1:=by
 refine (hb.alloc hb.size _).grown hg ?_ ?_
 ·have:=hb.size
  simp
  omega
 ·intro k hk
  have:=hb.size
  have e:w.heap.size=k:=by simpa [Value.ownBlock] using hk
  omega
theorem ZiO (b:Bool) (n:Nat):Zj (b::Zc n)=b.toNat+2*n:=by rw [Zj,Zae]
theorem ZjH {n k c:Nat} (h:(Zc n).length<=k) (hc:c<=1):(Zc (c+2*n)).length<=k+1:=by
 have h1:=Zb8 (Zc n)
 rw [Zae] at h1
 have h2:=Nat.pow_le_pow_right (show 0<2 by decide) h
 exact ZbF _ _ (by rw [Nat.pow_succ];omega)
def ZqK (a:Nat) (lb:List Bool) (w:World) (g:Nat) (v5 v6:Value) (wr:World):Prop:=∃ (k p:Nat) (z:Int),k<=lb.length/\g=k/\z=(k:Int)-1/\v6=.int .i64 z/\p=a*Zj (lb.drop k)/\Zk wr v5 (Zc p)/\Below w.heap.size w wr/\Zs w.heap.size v5
theorem Zom {a k:Nat} {lb:List Bool} {p:Nat} (hp:p=a*Zj (lb.drop (k+1))):a*Zj (lb.drop k)=2*p+(Zag lb k).toNat*a:=by
 rw [ZbM,hp,Nat.mul_add,Nat.mul_comm a (Zag lb k).toNat,Nat.add_comm,<- Nat.mul_assoc,<- Nat.mul_assoc,Nat.mul_comm a 2]
theorem Ze4 {a:Nat} {lb:List Bool} {k p:Nat} (hp:p=a*Zj (lb.drop k)) (n:Nat) (h:(Zc a).length+lb.length<=n):(Zc p).length<=n-k/\(Zc p).length<=n:=by
 have h1:=Zb8 (Zc a)
 rw [Zae] at h1
 have h2:=Zb8 (lb.drop k)
 rw [List.length_drop] at h2
 by_cases hk:k<=lb.length
 ·have:p<2 ^ (n-k):=by
   have e:2 ^ ((Zc a).length+(lb.length-k))<=2 ^ (n-k):=Nat.pow_le_pow_right (by decide) (by omega)
   rw [Nat.pow_add] at e
   have:=Nat.mul_lt_mul'' h1 h2
   omega
  have:=ZbF p (n-k) this
  omega
 ·have:p=0:=by rw [hp,List.drop_eq_nil_of_le (by omega)];rfl
  rw [this,ZaO];simp
theorem ZdS (w:World) (x y:Value) (a b:Nat) (hx:Zk w x (Zc a)) (hy:Zk w y (Zc b)) (hab:(Zc a).length+(Zc b).length<=290) :
  Calls Tryz.prog 72 #[x,y] w (Zfs w (Zc (a*b))):=by
 obtain ⟨i0,hi,hz0,hz1,hz2⟩:=info_parts ZiJ
 have nb:Zj (Zc b)=b:=Zae b
 have ky:=fun (wr:World) (hw:Below w.heap.size w wr)=>hy.below hw
 obtain ⟨B,d,rfl,k2,k3,k4⟩:=hy
 obtain ⟨lb,hlb⟩:∃ lb,lb=Zc b:=⟨_,rfl⟩
 rw [<- hlb] at ky k2 k4 hab nb ⊢
 obtain ⟨m,hm⟩:∃ m,m=lb.length:=⟨_,rfl⟩
 rw [<- hm] at ky k2 k4 ⊢
 have hm3:m<=290:=by omega
 have HB:=Lib.hid (And.intro nb (And.intro hm hab))
 have HX:=Lib.hid hx
 have HC:=Lib.hid (And.intro k2 k3)
 clear nb hm hlb hx hab k2 k3 ky
 go_enter Tryz.func72,Tryz.ntmps72
 go_wp2_with fail
 go_loopg [5,6] m (fun g v5 v6 wr=>ZqK a lb w g v5 v6 wr)
 case atStart=>exact ⟨m,0,_,by rw [HB.out.2.1];exact Nat.le_refl _,rfl,rfl,by go_num,by rw [List.drop_eq_nil_of_le (Nat.le_of_eq HB.out.2.1.symm)];rfl,by rw [ZaO];exact Zk.nil w,Below.refl _ _,Zs.none_ _ _ _⟩
 case round=>
  obtain ⟨k,p,z,hk,hg,hz,rfl,hp,hnum,hbelow,hfr⟩:=hrel
  have HK:=Lib.hid (And.intro hk (And.intro hg hp))
  have hlen:=Ze4 hp 290 HB.out.2.2
  by_cases hk0:k=0
  ·obtain rfl:z=-1:=by omega
   have hpb:p=a*b:=by
    rw [hp,hk0,List.drop_zero,HB.out.1]
   subst hpb
   clear hk hg hz hp hk0 hlen
   go_wp2_with fail
   go_ret
   exact ⟨_,rfl,hnum,hbelow,hfr⟩
  ·obtain ⟨j,rfl⟩:∃ j,k=j+1:=⟨k-1,by omega⟩
   obtain rfl:z=(j:Int):=by omega
   have hjm:j<m:=by have:=HB.out.2.1;omega
   have nxt:=Zom hp
   obtain ⟨bd,rfl,c2⟩:=Zk.bit HB.out.2.1.symm k4 hjm
   have wj:IntKind.i64.wrap ((j:Int)-1)=(j:Int)-1:=IntWalk.i64_in _ (by omega)
   have i1:(j:Int)<(m:Int):=by omega
   have i2:(0:Int)<=(j:Int):=by omega
   have i3:decide ((0:Int)<=(j:Int))=true:=decide_eq_true i2
   obtain ⟨bt,hbt⟩:∃ bt,bt=Zag lb j:=⟨_,rfl⟩
   rw [<- hbt] at nxt c2
   obtain ⟨A,c,rfl,h2,h3,h4⟩:=hnum
   have NX:=Lib.hid nxt
   have HJ:=Lib.hid (And.intro hlen hjm)
   have H3:=Lib.hid (And.intro h2 h3)
   have HZ:=Lib.hid hz
   clear nxt hp hk0 hk hg hlen hjm hbt hz h2 h3
   go_wp2_with (at_builtin;refine Zm _ rfl _ _ 99 rfl wr.heap.size 4 i0 (.bool false) 1 1 Tryz.underlying99 hi hz0 hz1 hz2 rfl (by decide) _ 1 [.bool false] rfl (ZhD wr false) wr.heap.size A _ c _ rfl (h4.alloc (Nat.le_refl _) _) ?c2 ?c3 ?c4 ?c5 ?_)
   case c2=>
    intro u hu
    obtain ⟨q,_,rfl⟩:=List.mem_map.1 hu
    rfl
   case c3=>have:=HJ.out;unfold maxLen;omega
   case c4=>have:=HJ.out;omega
   case c5=>simp
   intro v' w1 hown' hgrow _
   have b1:=Zdw hbelow hgrow
   have n1:=Zf0 hown'
   have f1:=Zs.mono (Zc1 hown') hbelow.size
   have L1:=Lib.hid b1
   have ht:=ZeV w1 v' _ n1
   rw [ZiO] at ht
   have c3:=(b1.cell (p:=bd.add j) (by obtain ⟨_,e,hb,_⟩:=k4.2 (by omega);injection e with e;subst e;rw [ZL];exact hb)).trans c2
   have hx1:=HX.out.below b1
   clear hown' hgrow hbelow n1 h4 b1 c2 k4
   have hla:(Zc (2*p)).length<=291/\(Zc a).length<=290:=by
    refine ⟨?_,by have:=HB.out;omega⟩
    have:=ZjH (c:=0) HJ.out.1.2 (by omega)
    rwa [Nat.zero_add] at this
   cases bt
   ·have e0:false.toNat+2*p=2*p+false.toNat*a:=by simp
    rw [e0,<- NX.out] at ht
    go_wp2_with (go_at_call 99;(with_reducible refine ht.mono ?_);rintro e w' ⟨v'',rfl,hv,rfl,ho⟩)
    go_roundg j
    case measure=>have:=HK.out;omega
    case rel=>exact ⟨j,_,_,by have:=HK.out;omega,rfl,rfl,rfl,rfl,hv,L1.out,f1.of_eq ho⟩
   ·rw [Bool.toNat_false,Nat.zero_add] at ht
    go_wp2_with (first
     | (go_at_call 99;(with_reducible refine ht.mono ?_);rintro e w' ⟨v'',rfl,hv,rfl,ho⟩;have ha:=Zi7 w1 v'' x (2*p) a hv hx1 (by have:=hla;omega) (by have:=hla;omega))
     | (go_at_call 94;(with_reducible refine ha.mono ?_);rintro e w' ⟨v3,rfl,hv3,hb3,hf3⟩))
    go_roundg j
    case measure=>have:=HK.out;omega
    case rel=>
     refine ⟨j,_,_,by have:=HK.out;omega,rfl,rfl,rfl,rfl,?_,(L1.out.trans (hb3.mono L1.out.size)),hf3.mono L1.out.size⟩
     rw [NX.out,Bool.toNat_true,Nat.one_mul]
     exact hv3
end
section
open Go.RowKit
theorem Zk.drewN {w:World} {v:Value} {l:List Bool} (h:Zk w v l) (n:Nat):Zk (w.drewN n) v l:=h
theorem Below.drewN_ {B:Nat} {a w:World} (h:Below B a w) (n:Nat):Below B a (w.drewN n):=⟨h.os,h.tape,h.output,h.size,h.block⟩
def ZqQ (w:World) (p q:Nat) (e:Ending) (w':World):Prop:=∃ v u,e=.returned (.tuple #[v,u])/\Zk w' v (Zc p)/\Zk w' u (Zc q)/\Below w.heap.size w w'/\Zs w.heap.size v/\Zs w.heap.size u
def ZqH (la:List Bool) (b:Nat) (w:World) (g:Nat) (v6 v7 v8:Value) (wr:World):Prop:=∃ (k p r:Nat) (z:Int) (l:List Bool),k<=la.length/\g=k/\z=(k:Int)-1/\v8=.int .i64 z ∧
 p=Zj (la.drop k)/\r=p % b/\l.length+k=la.length/\Zj l=p / b/\Zk wr v6 l/\Zk wr v7 (Zc r)/\Below w.heap.size w wr/\Zs w.heap.size v6/\Zs w.heap.size v7
theorem Zn4 {b p r c t q:Nat} (hb:0<b) (hr:r=p % b) (hq:q=p / b) (hc:c<=1) (ht:t=c+2*r) :
  (t<b->(c+2*p) % b=t/\(c+2*p) / b=2*q)/\(b<=t->(c+2*p) % b=t-b/\(c+2*p) / b=1+2*q):=by
 have h1:=Nat.div_add_mod p b
 have h2:=Nat.mod_lt p hb
 have e:c+2*p=b*(2*q)+t:=by rw [ht,hq,hr,Nat.mul_left_comm];omega
 refine ⟨fun h=>?_,fun h=>?_⟩
 ·rw [e,Nat.mul_add_mod,Nat.mod_eq_of_lt h,Nat.mul_add_div hb,Nat.div_eq_of_lt h];exact ⟨rfl,rfl⟩
 ·have h3:t-b<b:=by omega
  rw [e,show b*(2*q)+t=b*(1+2*q)+(t-b) by rw [Nat.mul_add];omega,Nat.mul_add_mod,Nat.mod_eq_of_lt h3,Nat.mul_add_div hb,Nat.div_eq_of_lt h3];exact ⟨rfl,rfl⟩
theorem ZgY {n m:Nat} (h:n<=m):(Zc n).length<=(Zc m).length:=by
 have h1:=Zb8 (Zc m)
 rw [Zae] at h1
 exact ZbF _ _ (by omega)
theorem Zjc (w:World) (x y:Value) (a b:Nat) (hx:Zk w x (Zc a)) (hy:Zk w y (Zc b)) (ha:(Zc a).length<=298) (hb:(Zc b).length<=298) (hb0:0<b) :
  Calls Tryz.prog 93 #[x,y] w (ZqQ w (a / b) (a % b)):=by
 obtain ⟨i0,hi,hz0,hz1,hz2⟩:=info_parts ZiJ
 have HY:=Lib.hid hy
 have na:Zj (Zc a)=a:=Zae a
 obtain ⟨A,d,rfl,k2,k3,k4⟩:=hx
 obtain ⟨B,e,rfl,_,_,_⟩:=hy
 obtain ⟨la,hla⟩:∃ la,la=Zc a:=⟨_,rfl⟩
 rw [<- hla] at k2 k4 ha na ⊢
 obtain ⟨n,hn⟩:∃ n,n=la.length:=⟨_,rfl⟩
 obtain ⟨m,hm⟩:∃ m,m=(Zc b).length:=⟨_,rfl⟩
 rw [<- hn] at k2 k4 ha ⊢
 rw [<- hm] at HY hb ⊢
 have hm0:0<m:=by rw [hm,Zbz (by omega),List.length_cons];omega
 have e0:((m:Int)==0)=false:=by simp;omega
 have HA:=Lib.hid (And.intro na (And.intro hn (And.intro hm hb0)))
 have HL:=Lib.hid (And.intro ha (And.intro hb hm0))
 clear k2 k3 na hla hn hm ha hb hb0 hm0
 go_enter Tryz.func93,Tryz.ntmps93
 go_wp2_with fail
 go_loopg [6,7,8,9] n (fun g v6 v7 v8 v9 wr=>ZqH la b w g v6 v7 v8 wr)
 case atStart=>
  have e2:=HL.out.1
  have hw:wrap64 ((n:Int)-1)=(n:Int)-1:=IntWalk.wrap64_in _ (by omega)
  have e:=HA.out.2.1
  refine ⟨n,0,0,_,[],Nat.le_of_eq e,rfl,rfl,by first | rw [hw] | exact congrArg (Value.int .i64) hw,by rw [List.drop_eq_nil_of_le (Nat.le_of_eq e.symm)];rfl,by simp,by simpa using e,by simp [Zj],Zk.nil w,by rw [ZaO];exact Zk.nil w,Below.refl _ _,Zs.none_ _ _ _,Zs.none_ _ _ _⟩
 case round=>
  obtain ⟨k,p,r,z,l,hk,hg,hz,rfl,hp,hr,hl,hq,nq,nr,hbelow,fq,fr⟩:=hrel
  have HK:=Lib.hid (And.intro hk (And.intro hg (And.intro hp (And.intro hr (And.intro hl hq)))))
  by_cases hk0:k=0
  ·obtain rfl:z=-1:=by omega
   have hpa:p=a:=by rw [hp,hk0,List.drop_zero,HA.out.1]
   have ht:=ZeV wr _ l nq
   rw [hq,hpa] at ht
   rw [hr,hpa] at nr
   clear hk hg hz hp hk0 hr hl hq hpa
   go_wp2_with (go_at_call 99;(with_reducible refine ht.mono ?_);rintro e w' ⟨v',rfl,hv,rfl,ho⟩)
   exact bodyPost_ret (v:=.tuple #[v',_]) (by simp [results,Tryz.results93,go_sem]) rfl ⟨_,_,rfl,hv,nr,hbelow,fq.of_eq ho,fr⟩
  ·obtain ⟨j,rfl⟩:∃ j,k=j+1:=⟨k-1,by omega⟩
   obtain rfl:z=(j:Int):=by omega
   have hjn:j<n:=by have:=HA.out.2.1;omega
   obtain ⟨bd,rfl,c2⟩:=Zk.bit HA.out.2.1.symm k4 hjn
   have wj:IntKind.i64.wrap ((j:Int)-1)=(j:Int)-1:=IntWalk.i64_in _ (by have:=HL.out;omega)
   have i1:(j:Int)<(n:Int):=by omega
   have i2:(0:Int)<=(j:Int):=by omega
   have i3:decide ((0:Int)<=(j:Int))=true:=decide_eq_true i2
   have hdj:=ZbM la j
   rw [<- hp] at hdj
   obtain ⟨bt,hbt⟩:∃ bt,bt=Zag la j:=⟨_,rfl⟩
   rw [<- hbt] at hdj c2
   obtain ⟨t,ht⟩:∃ t,t=bt.toNat+2*r:=⟨_,rfl⟩
   have step:=Zn4 HA.out.2.2.2 hr hq (ZcM bt) ht
   rw [<- hdj] at step
   have hr2:(Zc r).length<=298:=by
    have:=Nat.mod_lt p HA.out.2.2.2
    have:=ZgY (n:=r) (m:=b) (by omega)
    have:=HL.out;have:=HA.out;omega
   have ht2:(Zc t).length<=299:=by rw [ht];exact ZjH hr2 (ZcM bt)
   have ST:=Lib.hid step
   have c3:wr.cell? (bd.add j)=some (.bool bt):=(hbelow.cell (p:=bd.add j) (by obtain ⟨_,e,hb,_⟩:=k4.2 (by omega);injection e with e;subst e;rw [ZL];exact hb)).trans c2
   have hl3:l.length<=298:=by have:=HA.out.2.1;have:=HL.out;omega
   obtain ⟨C,c,rfl,h2,h3,h4⟩:=nr
   obtain ⟨Q,qc,rfl,m2,m3,m4⟩:=nq
   have HJ:=Lib.hid (And.intro hr2 (And.intro ht2 (And.intro hjn (And.intro ht hl3))))
   have hy1:=HY.out
   clear hk hg hz hp hk0 hr hl hq hdj hbt step c2 hr2 ht2 hjn ht hl3
   go_wp2_with (at_builtin;refine Zm _ rfl _ _ 99 rfl wr.heap.size 4 i0 (.bool false) 1 1 Tryz.underlying99 hi hz0 hz1 hz2 rfl (by decide) _ 1 [.bool bt] rfl (ZhD wr bt) wr.heap.size C _ c _ rfl (h4.alloc (Nat.le_refl _) _) ?c2 ?c3 ?c4 ?c5 ?_)
   case c2=>
    intro u hu
    obtain ⟨q,_,rfl⟩:=List.mem_map.1 hu
    rfl
   case c3=>have:=HJ.out;unfold maxLen;omega
   case c4=>have:=HJ.out;omega
   case c5=>simp
   intro v' w1 hown' hgrow _
   have b1:=Zdw hbelow hgrow
   have bq:Below wr.heap.size wr w1:=Zdw (Below.refl _ _) hgrow
   have n1:=Zf0 hown'
   have f1:=Zs.mono (Zc1 hown') hbelow.size
   have m5:=(m4.below bq).more bq.size
   have hy2:Zk w1 (.slice B m e) (Zc b):=hy1.below b1
   have L1:=Lib.hid b1
   have ht:=ZeV w1 v' _ n1
   rw [ZiO,<- HJ.out.2.2.2.1] at ht
   clear hown' hgrow hbelow n1 h4 b1 m4 c3 hy1
   have hlt:=fun (u:Value) (hu:Zk w1 u (Zc t))=>Zim w1 u (.slice B m e) t b hu hy2
   by_cases htb:t<b
   ·have hd:decide (t<b)=true:=decide_eq_true htb
    rw [hd] at hlt
    have S1:=Lib.hid (ST.out.1 htb)
    clear htb hd
    go_wp2_with (first
     | (go_at_call 99;(with_reducible refine ht.mono ?_);rintro e w' ⟨v'',rfl,hv,rfl,ho⟩)
     | (go_at_call 97;(with_reducible refine (hlt _ hv).mono ?_);rintro e w' ⟨rfl,q,rfl⟩)
     | (at_builtin;refine Zm _ rfl _ _ 99 rfl w1.heap.size 4 i0 (.bool false) 1 1 Tryz.underlying99 hi hz0 hz1 hz2 rfl (by decide) _ 1 [.bool false] rfl (ZhD (w1.drewN q) false) w1.heap.size Q _ qc _ rfl (m5.alloc (Nat.le_refl _) _) ?c2 ?c3 ?c4 ?c5 ?_))
    case c2=>
     intro u hu
     obtain ⟨q,_,rfl⟩:=List.mem_map.1 hu
     rfl
    case c3=>have:=HJ.out;unfold maxLen;omega
    case c4=>have:=HJ.out;omega
    case c5=>simp
    intro v3 w3 hown' hgrow _
    have b3:=Zdw (w0:=w1) (Go.Proofs.YtolookeddknmoaaGreat.Below.drewN_ (Below.refl _ _) q) hgrow
    have n3:=Zf0 hown'
    have f3:=Zs.mono (Zc1 hown') L1.out.size
    have hv3:=hv.below b3
    have b4:=L1.out.trans (b3.mono L1.out.size)
    clear hown' hgrow m5
    go_wp2_with fail
    go_roundg j
    case measure=>have:=HK.out;omega
    case rel=>
     have:=HK.out
     exact ⟨j,_,_,_,false::l,by omega,rfl,rfl,rfl,rfl,rfl,by rw [List.length_cons];omega,by rw [Zj,S1.out.2];simp,n3,by rw [S1.out.1];exact hv3,b4,f3,f1.of_eq ho⟩
   ·have hd:decide (t<b)=false:=decide_eq_false htb
    rw [hd] at hlt
    have S1:=Lib.hid (ST.out.2 (by omega))
    have hsb:=fun (u:Value) (q:Nat) (hu:Zk w1 u (Zc t))=>Zjo (w1.drewN q) u (.slice B m e) t b (hu.drewN q) (hy2.drewN q) (by have:=HJ.out;omega) (by have:=HL.out;have:=HA.out;omega) (by omega)
    clear htb hd
    go_wp2_with (first
     | (go_at_call 99;(with_reducible refine ht.mono ?_);rintro e w' ⟨v'',rfl,hv,rfl,ho⟩)
     | (go_at_call 97;(with_reducible refine (hlt _ hv).mono ?_);rintro e w' ⟨rfl,q,rfl⟩)
     | (go_at_call 98;(with_reducible refine (hsb _ q hv).mono ?_);rintro e w2 ⟨v2,rfl,hv2,bs,fs⟩;have m6:=(m5.drewN q |>.below bs).more bs.size)
     | (at_builtin;refine Zm _ rfl _ _ 99 rfl w2.heap.size 4 i0 (.bool false) 1 1 Tryz.underlying99 hi hz0 hz1 hz2 rfl (by decide) _ 1 [.bool true] rfl (ZhD w2 true) w2.heap.size Q _ qc _ rfl (m6.alloc (Nat.le_refl _) _) ?c2 ?c3 ?c4 ?c5 ?_))
    case c2=>
     intro u hu
     obtain ⟨q,_,rfl⟩:=List.mem_map.1 hu
     rfl
    case c3=>have:=HJ.out;unfold maxLen;omega
    case c4=>have:=HJ.out;omega
    case c5=>simp
    intro v3 w3 hown' hgrow _
    have b3:=Zdw (w0:=w2) (Below.refl _ _) hgrow
    have n3:=Zf0 hown'
    have f3:=Zs.mono (Zc1 hown') (Nat.le_trans L1.out.size bs.size)
    have hv3:=hv2.below b3
    have b5:Below w1.heap.size w1 w2:=⟨bs.os,bs.tape,bs.output,bs.size,bs.block⟩
    have b4:=L1.out.trans ((b5.trans (b3.mono b5.size)).mono L1.out.size)
    clear hown' hgrow m5 m6
    go_wp2_with fail
    go_roundg j
    case measure=>have:=HK.out;omega
    case rel=>
     have:=HK.out
     exact ⟨j,_,_,_,true::l,by omega,rfl,rfl,rfl,rfl,rfl,by rw [List.length_cons];omega,by rw [Zj,S1.out.2];simp,n3,by rw [S1.out.1];exact hv3,b4,f3,fs.mono L1.out.size⟩
end
section
open Go.RowKit
theorem ZjK {n k:Nat} (h:(Zc n).length<=k):n<2 ^ k:=by
 have h1:=Zb8 (Zc n)
 rw [Zae] at h1
 have h2:=Nat.pow_le_pow_right (show 0<2 by decide) h
 omega
def Zp7 (B:Nat) (w:World) (l:List Bool) (e:Ending) (w':World):Prop:=∃ v',e=.returned v'/\Zk w' v' l/\Below w.heap.size w w'/\Zs B v'
def ZqG (B a b:Nat) (w:World) (g:Nat) (v0 v1:Value) (wr:World):Prop:=∃ p q:Nat,g=q/\(Zc p).length<=298/\(Zc q).length<=298/\Nat.gcd p q=Nat.gcd a b ∧
 Zk wr v0 (Zc p)/\Zk wr v1 (Zc q)/\Below w.heap.size w wr/\Zs B v0/\Zs B v1
theorem ZiC (w:World) (x y:Value) (a b:Nat) (hx:Zk w x (Zc a)) (hy:Zk w y (Zc b)) (ha:(Zc a).length<=298) (hb:(Zc b).length<=298) (B:Nat) (hB:B<=w.heap.size) (fx:Zs B x) (fy:Zs B y) :
  Calls Tryz.prog 67 #[x,y] w (Zp7 B w (Zc (Nat.gcd a b))):=by
 have HX:=Lib.hid (And.intro hx (And.intro hy (And.intro ha hb)))
 have FX:=Lib.hid (And.intro hB (And.intro fx fy))
 clear hx hy ha hb hB fx fy
 go_enter Tryz.func67,Tryz.ntmps67
 go_wp2_with fail
 go_loopg [0,1,5,6] b (fun g v0 v1 v5 v6 wr=>ZqG B a b w g v0 v1 wr)
 case atStart=>exact ⟨a,b,rfl,HX.out.2.2.1,HX.out.2.2.2,rfl,HX.out.1,HX.out.2.1,Below.refl _ _,FX.out.2⟩
 case round=>
  obtain ⟨p,q,hg,hp,hq,hgcd,n0,n1,hbelow,f0,f1⟩:=hrel
  by_cases hq0:q=0
  ·subst hq0
   have hfin:p=Nat.gcd a b:=by rw [<- hgcd,Nat.gcd_zero_right]
   rw [ZaO] at n1
   rw [hfin] at n0
   obtain ⟨A,d,rfl,_,_,_⟩:=n1
   clear hg hp hq hgcd hfin
   go_wp2_with fail
   go_ret
   exact ⟨_,rfl,n0,hbelow,f0⟩
  ·have hd:=Zjc _ _ _ p q n0 n1 hp hq (by omega)
   have hg2:Nat.gcd q (p % q)=Nat.gcd a b:=by rw [<- hgcd,Nat.gcd_comm p q,Nat.gcd_rec q p,Nat.gcd_comm]
   have hr:=ZgY (n:=p % q) (m:=q) (Nat.le_of_lt (Nat.mod_lt _ (by omega)))
   have hlt:=Nat.mod_lt p (show 0<q by omega)
   have hl0:(0:Int)<((Zc q).length:Int):=by rw [Zbz hq0,List.length_cons];omega
   have HH:=Lib.hid (And.intro hg (And.intro hq (And.intro hg2 (And.intro hr hlt))))
   have HN:=Lib.hid (And.intro n1 f1)
   obtain ⟨A,d,rfl,_,_,_⟩:=n1
   have HL:=Lib.hid hbelow
   clear hg hp hq hgcd hg2 hr hlt hq0 hbelow
   generalize hm:(Zc q).length=m at *
   go_wp2_with (go_at_call 93;(with_reducible refine hd.mono ?_);rintro e w' ⟨v',u',rfl,hv,hu,hb,fq,fr⟩)
   go_roundg (p % q)
   case measure=>have:=HH.out;omega
   case rel=>
    have:=HH.out
    exact ⟨q,p % q,rfl,by omega,by omega,HH.out.2.2.1,HN.out.1.below hb,hu,HL.out.trans (hb.mono HL.out.size),HN.out.2,fr.mono (Nat.le_trans FX.out.1 HL.out.size)⟩
def ZqR (l:List Bool) (w:World) (g:Nat) (v4 v5:Value) (wr:World):Prop:=∃ (k p:Nat) (z:Int),k<=l.length/\g=k/\z=(k:Int)-1/\v5=.int .i64 z/\v4=.int .i64 p/\p=Zj (l.drop k)/\w=wr
theorem ZgA (l:List Bool) (k:Nat) (h:l.length<=63):Zj (l.drop k)<9223372036854775808:=by
 have h1:=Zb8 (l.drop k)
 have h2:=Nat.pow_le_pow_right (show 0<2 by decide) (show (l.drop k).length<=63 by rw [List.length_drop];omega)
 have h3:(2:Nat) ^ 63=9223372036854775808:=by decide
 omega
def Zfo (a:Nat):Value:=if a<9223372036854775808 then .tuple #[.int .i64 a,.bool true] else .tuple #[.int .i64 0,.bool false]
theorem Zkc (w:World) (x:Value) (a:Nat) (hx:Zk w x (Zc a)) (ha:(Zc a).length<=298) :
  Calls Tryz.prog 96 #[x] w fun e w'=>e=.returned (Zfo a)/\w=w':=by
 have na:Zj (Zc a)=a:=Zae a
 obtain ⟨A,d,rfl,h2,h3,h4⟩:=hx
 obtain ⟨l,hl⟩:∃ l,l=Zc a:=⟨_,rfl⟩
 rw [<- hl] at h2 h4 ha na ⊢
 obtain ⟨n,hn⟩:∃ n,n=l.length:=⟨_,rfl⟩
 rw [<- hn] at h2 h4 ha ⊢
 by_cases h63:n<=63
 ·have hva:Zfo a=.tuple #[.int .i64 a,.bool true]:=by
   have:=ZgA l 0 (by omega)
   rw [List.drop_zero,na] at this
   exact if_pos this
  rw [hva]
  have HA:=Lib.hid (And.intro na (And.intro hn h63))
  have hle:¬ ((n:Int) > 63):=by omega
  have hd:decide ((63:Int)<(n:Int))=false:=decide_eq_false (by omega)
  clear na hl hn h2 h3 ha hva
  go_enter Tryz.func96,Tryz.ntmps96
  go_wp2_with fail
  go_loopg [4,5] n (fun g v4 v5 wr=>ZqR l w g v4 v5 wr)
  case atStart=>exact ⟨n,0,_,by rw [HA.out.2.1];exact Nat.le_refl _,rfl,rfl,by go_num,rfl,by rw [List.drop_eq_nil_of_le (Nat.le_of_eq HA.out.2.1.symm)];rfl,rfl⟩
  case round=>
   obtain ⟨k,p,z,hk,hg,hz,rfl,rfl,hp,rfl⟩:=hrel
   by_cases hk0:k=0
   ·obtain rfl:z=-1:=by omega
    obtain rfl:p=a:=by rw [hp,hk0,List.drop_zero,HA.out.1]
    clear hk hg hz hp hk0
    go_wp2_with fail
    exact bodyPost_ret (v:=.tuple #[.int .i64 p,.bool true]) (by simp [results,Tryz.results96,go_sem]) rfl ⟨rfl,rfl⟩
   ·obtain ⟨j,rfl⟩:∃ j,k=j+1:=⟨k-1,by omega⟩
    obtain rfl:z=(j:Int):=by omega
    have hjn:j<n:=by have:=HA.out.2.1;omega
    obtain ⟨bd,rfl,c2⟩:=Zk.bit HA.out.2.1.symm h4 hjn
    have wj:IntKind.i64.wrap ((j:Int)-1)=(j:Int)-1:=IntWalk.i64_in _ (by omega)
    have i1:(j:Int)<(n:Int):=by omega
    have i2:(0:Int)<=(j:Int):=by omega
    have i3:decide ((0:Int)<=(j:Int))=true:=decide_eq_true i2
    have hdj:=ZbM l j
    have hlt:=ZgA l j (by have:=HA.out;omega)
    rw [<- hp] at hdj
    obtain ⟨bt,hbt⟩:∃ bt,bt=Zag l j:=⟨_,rfl⟩
    rw [<- hbt] at hdj c2
    have HJ:=Lib.hid (And.intro hdj (And.intro hg hk))
    rw [hdj] at hlt
    have w1:IntKind.i64.wrap (2*(p:Int))=((2*p:Nat):Int):=by rw [IntWalk.i64_in _ (by omega)];omega
    clear hdj hbt hg hk hk0 hz hp
    cases bt
    ·clear hlt
     go_wp2_with fail
     go_roundg j
     case measure=>have:=HJ.out;omega
     case rel=>exact ⟨j,2*p,_,by have:=HJ.out;omega,rfl,rfl,rfl,rfl,by rw [HJ.out.1];simp,rfl⟩
    ·have w2:wrap64 (2*(p:Int)+1)=((1+2*p:Nat):Int):=by
      rw [Bool.toNat_true] at hlt
      rw [IntWalk.wrap64_in _ (by omega)];omega
     clear hlt
     go_wp2_with fail
     go_roundg j
     case measure=>have:=HJ.out;omega
     case rel=>exact ⟨j,1+2*p,_,by have:=HJ.out;omega,rfl,rfl,rfl,by rw [w2],by rw [HJ.out.1];simp,rfl⟩
 ·have hva:Zfo a=.tuple #[.int .i64 0,.bool false]:=by
   refine if_neg fun h=>?_
   have:=ZbF a 63 (by have h3:(2:Nat) ^ 63=9223372036854775808:=(by decide);omega)
   rw [<- hl] at this
   omega
  rw [hva]
  have hd:decide ((63:Int)<(n:Int))=true:=decide_eq_true (by omega)
  clear na hl hn h2 h3 ha hva h63
  go_enter Tryz.func96,Tryz.ntmps96
  go_wp2_with fail
  exact bodyPost_ret (v:=.tuple #[.int .i64 0,.bool false]) (by simp [results,Tryz.results96,go_sem]) rfl ⟨rfl,rfl⟩
theorem ZgX {n:Nat} (h:n<18446744073709551616):(Zc n).length<=64:=ZbF n 64 h
theorem Ze7 (n:Int) (w:World) (h1:-9223372036854775808<=n) (h2:n<=9223372036854775807) :
  Calls Tryz.prog 68 #[.int .i64 n] w (Zfs w (Zc n.natAbs)):=by
 by_cases h:n<0
 ·obtain ⟨m,hm⟩:∃ m:Nat,n=-(m:Int)-1:=⟨(-(n+1)).toNat,by omega⟩
  have hm2:m<9223372036854775808:=by omega
  have ha:n.natAbs=m+1:=by omega
  rw [ha]
  subst hm
  have w1:wrap64 (-(m:Int))=-(m:Int):=IntWalk.wrap64_in _ (by omega)
  have w2:wrap64 (m:Int)=(m:Int):=IntWalk.wrap64_in _ (by omega)
  have w3:IntKind.u64.wrap (m:Int)=(m:Int):=by rw [IntWalk.u64_in _ (by omega)]
  have hd:decide (-(m:Int)-1<0)=true:=decide_eq_true (by omega)
  have o1:=Zk9 m w (by omega)
  have o2:∀ w',Calls Tryz.prog 95 #[.int .u64 1] w' (Zfs w' (Zc 1)):=fun w'=>Zk9 1 w' (by decide)
  have hl:(Zc m).length<=64/\(Zc 1).length<=64:=⟨ZgX (by omega),ZgX (by decide)⟩
  clear h1 h2 h ha hm2
  go_enter Tryz.func68,Tryz.ntmps68
  go_wp2_with (first
   | (go_at_call 95;(with_reducible refine o1.mono ?_);rintro e wa ⟨va,rfl,hva,hba,_⟩;have o3:=o2 wa;clear o1)
   | (go_at_call 95;(with_reducible refine o3.mono ?_);rintro e wb ⟨vb,rfl,hvb,hbb,_⟩;have o4:=Zi7 wb va vb m 1 (hva.below hbb) hvb (by have:=hl;omega) (by have:=hl;omega))
   | (go_at_call 94;(with_reducible refine o4.mono ?_);rintro e wc ⟨vc,rfl,hvc,hbc,hfc⟩))
  go_ret
  exact ⟨_,rfl,hvc,hba.trans ((hbb.trans (hbc.mono hbb.size)).mono hba.size),hfc.mono (Nat.le_trans hba.size hbb.size)⟩
 ·obtain ⟨m,rfl⟩:∃ m:Nat,n=(m:Int):=⟨n.toNat,by omega⟩
  have hm2:m<9223372036854775808:=by omega
  rw [Int.natAbs_natCast]
  have w3:IntKind.u64.wrap (m:Int)=(m:Int):=by rw [IntWalk.u64_in _ (by omega)]
  have hd:decide ((m:Int)<0)=false:=decide_eq_false (by omega)
  have o1:=Zk9 m w (by omega)
  clear h1 h2 h hm2
  go_enter Tryz.func68,Tryz.ntmps68
  go_wp2_with (go_at_call 95;(with_reducible refine o1.mono ?_);rintro e w' ⟨v',rfl,hv,hb,hf⟩)
  go_ret
  exact ⟨_,rfl,hv,hb,hf⟩
end
section
open Go.RowKit
def ZcS (w:World) (B:Nat) (v:Value) (N D:Nat) (m:Bool):Prop:=∃ vn vd,v=.agg #[vn,vd,.bool m]/\Zk w vn (Zc N)/\Zk w vd (Zc D)/\Zs B vn/\Zs B vd
theorem ZcS.below {w w':World} {B:Nat} {v:Value} {N D:Nat} {m:Bool} (h:ZcS w B v N D m) (hb:Below w.heap.size w w'):ZcS w' B v N D m:=by
 obtain ⟨a,b,h1,h2,h3,h4⟩:=h
 exact ⟨a,b,h1,h2.below hb,h3.below hb,h4⟩
def Zi2 (w:World) (N D:Nat) (m:Bool) (e:Ending) (w':World):Prop:=∃ v,e=.returned v/\ZcS w' w.heap.size v N D m/\Below w.heap.size w w'
theorem Zk.drew {w:World} {v:Value} {l:List Bool} (h:Zk w v l):Zk w.drew v l:=h
theorem Zk.setCell {w:World} {B:Nat} {v:Value} {l:List Bool} (h:Zk w v l) (f:Zs B v) {p:Addr} (hp:p.block<B) (x:Value):Zk (w.setCell p x) v l:=by
 obtain ⟨A,c,rfl,h2,h3,h4⟩:=h
 refine ⟨A,c,rfl,h2,h3,h4.1,fun hn=>?_⟩
 obtain ⟨ad,rfl,hb,hc⟩:=h4.2 hn
 have:=f ad.block rfl
 refine ⟨ad,rfl,by rw [World.size_setCell];exact hb,fun j u hu=>?_⟩
 rw [World.cell?_setCell_other _ _ _ _ (fun e=>by have:=congrArg Addr.block e;rw [ZL] at this;omega)]
 exact hc j u hu
theorem ZeU {w w1 f:World} {b:Nat} {x y z:Value} {A B F:Prop} (hf:f=((w1.setCell ⟨b,0,none⟩ x).setCell ⟨b,1,none⟩ y).setCell ⟨b,2,none⟩ z)
  (h:A/\B/\Below w.heap.size w f/\(f.cell? ⟨b,0,none⟩=some (Zi f ⟨b,0,none⟩)/\f.cell? ⟨b,1,none⟩=some (Zi f ⟨b,1,none⟩)/\f.cell? ⟨b,2,none⟩=some (Zi f ⟨b,2,none⟩))/\F) :
  f.cell? ⟨b,0,none⟩=some x/\f.cell? ⟨b,1,none⟩=some y/\f.cell? ⟨b,2,none⟩=some z/\Below w.heap.size w f:=by
 obtain ⟨_,_,k,⟨i0,i1,i2⟩,_⟩:=h
 subst hf
 obtain ⟨e0,e1,e2⟩:=Zek i0 i1 i2
 exact ⟨i0.trans (congrArg some e0),i1.trans (congrArg some e1),i2.trans (congrArg some e2),k⟩
theorem Zof {w w1 w2:World} {x0 x1:Value} (hb:Below w1.heap.size w1 w2)
  (h:(w1.cell? ⟨w.heap.size,0,none⟩=some x0/\w1.cell? ⟨w.heap.size,1,none⟩=some x1)/\w.heap.size+1<w1.heap.size/\Below w.heap.size w w1/\(w1.cell? ⟨w.heap.size+1,0,none⟩=some (Zi w1 ⟨w.heap.size+1,0,none⟩)/\w1.cell? ⟨w.heap.size+1,1,none⟩=some (Zi w1 ⟨w.heap.size+1,1,none⟩)/\w1.cell? ⟨w.heap.size+1,2,none⟩=some (Zi w1 ⟨w.heap.size+1,2,none⟩))/\(w1.frozen? ⟨w.heap.size+1,0,none⟩=false/\w1.frozen? ⟨w.heap.size+1,1,none⟩=false/\w1.frozen? ⟨w.heap.size+1,2,none⟩=false)) :
  (w2.cell? ⟨w.heap.size,0,none⟩=some x0/\w2.cell? ⟨w.heap.size,1,none⟩=some x1)/\w.heap.size+1<w2.heap.size/\Below w.heap.size w w2/\(w2.cell? ⟨w.heap.size+1,0,none⟩=some (Zi w2 ⟨w.heap.size+1,0,none⟩)/\w2.cell? ⟨w.heap.size+1,1,none⟩=some (Zi w2 ⟨w.heap.size+1,1,none⟩)/\w2.cell? ⟨w.heap.size+1,2,none⟩=some (Zi w2 ⟨w.heap.size+1,2,none⟩))/\(w2.frozen? ⟨w.heap.size+1,0,none⟩=false/\w2.frozen? ⟨w.heap.size+1,1,none⟩=false/\w2.frozen? ⟨w.heap.size+1,2,none⟩=false):=by
 obtain ⟨⟨a0,a1⟩,g,k,⟨i0,i1,i2⟩,⟨j0,j1,j2⟩⟩:=h
 have hs:=hb.size
 exact ⟨⟨Zf hb (by omega) a0,Zf hb (by omega) a1⟩,by omega,k.trans (hb.mono k.size),⟨ZJ (Zf hb (by omega) i0),ZJ (Zf hb (by omega) i1),ZJ (Zf hb (by omega) i2)⟩,⟨Zu hb (by omega) j0,Zu hb (by omega) j1,Zu hb (by omega) j2⟩⟩
theorem Zha {w w1:World} {x0 x1:Value} {o:Nat} {x:Value}
  (h:(w1.cell? ⟨w.heap.size,0,none⟩=some x0/\w1.cell? ⟨w.heap.size,1,none⟩=some x1)/\w.heap.size+1<w1.heap.size/\Below w.heap.size w w1/\(w1.cell? ⟨w.heap.size+1,0,none⟩=some (Zi w1 ⟨w.heap.size+1,0,none⟩)/\w1.cell? ⟨w.heap.size+1,1,none⟩=some (Zi w1 ⟨w.heap.size+1,1,none⟩)/\w1.cell? ⟨w.heap.size+1,2,none⟩=some (Zi w1 ⟨w.heap.size+1,2,none⟩))/\(w1.frozen? ⟨w.heap.size+1,0,none⟩=false/\w1.frozen? ⟨w.heap.size+1,1,none⟩=false/\w1.frozen? ⟨w.heap.size+1,2,none⟩=false)) :
  ((w1.setCell ⟨w.heap.size+1,o,none⟩ x).cell? ⟨w.heap.size,0,none⟩=some x0/\(w1.setCell ⟨w.heap.size+1,o,none⟩ x).cell? ⟨w.heap.size,1,none⟩=some x1)/\w.heap.size+1<(w1.setCell ⟨w.heap.size+1,o,none⟩ x).heap.size/\Below w.heap.size w (w1.setCell ⟨w.heap.size+1,o,none⟩ x)/\((w1.setCell ⟨w.heap.size+1,o,none⟩ x).cell? ⟨w.heap.size+1,0,none⟩=some (Zi (w1.setCell ⟨w.heap.size+1,o,none⟩ x) ⟨w.heap.size+1,0,none⟩)/\(w1.setCell ⟨w.heap.size+1,o,none⟩ x).cell? ⟨w.heap.size+1,1,none⟩=some (Zi (w1.setCell ⟨w.heap.size+1,o,none⟩ x) ⟨w.heap.size+1,1,none⟩)/\(w1.setCell ⟨w.heap.size+1,o,none⟩ x).cell? ⟨w.heap.size+1,2,none⟩=some (Zi (w1.setCell ⟨w.heap.size+1,o,none⟩ x) ⟨w.heap.size+1,2,none⟩))/\((w1.setCell ⟨w.heap.size+1,o,none⟩ x).frozen? ⟨w.heap.size+1,0,none⟩=false/\(w1.setCell ⟨w.heap.size+1,o,none⟩ x).frozen? ⟨w.heap.size+1,1,none⟩=false/\(w1.setCell ⟨w.heap.size+1,o,none⟩ x).frozen? ⟨w.heap.size+1,2,none⟩=false):=by
 obtain ⟨⟨a0,a1⟩,g,k,⟨i0,i1,i2⟩,⟨j0,j1,j2⟩⟩:=h
 have q:∀ b o',b≠w.heap.size+1->(w1.setCell ⟨w.heap.size+1,o,none⟩ x).cell? ⟨b,o',none⟩=w1.cell? ⟨b,o',none⟩:=fun b o' hb=>World.cell?_setCell_other _ _ _ _ (by intro e;injection e with e;exact hb e.symm)
 exact ⟨⟨(q _ _ (by omega)).trans a0,(q _ _ (by omega)).trans a1⟩,by rw [World.size_setCell];exact g,k.setCell (by show w.heap.size<=w.heap.size+1;omega) _,⟨Zap i0,Zap i1,Zap i2⟩,⟨by rw [World.frozen?_setCell];exact j0,by rw [World.frozen?_setCell];exact j1,by rw [World.frozen?_setCell];exact j2⟩⟩
theorem Zcp (n d:Int) (w:World) (h1:-9223372036854775808<=n) (h2:n<=9223372036854775807) (h3:-9223372036854775808<=d) (h4:d<=9223372036854775807) :
  Calls Tryz.prog 69 #[Ze n d] w (Zi2 w n.natAbs d.natAbs (decide (n<0))):=by
 have s1:=fun w=>Ze7 n w h1 h2
 have s2:=fun w=>Ze7 d w h3 h4
 clear h1 h2 h3 h4
 generalize n.natAbs=N at *
 generalize d.natAbs=D at *
 go_enter Tryz.func69,Tryz.ntmps69
 go_upto_region 1 with fail
 go_region_held3 (fun w'=>(w'.cell? ⟨w.heap.size,0,none⟩=some (.int .i64 n)/\w'.cell? ⟨w.heap.size,1,none⟩=some (.int .i64 d))/\w.heap.size+1<w'.heap.size/\Below w.heap.size w w'/\(w'.cell? ⟨w.heap.size+1,0,none⟩=some (Zi w' ⟨w.heap.size+1,0,none⟩)/\w'.cell? ⟨w.heap.size+1,1,none⟩=some (Zi w' ⟨w.heap.size+1,1,none⟩)/\w'.cell? ⟨w.heap.size+1,2,none⟩=some (Zi w' ⟨w.heap.size+1,2,none⟩))/\(w'.frozen? ⟨w.heap.size+1,0,none⟩=false/\w'.frozen? ⟨w.heap.size+1,1,none⟩=false/\w'.frozen? ⟨w.heap.size+1,2,none⟩=false))
  (first
   | with_reducible assumption
   | with_reducible exact Zof (by with_reducible assumption) (by with_reducible assumption)
   | with_reducible exact Zha (Zha (Zha (by with_reducible assumption)))
   | exact ⟨⟨by go_simp,by go_simp⟩,by simp,(ZI _ _ _).drew,⟨ZJ (v:=.slice none 0 0) (by go_simp),ZJ (v:=.slice none 0 0) (by go_simp),ZJ (v:=.bool false) (by go_simp)⟩,⟨by go_simp,by go_simp,by go_simp⟩⟩)
  (first
   | (go_at_call 68;(with_reducible refine (s1 _).mono ?_);rintro e wa ⟨v1,rfl,hv1,hb1,hf1⟩;have hs1:=hv1;obtain ⟨A1,e1,rfl,_⟩:=hs1;have HV1:=Lib.hid (And.intro hv1 hf1);clear hv1 hf1)
   | (go_at_call 68;(with_reducible refine (s2 _).mono ?_);rintro e wb ⟨v2,rfl,hv2,hb2,hf2⟩;have hs2:=hv2;obtain ⟨A2,e2,rfl,_⟩:=hs2;have HV2:=Lib.hid (And.intro hv2 hf2);clear hv2 hf2))
 go_wp2_with fail
 have n1:=HV1.out.1.below hb2
 have n2:=HV2.out.1
 have z1:=hb1.size
 have z2:=hb2.size
 simp at z1 z2
 have f1:=HV1.out.2.mono (B':=w.heap.size+2) (by simp)
 have f2:=HV2.out.2.mono (B':=w.heap.size+2) (by simpa using z1)
 obtain ⟨c0,c1,c2,hB⟩:=ZeU (w:=w) rfl (by with_reducible assumption)
 refine bodyPost_ret (v:=.agg #[.slice A1 (Zc N).length e1,.slice A2 (Zc D).length e2,.bool (decide (n<0))]) (by simp [results,Tryz.results69,go_sem,c0,c1,c2]) rfl ⟨_,rfl,⟨_,_,rfl,?_,?_,f1.mono (by omega),f2.mono (by omega)⟩,hB⟩
 ·exact (((n1.setCell f1 (by show w.heap.size+1<_;omega) _).setCell f1 (by show w.heap.size+1<_;omega) _).setCell f1 (by show w.heap.size+1<_;omega) _)
 ·exact (((n2.setCell f2 (by show w.heap.size+1<_;omega) _).setCell f2 (by show w.heap.size+1<_;omega) _).setCell f2 (by show w.heap.size+1<_;omega) _)
end
end Go.Proofs.YtolookeddknmoaaGreat
