import Derived.BigQuiet
import Derived.Deep.QuietTactic
import Derived.Laws.CopyOwn
import Derived.Deep.LoopGhost
import Derived.Test.YtkongcicmajolaaGreatDoorQAC
import Derived.Test.YtkongcicmajolaaGreatDoorQAD
import Derived.Test.YtkongcicmajolaaGreatDoorQAE
set_option maxRecDepth 100000
set_option maxHeartbeats 8000000
namespace Go.Proofs.YtkongcicmajolaaGreatDoor
section
open Go.RowKit
theorem Zie {α:Type} {f:α->Bool} {l:List α} {k:Nat} {x:α} (hk:l[k]? = some x) (h:(l.take k).all f=true):(l.take (k+1)).all f=f x:=by
 rw [List.take_add_one,hk,List.all_append,h,Bool.true_and]
 simp
theorem Zjr {α:Type} {f:α->Bool} {l:List α} {k:Nat} {x:α} (hk:l[k]? = some x) (h:f x=false):l.all f=false:=by
 rw [List.all_eq_false]
 exact ⟨x,List.mem_of_getElem? hk,by rw [h];decide⟩
theorem ZlR (w:World) (v:Value) (l:List Int) (h:Zbh w v l) :
  Calls Tryz.prog 62 #[v] w fun e w'=>e=.returned (.bool (ZbW l))/\w=w':=by
 obtain ⟨A,cp,rfl,h2,h3,h4⟩:=h
 obtain ⟨n,hn⟩:∃ n,n=l.length:=⟨_,rfl⟩
 have hmx:n<=9223372036854775807:=by unfold maxLen at h3;omega
 rw [<- hn] at h2 h4 ⊢
 have HN:=zh (zi hn hmx)
 have H4:=zh h4
 clear hn h2 h3 h4 hmx
 go_enter Tryz.func62,Tryz.ntmps62
 go_wp2_with fail
 go_loopg [7] n (fun g v7 wr=>w=wr/\∃ k:Nat,v7=.int .i64 k/\k<=n/\g=n-k/\ZbW (l.take k)=true)
 case atStart=>exact ⟨rfl,0,rfl,Nat.zero_le _,rfl,rfl⟩
 case round=>
  obtain ⟨rfl,k,rfl,hk,hg,hall⟩:=hrel
  by_cases hkn:k=n
  ·have e:l.take k=l:=by rw [hkn,HN.out.1];exact List.take_length
   rw [e] at hall
   have FIN:=zh hall
   subst hkn
   clear hk hg hall e
   go_wp2_with fail
   go_ret
   exact ⟨by rw [FIN.out];rfl,rfl⟩
  ·have hlt:k<n:=by omega
   obtain ⟨x,hx⟩:∃ x,l[k]? = some x:=⟨_,List.getElem?_eq_getElem (by have:=HN.out.1;omega)⟩
   obtain ⟨ad,rfl,d0⟩:=ints_at H4.out (Below.refl _ _) hx (by omega)
   have nxt:ZbW (l.take (k+1))=_:=Zie hx hall
   have bad:_->ZbW l=false:=Zjr hx
   have i1:(k:Int)<(n:Int):=by omega
   have i2:(0:Int)<=(k:Int):=by omega
   have wk:IntKind.i64.wrap ((k:Int)+1)=(k:Int)+1:=IntWalk.i64_in _ (by have:=HN.out.2;omega)
   have HK:=zh (zi hlt hg)
   have NX:=zh (zi nxt bad)
   clear nxt bad hx hkn hlt hk hg hall
   by_cases q1:x<0
   ·have e:ZbW l=false:=NX.out.2 (by rw [decide_eq_false (show ¬ 0<=x by omega)];rfl)
    have FIN:=zh e
    clear e
    go_wp2_with fail
    go_ret
    exact ⟨by rw [FIN.out];rfl,rfl⟩
   ·by_cases q2:1000000000000000000<=x
    ·have e:ZbW l=false:=NX.out.2 (by rw [decide_eq_false (show ¬ x<1000000000000000000 by omega),Bool.and_false])
     have FIN:=zh e
     clear e
     go_wp2_with fail
     go_ret
     exact ⟨by rw [FIN.out];rfl,rfl⟩
    ·have e:=zh (NX.out.1.trans (by rw [decide_eq_true (show 0<=x by omega),decide_eq_true (show x<1000000000000000000 by omega)];rfl:_=true))
     go_wp2_with fail
     go_roundg (n-(k+1))
     case measure=>have:=HK.out;omega
     case rel=>exact ⟨rfl,k+1,by push_cast;rfl,by have:=HK.out;omega,rfl,e.out⟩
theorem Zo0 (w:World) (v:Value) (l:List (List UInt8)) (h:ZdX w v l) (ht:Zay w 3 ZG) :
  Calls Tryz.prog 61 #[v] w fun e w'=>e=.returned (.bool (ZcF l))/\w=w':=by
 obtain ⟨A,cp,rfl,h2,h3,h4,h5⟩:=h
 obtain ⟨n,hn⟩:∃ n,n=l.length:=⟨_,rfl⟩
 have hmx:n<=9223372036854775807:=by unfold maxLen at h3;omega
 rw [<- hn] at h2 h4 ⊢
 have HN:=zh (zi hn (zi hmx (zi h5 ht)))
 have H4:=zh h4
 clear hn h2 h3 h4 hmx h5 ht
 go_enter Tryz.func61,Tryz.ntmps61
 go_wp2_with fail
 go_loopg [7] n (fun g v7 wr=>w=wr/\∃ k:Nat,v7=.int .i64 k/\k<=n/\g=n-k/\ZcF (l.take k)=true)
 case atStart=>exact ⟨rfl,0,rfl,Nat.zero_le _,rfl,rfl⟩
 case round=>
  obtain ⟨rfl,k,rfl,hk,hg,hall⟩:=hrel
  by_cases hkn:k=n
  ·have e:l.take k=l:=by rw [hkn,HN.out.1];exact List.take_length
   rw [e] at hall
   have FIN:=zh hall
   subst hkn
   clear hk hg hall e
   go_wp2_with fail
   go_ret
   exact ⟨by rw [FIN.out];rfl,rfl⟩
  ·have hlt:k<n:=by omega
   obtain ⟨x,hx⟩:∃ x,l[k]? = some x:=⟨_,List.getElem?_eq_getElem (by have:=HN.out.1;omega)⟩
   obtain ⟨ad,rfl,d0⟩:=Zcl H4.out (Below.refl _ _) hx (by omega)
   have nxt:ZcF (l.take (k+1))=ZN x:=Zie hx hall
   have bad:ZN x=false->ZcF l=false:=Zjr hx
   have na:=Zqp ⟨x.toArray⟩ w (by show x.toArray.size<=maxLen;simpa using HN.out.2.2.1 x (List.mem_of_getElem? hx)) HN.out.2.2.2
   have na:Calls Tryz.prog 79 #[txt x] w (ZeS w (.bool (ZN x))):=by simpa using na
   have i1:(k:Int)<(n:Int):=by omega
   have i2:(0:Int)<=(k:Int):=by omega
   have wk:IntKind.i64.wrap ((k:Int)+1)=(k:Int)+1:=IntWalk.i64_in _ (by have:=HN.out.2.1;omega)
   have HK:=zh (zi hlt hg)
   have NX:=zh (zi nxt bad)
   have NA:=zh na
   clear nxt bad hx hkn hlt hk hg hall na
   generalize ZN x=B at *
   cases B
   ·have FIN:=zh (NX.out.2 rfl)
    go_wp2_with (go_at_call 79;(with_reducible refine NA.out.mono ?_);rintro e1 w1 ⟨rfl,rfl⟩)
    go_ret
    exact ⟨by rw [FIN.out];rfl,rfl⟩
   ·go_wp2_with (go_at_call 79;(with_reducible refine NA.out.mono ?_);rintro e1 w1 ⟨rfl,rfl⟩)
    go_roundg (n-(k+1))
    case measure=>have:=HK.out;omega
    case rel=>exact ⟨rfl,k+1,by push_cast;rfl,by have:=HK.out;omega,rfl,NX.out.1⟩
def ndV (x:NdV×Nd):Value:=.agg #[.int .i64 x.2.kind,x.1.1,x.1.2.1,x.1.2.2,.int .i64 x.2.pos]
theorem Zrs (w:World) (x:NdV×Nd) (a b:Nat) (h:ZaW w x) :
  Calls Tryz.prog 81 #[ndV x,.int .i64 a,.int .i64 b] w fun e w'=>e=.returned (.bool (ZF x.2 a b))/\Below w.heap.size w w':=by
 obtain ⟨⟨A,c,e1,_⟩,⟨A2,c2,e2,_⟩,A3,c3,e3,_⟩:=h
 obtain ⟨⟨v1,v2,v3⟩,kd,ws,ns,ks,ps⟩:=x
 dsimp only at e1 e2 e3
 subst e1 e2 e3
 unfold ndV ZF
 dsimp only
 have hb:=zh (below_alloc1 w (.cells #[.int .i64 kd,.slice A ws.length c,.slice A2 ns.length c2,.slice A3 ks.length c3,.int .i64 ps] 37))
 by_cases q:ws.length=a
 ·have t1:((ws.length:Int)==(a:Int))=true:=by rw [q];exact beq_self_eq_true _
  by_cases q2:ns.length=b
  ·have t2:((ns.length:Int)==(b:Int))=true:=by rw [q2];exact beq_self_eq_true _
   have Q:=zh (zi q q2)
   clear q q2
   go_enter Tryz.func81,Tryz.ntmps81
   go_wp2_with fail
   go_ret
   exact ⟨by rw [decide_eq_true Q.out.1,decide_eq_true Q.out.2];rfl,hb.out⟩
  ·have t2:((ns.length:Int)==(b:Int))=false:=by simpa using fun e=>q2 (by omega)
   have Q:=zh (zi q q2)
   clear q q2
   go_enter Tryz.func81,Tryz.ntmps81
   go_wp2_with fail
   go_ret
   exact ⟨by rw [decide_eq_true Q.out.1,decide_eq_false Q.out.2];rfl,hb.out⟩
 ·have t1:((ws.length:Int)==(a:Int))=false:=by simpa using fun e=>q (by omega)
  have Q:=zh q
  clear q
  go_enter Tryz.func81,Tryz.ntmps81
  go_wp2_with fail
  go_ret
  exact ⟨by rw [decide_eq_false Q.out];rfl,hb.out⟩
theorem Zqe {l:List Int} {k:Nat} {x c:Int} (hk:l[k]? = some x) (h:(l.take k).contains c=false):(l.take (k+1)).contains c=(c==x):=by
 rw [List.take_add_one,hk,List.contains_eq_any_beq,List.any_append,<- List.contains_eq_any_beq,h,Bool.false_or]
 simp
theorem ZqO (w:World) (v:Value) (l:List Int) (c:Int) (h:Zbh w v l) :
  Calls Tryz.prog 128 #[v,.int .i64 c] w fun e w'=>(∃ z:Int,e=.returned (.int .i64 z)/\decide (0<=z)=l.contains c)/\w=w':=by
 obtain ⟨A,cp,rfl,h2,h3,h4⟩:=h
 obtain ⟨n,hn⟩:∃ n,n=l.length:=⟨_,rfl⟩
 have hmx:n<=9223372036854775807:=by unfold maxLen at h3;omega
 rw [<- hn] at h2 h4 ⊢
 have HN:=zh (zi hn hmx)
 have H4:=zh h4
 clear hn h2 h3 h4 hmx
 go_enter Tryz.func128,Tryz.ntmps128
 go_wp2_with fail
 go_loopg [8] n (fun g v8 wr=>w=wr/\∃ k:Nat,v8=.int .i64 k/\k<=n/\g=n-k/\(l.take k).contains c=false)
 case atStart=>exact ⟨rfl,0,rfl,Nat.zero_le _,rfl,rfl⟩
 case round=>
  obtain ⟨rfl,k,rfl,hk,hg,hall⟩:=hrel
  by_cases hkn:k=n
  ·have e:l.take k=l:=by rw [hkn,HN.out.1];exact List.take_length
   rw [e] at hall
   have FIN:=zh (show decide ((0:Int)<=-1)=l.contains c from by rw [hall];rfl)
   subst hkn
   clear hk hg hall e
   go_wp2_with fail
   go_ret
   exact ⟨⟨_,rfl,FIN.out⟩,rfl⟩
  ·have hlt:k<n:=by omega
   obtain ⟨x,hx⟩:∃ x,l[k]? = some x:=⟨_,List.getElem?_eq_getElem (by have:=HN.out.1;omega)⟩
   obtain ⟨ad,rfl,d0⟩:=ints_at H4.out (Below.refl _ _) hx (by omega)
   have nxt:=Zqe (c:=c) hx hall
   have hit:(c==x)=true->decide ((0:Int)<=(k:Int))=l.contains c:=fun q=>by
    have q:c=x:=by simpa using q
    rw [show l.contains c=true by rw [q];simpa using List.mem_of_getElem? hx]
    exact decide_eq_true (by omega)
   have i1:(k:Int)<(n:Int):=by omega
   have i2:(0:Int)<=(k:Int):=by omega
   have wk:IntKind.i64.wrap ((k:Int)+1)=(k:Int)+1:=IntWalk.i64_in _ (by have:=HN.out.2;omega)
   have HK:=zh (zi hlt hg)
   have NX:=zh (zi nxt hit)
   clear nxt hit hx hkn hlt hk hg hall
   cases hq:(c==x)
   ·go_wp2_with fail
    go_roundg (n-(k+1))
    case measure=>have:=HK.out;omega
    case rel=>exact ⟨rfl,k+1,by push_cast;rfl,by have:=HK.out;omega,rfl,NX.out.1.trans hq⟩
   ·go_wp2_with fail
    go_ret
    exact ⟨⟨_,rfl,NX.out.2 hq⟩,rfl⟩
theorem ZqN (w:World) (v:Value) (l:List Int) (c:Int) (h:Zbh w v l) :
  Calls Tryz.prog 110 #[v,.int .i64 c] w fun e w'=>e=.returned (.bool (l.contains c))/\w=w':=by
 have ix:=ZqO w v l c h
 clear h
 go_enter Tryz.func110,Tryz.ntmps110
 go_wp2_with (go_at_call 128;(with_reducible refine ix.mono ?_);rintro e w1 ⟨⟨z,rfl,hz⟩,rfl⟩;have HZ:=zh hz;clear hz)
 go_ret
 exact ⟨by rw [<- HZ.out];rfl,rfl⟩
end
section
open Go.RowKit
theorem Zmr {P:Program} (w:World) (dT sT ty elem:TypeId) (g o dLen dCap:Nat) (a:Addr) (sLen sCap size n:Nat) (cur:Array Value) (t:TypeId) (cs:List Value)
  (hu:P.underlying dT=some (.slice elem)) (hs:(P.info? elem).map (·.size)=some size)
  (hg:w.heap[g]? = some (.cells cur t (0,0))) (hn:n=Nat.min sLen dLen) (hc:cs.length=n*size)
  (hsrc:∀ j v,cs[j]? = some v->w.cell? (a.add j)=some v) (hfit:o+cs.length<=cur.size) (h1:∀ v∈cs,v.oneCell'=true) :
  (Builtin.copy_ #[dT,sT] ty #[.slice (some ⟨g,o,none⟩) dLen dCap,.slice (some a) sLen sCap]).run P w =
   .ok (goInt n) (w.setRow g (cur.toList.take o++cs++cur.toList.drop (o+cs.length)).toArray):=by
 have hl:=run_loadCells_list (P:=P) w a cs hsrc
 have hst:=run_storeCells_at P g o t cs 0 cur w hg (by simpa using hfit) h1
 rw [hc] at hl
 cases hq:P.info? elem with
 | none=>simp [hq] at hs
 | some i=>
  have hi:i.size=size:=by simpa [hq] using hs
  simp [Builtin.copy_,run_underlying hu,Builtin.lenOf,Builtin.firstCells,sizeOf,typeInfo,hq,hi,<- hn,hl,hst]
theorem ZpY {P:Program} {ops:Array Oper} {o:Oper} {a:Act} {w:World} {K:Act->World->Prop} {Q:Exit->Act->World->Prop} {E:Prop} (hgd:o.guard=none) (d s:Operand) (dT sT:TypeId)
  (ho:o.op=.call { callee:=.builtin .copy,args:=#[d,s],argTypes:=#[dT,sT] }) (elem:TypeId) (size:Nat) (hu:P.underlying dT=some (.slice elem)) (hsz:(P.info? elem).map (·.size)=some size)
  (g off dLen dCap:Nat) (ad:Addr) (sLen sCap n:Nat) (hd:a.eval d=.slice (some ⟨g,off,none⟩) dLen dCap) (hs:a.eval s=.slice (some ad) sLen sCap)
  (cur:Array Value) (t:TypeId) (hg:w.heap[g]? = some (.cells cur t (0,0))) (cs:List Value) (hn:n=Nat.min sLen dLen) (hc:cs.length=n*size)
  (hsrc:∀ j v,cs[j]? = some v->w.cell? (ad.add j)=some v) (hfit:off+cs.length<=cur.size) (h1:∀ v∈cs,v.oneCell'=true)
  (h:∀ w',w'=w.setRow g (cur.toList.take off++(cs++cur.toList.drop (off+cs.length))).toArray->K (a.put o.dst (goInt n)) w') :
  if Region.wanted o (yielded ops a.tmps)=true then Oper.wp P o a w K Q else E:=by
 have hw:Region.wanted o (yielded ops a.tmps)=true:=by simp [Region.wanted,hgd]
 rw [if_pos hw]
 have hrun:=Zmr (P:=P) w dT sT o.type elem g off dLen dCap ad sLen sCap size n cur t cs hu hsz hg hn hc hsrc hfit h1
 unfold Oper.wp
 simp [execOp,ho,resolve,invoke,builtin,hd,hs,hrun,Result.andThen]
 exact h _ rfl
theorem Zkb {w:World} {b:Nat} {cs:Array Value} (h:Blk w b cs) (j:Nat) (v:Value) (hj:cs.toList[j]? = some v):w.cell? ((⟨b,0,none⟩:Addr).add j)=some v:=by
 rw [Addr.add_lit,Nat.zero_add,h.cell j]
 simpa using hj
theorem Zmz:(Tryz.prog.info? 3).map (fun i=>(i.zero,i.size,i.bytes))=some (some (.int .i64 0),1,8):=by kernel_rfl
theorem ZiU {P:Program} {e:TypeId} {z:Value} {s b:Nat} (h:(P.info? e).map (fun i=>(i.zero,i.size,i.bytes))=some (some z,s,b)):∃ i,P.info? e=some i/\i.zero=some z/\i.size=s/\i.bytes=b:=by
 cases hi:P.info? e with
 | none=>rw [hi] at h;cases h
 | some i=>
  rw [hi] at h
  injection h with h
  injection h with h1 h
  injection h with h2 h3
  exact ⟨i,rfl,h1,h2,h3⟩
theorem Zna (w:World):Below w.heap.size w w.drew:=(Below.refl _ _).drew
def Zdj (k n:Nat):List Value:=List.replicate k (.int .i64 (-1))++List.replicate (n-k) (.int .i64 0)
theorem Zgh {k n:Nat} (h:k<=n):(Zdj k n).length=n:=by
 unfold Zdj
 rw [List.length_append,List.length_replicate,List.length_replicate]
 omega
theorem Zj8 {k d n:Nat} (h:k+d<=n):(Zdj k n).take k++(List.replicate d (Value.int .i64 (-1))++(Zdj k n).drop (k+(List.replicate d (Value.int .i64 (-1))).length))=Zdj (k+d) n:=by
 unfold Zdj
 rw [List.length_replicate,List.take_append_of_le_length (by simp),List.take_of_length_le (by simp),List.drop_append,List.drop_of_length_le (by simp),List.nil_append,List.length_replicate,List.drop_replicate,<- List.append_assoc,List.replicate_append_replicate]
 congr 2
 omega
theorem ZrJ {k n j:Nat} {v:Value} {d:Nat} (hd:d<=k) (h:(List.replicate d (Value.int .i64 (-1)))[j]? = some v):(Zdj k n).toArray.toList[j]? = some v:=by
 rw [List.getElem?_replicate] at h
 split at h
 ·rename_i q
  unfold Zdj
  rw [List.toList_toArray,List.getElem?_append_left (by rw [List.length_replicate];omega),List.getElem?_replicate,if_pos (by omega)]
  exact h
 ·cases h
theorem ZrK (d:Nat):∀ v∈List.replicate d (Value.int .i64 (-1)),v.oneCell'=true:=fun v hv=>by
 rw [List.eq_of_mem_replicate hv]
 rfl
theorem Zrb {w:World} {b:Nat} {cs:Array Value} {ty:TypeId} (h:w.heap[b]? = some (.cells cs ty (0,0))):Blk w b cs:=⟨ty,h⟩
theorem ZmL {w:World} {g:Nat} {cur cs:Array Value} {t:TypeId} (h:w.heap[g]? = some (.cells cur t (0,0))):(w.setRow g cs).heap[g]? = some (.cells cs t (0,0)):=setRow_heap w g _ _ t _ h
theorem Zme (w:World) (bx c n:Nat) (hx:Blk w bx #[.int .i64 (-1)]) (hn1:1<=n) (hn:n<=1500) :
  Calls Tryz.prog 60 #[.slice (some ⟨bx,0,none⟩) 1 c,.int .i64 n] w fun e w'=>∃ v,e=.returned v/\w'.ownsRow w.heap.size 3 1 v n (Zdj n n)/\Below w.heap.size w w':=by
 obtain ⟨i0,hi,hz0,hz1,hz2⟩:=ZiU Zmz
 have HSZ:=zh (show (Tryz.prog.info? 3).map (·.size)=some 1 by rw [hi];simp [hz1])
 have bm:∀ w:World,Calls Tryz.prog 78 #[.int .u64 1,.int .u64 n] w fun e w'=>e=.returned (.tuple #[.int .u64 0,.int .u64 n])/\w=w':=fun w=>by
  have:=Tryz.bits_Mul 1 n (by decide) (by omega) w
  rw [show (1*n / 18446744073709551616:Nat)=0 by omega,show (1*n % 18446744073709551616:Nat)=n by omega] at this
  exact this.mono fun _ _ q=>⟨q.1,q.2.symm⟩
 have u1:IntKind.u64.wrap (n:Int)=(n:Int):=IntWalk.u64_in _ (by omega)
 have u2:IntKind.i64.wrap (n:Int)=(n:Int):=IntWalk.i64_in _ (by omega)
 have u3:¬ (n:Int)<0:=by omega
 have u4:¬ (9223372036854775807:Int)<(n:Int):=by omega
 have BM:=zh bm
 have HN:=zh (zi hn1 hn)
 clear bm hn hn1
 go_enter Tryz.func60,Tryz.ntmps60
 go_upto_region 7 with (first
  | (go_at_call 78;(with_reducible refine (BM.out _).mono ?_);rintro e w1 ⟨rfl,rfl⟩)
  | (at_make;refine wpList_make_full _ rfl _ _ 35 rfl w.heap.size 3 i0 (.int .i64 0) 1 Tryz.underlying35 hi hz0 hz1 .i64 .i64 _ _ n rfl rfl ?c1 ?c2 ?c3 ?c4 ?c5 ?_))
 case c1=>rfl
 case c2=>have:=HN.out;omega
 case c3=>rw [hz2];have:=HN.out;omega
 case c4=>have:=HN.out;unfold maxLen;omega
 case c5=>simp
 intro w2 hown hgrow
 have b2:Below w.heap.size w w2:=(Below.refl _ _).grown hgrow (Nat.le_refl _) (fun k hk=>by cases hk)
 have hg2:w2.heap[w.heap.size]? = some (.cells (Zdj 0 n).toArray 3 (0,0)):=by
  rcases hown.2 with ⟨e,_⟩ | ⟨g,cap,cur,e,_,hh,_,_,hsz,htk⟩
  ·cases e
  ·injection e with e1 e2 e3
   injection e1 with e1
   injection e1 with e1
   rw [e1,hh]
   have:cur=(Zdj 0 n).toArray:=by
    apply Array.ext'
    have e5:cur.toList.take (n*1)=cur.toList:=List.take_of_length_le (by rw [Array.length_toList,hsz,<- e3];omega)
    rw [<- e5,htk]
    simp only [Zdj,madeCells]
    apply List.ext_getElem
    ·simp
    ·intro i h1 h2
     simp [Nat.mod_one]
   rw [this]
 have H2:=zh (zi hg2 (zi b2 (hx.keep b2)))
 clear hown hgrow b2 hg2
 have s1:=Zkb H2.out.2.2
 have S1:=zh s1
 clear s1 hx
 obtain ⟨w3,hw3⟩:∃ w3,w3=w2.setRow w.heap.size ((Zdj 0 n).toArray.toList.take 0++[Value.int .i64 (-1)]++(Zdj 0 n).toArray.toList.drop (0+1)).toArray:=⟨_,rfl⟩
 have HW3:=zh hw3
 have rc:(Builtin.copy_ #[35,35] 3 #[.slice (some ⟨w.heap.size,0,none⟩) n n,.slice (some ⟨bx,0,none⟩) 1 c]).run Tryz.prog w2=.ok (.int .i64 1) w3:=by
  rw [hw3]
  exact Zmr w2 35 35 3 3 w.heap.size 0 n n ⟨bx,0,none⟩ 1 c 1 1 (Zdj 0 n).toArray 3 [.int .i64 (-1)] Tryz.underlying35 HSZ.out H2.out.1 (by show 1=min 1 n;have:=HN.out;omega) rfl S1.out (by rw [List.size_toArray,Zgh (Nat.zero_le _)];have:=HN.out;simpa using this.1) (fun v hv=>by simp at hv;rw [hv];rfl)
 clear hw3
 go_upto_region 8 with fail
 have hg3:w3.heap[w.heap.size]? = some (.cells (Zdj 1 n).toArray 3 (0,0)):=by
  rw [HW3.out,ZmL H2.out.1]
  have:=Zj8 (k:=0) (d:=1) (n:=n) (by have:=HN.out;omega)
  rw [<- this]
  simp
 have b3:Below w.heap.size w w3:=by rw [HW3.out];exact below_setRow H2.out.2.1 (Nat.le_refl _) _
 have H3:=zh (zi hg3 b3)
 clear hg3 b3 S1 H2 rc
 go_wp2_with fail
 go_loopg [8] (n-1) (fun gk v8 wr=>∃ k:Nat,v8=.int .i64 k/\1<=k/\k<=n/\gk=n-k/\wr.heap[w.heap.size]? = some (.cells (Zdj k n).toArray 3 (0,0))/\Below w.heap.size w wr)
 case atStart=>exact ⟨1,rfl,Nat.le_refl _,HN.out.1,by omega,H3.out.1,H3.out.2⟩
 case round=>
  clear H3
  obtain ⟨k,rfl,hk1,hk,hgk,hg,hb⟩:=hrel
  have HG:=zh (zi hg (zi hb (zi hgk (zi hk1 hk))))
  have BR:=zh (Zkb (Zrb hg))
  by_cases hkn:k=n
  ·subst hkn
   clear hg hb hgk hk1 hk
   go_wp2_with fail
   go_ret
   exact ⟨_,rfl,⟨by rw [Zgh (Nat.le_refl _)];omega,.inr ⟨w.heap.size,k,(Zdj k k).toArray,rfl,Nat.le_refl _,HG.out.1,Nat.le_refl _,by have:=HN.out;unfold maxLen;omega,by rw [List.size_toArray,Zgh (Nat.le_refl _)];omega,by rw [List.toList_toArray,List.take_of_length_le (by rw [Zgh (Nat.le_refl _)];omega)]⟩⟩,HG.out.2.1⟩
  ·have hlt:k<n:=by omega
   have i1:(k:Int)<(n:Int):=by omega
   have i2:(0:Int)<=(k:Int):=by omega
   have i3:(k:Int)<=(n:Int):=by omega
   clear hg hb hgk hk1 hk hkn
   have HL:=zh hlt
   clear hlt
   go_wp2_with fail
   go_region_law (refine ZpY rfl (.tmp 41) (.tmp 44) 35 35 rfl 3 1 Tryz.underlying35 HSZ.out w.heap.size k (n-k) (n-k) ⟨w.heap.size,0,none⟩ k n (min k (n-k)) (by simp [Act.eval,Act.put];have:=HL.out;omega) (by simp [Act.eval,Act.put]) (Zdj k n).toArray 3 HG.out.1 (List.replicate (min k (n-k)) (.int .i64 (-1))) (by first | rfl | exact Nat.min_comm _ _) (by rw [List.length_replicate,Nat.mul_one]) (fun j v hj=>BR.out j v (ZrJ (Nat.min_le_left _ _) hj)) (by rw [List.length_replicate,List.size_toArray,Zgh HG.out.2.2.2.2];have:=HG.out.2.2.2.2;omega) (ZrK _) ?_;intro w4 hw4;have HW4:=zh hw4;clear hw4)
   have hd4:k+min k (n-k)<=n:=by have:=HL.out;omega
   have hg4:w4.heap[w.heap.size]? = some (.cells (Zdj (k+min k (n-k)) n).toArray 3 (0,0)):=by
    rw [HW4.out,<- Zj8 hd4]
    exact ZmL HG.out.1
   have b4:Below w.heap.size w w4:=by rw [HW4.out];exact below_setRow (HG.out.2.1.trans ((Zna _).mono HG.out.2.1.size)) (Nat.le_refl _) _
   have u7:IntKind.i64.wrap ((k:Int)+(min k (n-k):Nat))=((k+min k (n-k):Nat):Int):=by
    have:=HN.out
    rw [IntWalk.i64_in _ (by omega)]
    omega
   have H4:=zh (zi hg4 (zi b4 hd4))
   clear hg4 b4 hd4
   go_wp2_with fail
   go_roundg (n-(k+min k (n-k)))
   case measure=>have:=HL.out;have:=HG.out.2.2;omega
   case rel=>exact ⟨k+min k (n-k),rfl,by have:=HG.out.2.2;omega,H4.out.2.2,rfl,H4.out.1,H4.out.2.1⟩
end
section
open Go.RowKit
theorem Zlv (w:World) (k:Int):Calls Tryz.prog 85 #[.int .i64 k] w fun e w'=>e=.returned (.bool (ZcL k))/\w=w':=by
 by_cases q8:k=8
 ·subst q8
  go_enter Tryz.func85,Tryz.ntmps85
  go_wp2_with fail
  go_ret
  exact ⟨rfl,rfl⟩
 have e8:(k==8)=false:=by simpa using q8
 by_cases q9:k=9
 ·subst q9
  go_enter Tryz.func85,Tryz.ntmps85
  go_wp2_with fail
  go_ret
  exact ⟨rfl,rfl⟩
 have e9:(k==9)=false:=by simpa using q9
 by_cases q10:k=10
 ·subst q10
  go_enter Tryz.func85,Tryz.ntmps85
  go_wp2_with fail
  go_ret
  exact ⟨rfl,rfl⟩
 have e10:(k==10)=false:=by simpa using q10
 by_cases q11:k=11
 ·subst q11
  go_enter Tryz.func85,Tryz.ntmps85
  go_wp2_with fail
  go_ret
  exact ⟨rfl,rfl⟩
 have e11:(k==11)=false:=by simpa using q11
 by_cases q13:k=13
 ·subst q13
  go_enter Tryz.func85,Tryz.ntmps85
  go_wp2_with fail
  go_ret
  exact ⟨rfl,rfl⟩
 have e13:(k==13)=false:=by simpa using q13
 by_cases q14:k=14
 ·subst q14
  go_enter Tryz.func85,Tryz.ntmps85
  go_wp2_with fail
  go_ret
  exact ⟨rfl,rfl⟩
 have e14:(k==14)=false:=by simpa using q14
 by_cases q16:k=16
 ·subst q16
  go_enter Tryz.func85,Tryz.ntmps85
  go_wp2_with fail
  go_ret
  exact ⟨rfl,rfl⟩
 have e16:(k==16)=false:=by simpa using q16
 by_cases q17:k=17
 ·subst q17
  go_enter Tryz.func85,Tryz.ntmps85
  go_wp2_with fail
  go_ret
  exact ⟨rfl,rfl⟩
 have e17:(k==17)=false:=by simpa using q17
 by_cases q18:k=18
 ·subst q18
  go_enter Tryz.func85,Tryz.ntmps85
  go_wp2_with fail
  go_ret
  exact ⟨rfl,rfl⟩
 have e18:(k==18)=false:=by simpa using q18
 by_cases q19:k=19
 ·subst q19
  go_enter Tryz.func85,Tryz.ntmps85
  go_wp2_with fail
  go_ret
  exact ⟨rfl,rfl⟩
 have e19:(k==19)=false:=by simpa using q19
 have hz:ZcL k=false:=by
  unfold ZcL
  simp;omega
 have HZ:=zh hz
 clear hz q8 q9 q10 q11 q13 q14 q16 q17 q18 q19
 go_enter Tryz.func85,Tryz.ntmps85
 go_wp2_with fail
 go_ret
 exact ⟨by rw [HZ.out];rfl,rfl⟩
theorem Zih (w:World) (k:Int):Calls Tryz.prog 86 #[.int .i64 k] w fun e w'=>e=.returned (.bool (Zat k))/\w=w':=by
 by_cases q20:k=20
 ·subst q20
  go_enter Tryz.func86,Tryz.ntmps86
  go_wp2_with fail
  go_ret
  exact ⟨rfl,rfl⟩
 have e20:(k==20)=false:=by simpa using q20
 by_cases q21:k=21
 ·subst q21
  go_enter Tryz.func86,Tryz.ntmps86
  go_wp2_with fail
  go_ret
  exact ⟨rfl,rfl⟩
 have e21:(k==21)=false:=by simpa using q21
 by_cases q22:k=22
 ·subst q22
  go_enter Tryz.func86,Tryz.ntmps86
  go_wp2_with fail
  go_ret
  exact ⟨rfl,rfl⟩
 have e22:(k==22)=false:=by simpa using q22
 by_cases q23:k=23
 ·subst q23
  go_enter Tryz.func86,Tryz.ntmps86
  go_wp2_with fail
  go_ret
  exact ⟨rfl,rfl⟩
 have e23:(k==23)=false:=by simpa using q23
 have hz:Zat k=false:=by
  unfold Zat
  simp;omega
 have HZ:=zh hz
 clear hz q20 q21 q22 q23
 go_enter Tryz.func86,Tryz.ntmps86
 go_wp2_with fail
 go_ret
 exact ⟨by rw [HZ.out];rfl,rfl⟩
theorem Zmn (w:World) (k:Int):Calls Tryz.prog 88 #[.int .i64 k] w fun e w'=>e=.returned (.bool (Zef k))/\w=w':=by
 have ex:=Zih w k
 unfold Zef
 generalize Zat k=B at *
 by_cases q:k=15
 ·subst q
  clear ex
  go_enter Tryz.func88,Tryz.ntmps88
  go_wp2_with fail
  go_ret
  exact ⟨rfl,rfl⟩
 ·have e1:(k==15)=false:=by simpa using q
  rw [e1,Bool.false_or]
  clear q
  go_enter Tryz.func88,Tryz.ntmps88
  go_wp2_with (go_at_call 86;(with_reducible refine ex.mono ?_);rintro e w1 ⟨rfl,rfl⟩)
  go_ret
  exact ⟨rfl,rfl⟩
inductive Tst where
 | is (ks:List Int)
 | stmt
 | expr
 | arg
def Tst.f:Tst->Int->Bool
 | .is ks=>isB ks
 | .stmt=>ZcL
 | .expr=>Zat
 | .arg=>Zef
def Za6 (w:World) (t:Tst) (v:Value):Prop:=match t with
 | .is ks=>∃ b A c,v=.func (.func 109) #[] #[.pointer (some ⟨b,0,none⟩)]/\Blk w b #[.slice A ks.length c]/\Zbh w (.slice A ks.length c) ks
 | .stmt=>v=.func (.func 85) #[] #[]
 | .expr=>v=.func (.func 86) #[] #[]
 | .arg=>v=.func (.func 88) #[] #[]
theorem Za6.below {w w':World} {t:Tst} {v:Value} (h:Za6 w t v) (hb:Below w.heap.size w w'):Za6 w' t v:=by
 cases t with
 | is ks=>
  obtain ⟨b,A,c,e,h1,h2⟩:=h
  exact ⟨b,A,c,e,h1.keep hb,h2.below hb⟩
 | stmt=>exact h
 | expr=>exact h
 | arg=>exact h
theorem ZmA (w:World) (b:Nat) (A:Option Addr) (n c:Nat) (ks:List Int) (k:Int) (hB:Blk w b #[.slice A n c]) (h:Zbh w (.slice A n c) ks) :
  Calls Tryz.prog 109 #[.int .i64 k,.pointer (some ⟨b,0,none⟩)] w fun e w'=>e=.returned (.bool (isB ks k))/\w=w':=by
 have cn:=ZqN w _ ks k h
 have c0:=hB.cell 0
 have hz:ks.contains k=isB ks k:=rfl
 rw [hz] at cn
 generalize isB ks k=B at *
 have CN:=zh cn
 clear cn h hB hz
 go_enter Tryz.func109,Tryz.ntmps109
 go_wp2_with (go_at_call 110;(with_reducible refine CN.out.mono ?_);rintro e w1 ⟨rfl,rfl⟩)
 go_ret
 exact ⟨rfl,rfl⟩
theorem ZkT (w:World) (v:Value) (ks:List Int) (h:Zbh w v ks):Calls Tryz.prog 80 #[v] w fun e w'=>(∃ u,e=.returned u/\Za6 w' (.is ks) u)/\Below w.heap.size w w':=by
 have hmf:∀ (fn:Fn) (first cap:Array Value) (w:World),(Instr.makeFunc fn first cap).run Tryz.prog w=.ok (.func fn first cap) w:=fun _ _ _ _=>rfl
 obtain ⟨A,c,rfl,h2,h3,h4⟩:=id h
 have a:=zh (below_alloc1 w (.cells #[.slice A ks.length c] 35))
 have B:=zh (Blk.start w #[.slice A ks.length c] 35)
 have HI:=zh h
 clear h h2 h3 h4
 generalize hn:ks.length=n at *
 have HN:=zh hn
 clear hn
 go_enter Tryz.func80,Tryz.ntmps80
 go_wp2_with fail
 go_ret
 exact ⟨⟨_,rfl,w.heap.size,A,c,rfl,by rw [HN.out];exact B.out,by rw [HN.out];exact HI.out.below a.out⟩,a.out⟩
end
end Go.Proofs.YtkongcicmajolaaGreatDoor
