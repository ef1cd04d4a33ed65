import Derived.Laws.CopyOwn
import Derived.Test.YtolookeddknmoaaGreatQBB
import Derived.Test.YtolookeddknmoaaGreatQBE
import Derived.Test.YtolookeddknmoaaGreatQBK
set_option maxRecDepth 100000
set_option maxHeartbeats 8000000
namespace Go.Proofs.YtolookeddknmoaaGreat
section
open Go.RowKit
theorem ZgE {P:Program} (w:World) (dT sT ty elem:TypeId) (g o dLen dCap:Nat) (a:Addr) (sLen sCap size n:Nat) (cur:Array Value) (t:TypeId) (cs:List Value)
  (hu:P.underlying dT=some (.slice elem)) (hs:(P.info? elem).map (·.size)=some size)
  (hg:w.heap[g]? = some (.cells cur t (0,0))) (hn:n=Nat.min sLen dLen) (hc:cs.length=n*size)
  (hsrc:∀ j v,cs[j]? = some v->w.cell? (a.add j)=some v) (hfit:o+cs.length<=cur.size) (h1:∀ v∈cs,v.oneCell'=true) :
  (Builtin.copy_ #[dT,sT] ty #[.slice (some ⟨g,o,none⟩) dLen dCap,.slice (some a) sLen sCap]).run P w =
   .ok (goInt n) (w.setRow g (cur.toList.take o++cs++cur.toList.drop (o+cs.length)).toArray):=by
 have hl:=run_loadCells_list (P:=P) w a cs hsrc
 have hst:=run_storeCells_at P g o t cs 0 cur w hg (by simpa using hfit) h1
 rw [hc] at hl
 cases hq:P.info? elem with
 | none=>simp [hq] at hs
 | some i=>
  have hi:i.size=size:=by simpa [hq] using hs
  simp [Builtin.copy_,run_underlying hu,Builtin.lenOf,Builtin.firstCells,sizeOf,typeInfo,hq,hi,<- hn,hl,hst]
theorem Zd0 {P:Program} {ops:Array Oper} {o:Oper} {a:Act} {w:World} {K:Act->World->Prop} {Q:Exit->Act->World->Prop} {E:Prop} (hgd:o.guard=none) (d s:Operand) (dT sT:TypeId)
  (ho:o.op=.call { callee:=.builtin .copy,args:=#[d,s],argTypes:=#[dT,sT] }) (elem:TypeId) (size:Nat) (hu:P.underlying dT=some (.slice elem)) (hsz:(P.info? elem).map (·.size)=some size)
  (g off dLen dCap:Nat) (ad:Addr) (sLen sCap n:Nat) (hd:a.eval d=.slice (some ⟨g,off,none⟩) dLen dCap) (hs:a.eval s=.slice (some ad) sLen sCap)
  (cur:Array Value) (t:TypeId) (hg:w.heap[g]? = some (.cells cur t (0,0))) (cs:List Value) (hn:n=Nat.min sLen dLen) (hc:cs.length=n*size)
  (hsrc:∀ j v,cs[j]? = some v->w.cell? (ad.add j)=some v) (hfit:off+cs.length<=cur.size) (h1:∀ v∈cs,v.oneCell'=true)
  (h:∀ w',w'=w.setRow g (cur.toList.take off++(cs++cur.toList.drop (off+cs.length))).toArray->K (a.put o.dst (goInt n)) w') :
  if Region.wanted o (yielded ops a.tmps)=true then Oper.wp P o a w K Q else E:=by
 have hw:Region.wanted o (yielded ops a.tmps)=true:=by simp [Region.wanted,hgd]
 rw [if_pos hw]
 have hrun:=ZgE (P:=P) w dT sT o.type elem g off dLen dCap ad sLen sCap size n cur t cs hu hsz hg hn hc hsrc hfit h1
 unfold Oper.wp
 simp [execOp,ho,resolve,invoke,builtin,hd,hs,hrun,Result.andThen]
 exact h _ rfl
theorem Zpd (w:World):Calls Tryz.prog 89 #[.int .u64 1,.int .u64 8] w fun e w'=>e=.returned (.tuple #[.int .u64 0,.int .u64 8])/\w'=w:=by
 have h:∀ w,Calls Tryz.prog 100 #[.int .u64 1,.int .u64 8] w fun e w'=>e=.returned (.tuple #[.int .u64 0,.int .u64 8])/\w=w':=fun w=>by
  have:=ZiM 1 8 w (by decide) (by decide)
  rw [show ((up (1*8):Nat):Int)=0 by decide,show ((lw (1*8):Nat):Int)=8 by decide] at this
  exact this
 go_enter Tryz.func89,Tryz.ntmps89
 go_wp2_with (go_at_call 100;refine (h _).mono ?_;rintro e w1 ⟨rfl,rfl⟩)
 go_ret2
 exact ⟨rfl,rfl⟩
theorem Zjs {w:World} {b:Nat} {cs:Array Value} (h:Blk w b cs) (j:Nat) (v:Value) (hj:cs.toList[j]? = some v):w.cell? ((⟨b,0,none⟩:Addr).add j)=some v:=by
 rw [Addr.add_lit,Nat.zero_add,h.cell j]
 simpa using hj
theorem ZqU {w:World} {b:Nat} {cs:Array Value} {ty:TypeId} (h:w.heap[b]? = some (.cells cs ty (0,0))):Blk w b cs:=⟨ty,h⟩
theorem Zlb {cs l:List Value} {n:Nat} (h:l.take n=cs) {j:Nat} {v:Value} (hj:cs[j]? = some v):l.toArray.toList[j]? = some v:=by
 rw [<- h,List.getElem?_take] at hj
 split at hj
 ·simpa using hj
 ·cases hj
theorem Zij (l:List Int):∀ v∈l.map (Value.int .i64),v.oneCell'=true:=fun v hv=>by
 obtain ⟨x,_,rfl⟩:=List.mem_map.1 hv
 rfl
theorem ZhF {w:World} {g:Nat} {cur cs:Array Value} {t:TypeId} (h:w.heap[g]? = some (.cells cur t (0,0))):(w.setRow g cs).heap[g]? = some (.cells cs t (0,0)):=setRow_heap w g _ _ t _ h
def noughts (k:Nat):List Value:=Zr (List.replicate k (0,1)++List.replicate (8-k) (0,0))
theorem Znp (w:World) (bx c:Nat) (hx:Blk w bx #[.int .i64 0,.int .i64 1]) :
  Calls Tryz.prog 63 #[.slice (some ⟨bx,0,none⟩) 1 c,.int .i64 8] w fun e w'=>∃ v,e=.returned v/\w'.ownsRow w.heap.size 25 2 v 8 (Zr (List.replicate 8 (0,1)))/\Below w.heap.size w w':=by
 obtain ⟨i0,hi,hz0,hz1,hz2⟩:=info_parts ZdA
 have hsz:(Tryz.prog.info? 25).map (·.size)=some 2:=by rw [hi];simp [hz1]
 have HSZ:=Lib.hid hsz
 clear hsz
 go_enter Tryz.func63,Tryz.ntmps63
 go_upto_region 7 with (first
  | (go_at_call 89;(with_reducible refine (Zpd _).mono ?_);rintro e w1 ⟨rfl,rfl⟩)
  | (at_make;refine wpList_make_full _ rfl _ _ 23 rfl w1.heap.size 25 i0 (.agg #[.int .i64 0,.int .i64 0]) 2 Tryz.underlying23 hi hz0 hz1 .i64 .i64 _ _ 8 rfl rfl ?c1 ?c2 ?c3 ?c4 ?c5 ?_))
 case c1=>rfl
 case c2=>rfl
 case c3=>rw [hz2];omega
 case c4=>unfold maxLen;omega
 case c5=>simp
 intro w2 hown hgrow
 have b2:Below w1.heap.size w1 w2:=(Below.refl _ _).grown hgrow (Nat.le_refl _) (fun k hk=>by cases hk)
 have hg2:w2.heap[w1.heap.size]? = some (.cells (noughts 0).toArray 25 (0,0)):=by
  rcases hown.2 with ⟨e,_⟩ | ⟨g,cap,cur,e,_,hh,_,_,hsz,htk⟩
  ·cases e
  ·injection e with e1 e2 e3
   injection e1 with e1
   injection e1 with e1
   rw [e1,hh]
   have:cur=(noughts 0).toArray:=by
    apply Array.ext'
    have e5:cur.toList.take (8*2)=cur.toList:=List.take_of_length_le (by rw [Array.length_toList,hsz,<- e3];decide)
    rw [<- e5,htk,List.toList_toArray]
    exact (ZdH Zo [] [] 8).trans rfl
   rw [this]
 have H2:=Lib.hid (And.intro hg2 (And.intro b2 (hx.keep b2)))
 clear hown hgrow b2 hg2
 have s1:=Zjs H2.out.2.2
 have S1:=Lib.hid s1
 clear s1 hx
 obtain ⟨w3,hw3⟩:∃ w3,w3=w2.setRow w1.heap.size ((noughts 0).toArray.toList.take 0++[Value.int .i64 0,Value.int .i64 1]++(noughts 0).toArray.toList.drop (0+2)).toArray:=⟨_,rfl⟩
 have HW3:=Lib.hid hw3
 have rc:(Builtin.copy_ #[23,23] 3 #[.slice (some ⟨w1.heap.size,0,none⟩) 8 8,.slice (some ⟨bx,0,none⟩) 1 c]).run Tryz.prog w2=.ok (.int .i64 1) w3:=by
  rw [hw3]
  exact ZgE w2 23 23 3 25 w1.heap.size 0 8 8 ⟨bx,0,none⟩ 1 c 2 1 (noughts 0).toArray 25 [.int .i64 0,.int .i64 1] Tryz.underlying23 HSZ.out H2.out.1 rfl rfl S1.out (by decide) (fun v hv=>by simp at hv;rcases hv with rfl | rfl<;>rfl)
 clear hw3
 go_upto_region 8 with fail
 have hg3:w3.heap[w1.heap.size]? = some (.cells (noughts 1).toArray 25 (0,0)):=by rw [HW3.out];exact ZhF H2.out.1
 have b3:Below w1.heap.size w1 w3:=by rw [HW3.out];exact below_setRow H2.out.2.1 (Nat.le_refl _) _
 have H3:=Lib.hid (And.intro hg3 b3)
 clear hg3 b3 S1 H2 rc
 go_wp2_with fail
 go_loopg [8] 7 (fun gk v8 wr=>∃ k:Nat,v8=.int .i64 k/\(k=1\/k=2\/k=4\/k=8)/\gk=8-k/\wr.heap[w1.heap.size]? = some (.cells (noughts k).toArray 25 (0,0))/\Below w1.heap.size w1 wr)
 case atStart=>exact ⟨1,rfl,.inl rfl,rfl,H3.out.1,H3.out.2⟩
 case round=>
  clear H3
  obtain ⟨k,rfl,hk,hgk,hg,hb⟩:=hrel
  have HG:=Lib.hid (And.intro hg (And.intro hb hgk))
  have BR:=Lib.hid (Zjs (ZqU hg))
  clear hg hb hgk
  rcases hk with rfl | rfl | rfl | rfl
  ·go_wp2_with fail
   go_region_law (refine Zd0 rfl (.tmp 41) (.tmp 44) 23 23 rfl 25 2 Tryz.underlying23 HSZ.out w1.heap.size 2 7 7 ⟨w1.heap.size,0,none⟩ 1 8 1 (by simp [Act.eval,Act.put]) (by simp [Act.eval,Act.put]) (noughts 1).toArray 25 HG.out.1 [.int .i64 0,.int .i64 1] rfl rfl (fun j v hj=>BR.out j v (Zlb (n:=2) rfl hj)) (by decide) (Zij [0,1]) ?_;intro w3 hw3;have HW3:=Lib.hid hw3;clear hw3)
   have hg3:w3.heap[w1.heap.size]? = some (.cells (noughts 2).toArray 25 (0,0)):=by rw [HW3.out];exact ZhF HG.out.1
   have b3:Below w1.heap.size w1 w3:=by rw [HW3.out];exact below_setRow (HG.out.2.1.trans ((Zq wr).mono HG.out.2.1.size)) (Nat.le_refl _) _
   have H3:=Lib.hid (And.intro hg3 b3)
   clear hg3 b3
   go_wp2_with fail
   go_roundg 6
   case measure=>have:=HG.out.2.2;omega
   case rel=>exact ⟨2,rfl,by decide,rfl,H3.out.1,H3.out.2⟩
  ·go_wp2_with fail
   go_region_law (refine Zd0 rfl (.tmp 41) (.tmp 44) 23 23 rfl 25 2 Tryz.underlying23 HSZ.out w1.heap.size 4 6 6 ⟨w1.heap.size,0,none⟩ 2 8 2 (by simp [Act.eval,Act.put]) (by simp [Act.eval,Act.put]) (noughts 2).toArray 25 HG.out.1 [.int .i64 0,.int .i64 1,.int .i64 0,.int .i64 1] rfl rfl (fun j v hj=>BR.out j v (Zlb (n:=4) rfl hj)) (by decide) (Zij [0,1,0,1]) ?_;intro w3 hw3;have HW3:=Lib.hid hw3;clear hw3)
   have hg3:w3.heap[w1.heap.size]? = some (.cells (noughts 4).toArray 25 (0,0)):=by rw [HW3.out];exact ZhF HG.out.1
   have b3:Below w1.heap.size w1 w3:=by rw [HW3.out];exact below_setRow (HG.out.2.1.trans ((Zq wr).mono HG.out.2.1.size)) (Nat.le_refl _) _
   have H3:=Lib.hid (And.intro hg3 b3)
   clear hg3 b3
   go_wp2_with fail
   go_roundg 4
   case measure=>have:=HG.out.2.2;omega
   case rel=>exact ⟨4,rfl,by decide,rfl,H3.out.1,H3.out.2⟩
  ·go_wp2_with fail
   go_region_law (refine Zd0 rfl (.tmp 41) (.tmp 44) 23 23 rfl 25 2 Tryz.underlying23 HSZ.out w1.heap.size 8 4 4 ⟨w1.heap.size,0,none⟩ 4 8 4 (by simp [Act.eval,Act.put]) (by simp [Act.eval,Act.put]) (noughts 4).toArray 25 HG.out.1 [.int .i64 0,.int .i64 1,.int .i64 0,.int .i64 1,.int .i64 0,.int .i64 1,.int .i64 0,.int .i64 1] rfl rfl (fun j v hj=>BR.out j v (Zlb (n:=8) rfl hj)) (by decide) (Zij [0,1,0,1,0,1,0,1]) ?_;intro w3 hw3;have HW3:=Lib.hid hw3;clear hw3)
   have hg3:w3.heap[w1.heap.size]? = some (.cells (noughts 8).toArray 25 (0,0)):=by rw [HW3.out];exact ZhF HG.out.1
   have b3:Below w1.heap.size w1 w3:=by rw [HW3.out];exact below_setRow (HG.out.2.1.trans ((Zq wr).mono HG.out.2.1.size)) (Nat.le_refl _) _
   have H3:=Lib.hid (And.intro hg3 b3)
   clear hg3 b3
   go_wp2_with fail
   go_roundg 0
   case measure=>have:=HG.out.2.2;omega
   case rel=>exact ⟨8,rfl,by decide,rfl,H3.out.1,H3.out.2⟩
  ·go_wp2_with fail
   go_ret
   exact ⟨_,rfl,⟨by decide,.inr ⟨w1.heap.size,8,(noughts 8).toArray,rfl,Nat.le_refl _,HG.out.1,by decide,by decide,rfl,rfl⟩⟩,HG.out.2.1⟩
end
section
open Go.RowKit
def Zd2 (x:Sum (List Rw×List Rw) Trm) (m:List (Int×Int)):Option (Int×Int):=
 match x with
 | .inl y=>Zdx y.1 y.2 m
 | .inr s=>okO (ZA (ZS s.1 m s.2).1,(ZS s.1 m s.2).2)
def Zep (x:Sum (List Rw×List Rw) Trm):Prop:=
 match x with
 | .inl y=>(∀ r∈y.1,TrmOk r.2)/\∀ r∈y.2,TrmOk r.2
 | .inr s=>TrmOk s
theorem ZeN {r:(Int×Int)×Int} {x:Int×Int} (h:okO r=some x):r.2=0/\r.1=x:=by
 unfold okO at h
 split at h
 ·rename_i g;exact ⟨g,Option.some.inj h⟩
 ·cases h
theorem Zgw {ts:List Rw} (h:∀ r∈ts,TrmOk r.2):∀ r∈ts,Zv r.2.1/\Bd r.2.2:=fun r hr=>⟨(h r hr).ok.wide,(h r hr).k.wide⟩
theorem ZhJ {x:Sum (List Rw×List Rw) Trm} {m:List (Int×Int)} (hx:Zep x) (hm:ZF m) {v:Int×Int} (h:Zd2 x m=some v):OkR v:=by
 cases x with
 | inr s=>
  obtain ⟨h1,h2⟩:=ZeN h
  have hs:TrmOk s:=hx
  obtain ⟨a,b,c,_,q⟩:=Zd3 hs.ok.wide hs.k.wide hm.wide h1
  have:=Zbv (Zcy a c b 8 _ q)
  rw [<- h2]
  exact this
 | inl y=>
  unfold Zd2 Zdx at h
  dsimp only at h
  rw [Option.bind_eq_some_iff] at h
  obtain ⟨b,hb,h⟩:=h
  rw [Option.bind_eq_some_iff] at h
  obtain ⟨t,ht,h⟩:=h
  have ob:=ZdR (Zgw hx.1) hm.wide _ _ hb
  have ot:=ZdR (Zgw hx.2) hm.wide _ _ ht
  split at h
  ·split at h
   ·obtain rfl:=Option.some.inj h
    exact Zah
   ·rename_i g2
    obtain ⟨h1,h2⟩:=ZeN h
    rw [<- h2]
    exact Zbn.ok _ _ (ot.resolve_left (fun q=>g2 q.1)) (Zbv Zdn) h1
  ·rename_i g1
   have ob:=Zbv (ob.resolve_left (fun q=>g1 q.1))
   split at h
   ·obtain ⟨h1,h2⟩:=ZeN h
    rw [<- h2]
    exact Zbn.ok _ _ ob Zdn h1
   ·rename_i g2
    rw [Option.bind_eq_some_iff] at h
    obtain ⟨s,hs,h⟩:=h
    obtain ⟨h1,h2⟩:=ZeN hs
    obtain ⟨h3,h4⟩:=ZeN h
    rw [<- h4]
    refine Zb3.ok _ _ ?_ Zgb h3
    rw [<- h2]
    exact Zbn.ok _ _ ob (ot.resolve_left (fun q=>g2 q.1)) h1
def Zbk:List Ch->List (Int×Int)->Option (List (Int×Int))
 | [],m=>some m
 | c::r,m=>(Zd2 c.2 m).bind fun x=>Zbk r (m.set c.1.toNat x)
theorem ZeW (b:List Ch):∀ (a:List Ch) (m:List (Int×Int)),Zbk (a++b) m=(Zbk a m).bind fun m'=>Zbk b m'
 | [],m=>rfl
 | c::r,m=>by
  rw [List.cons_append,Zbk,Zbk]
  cases Zd2 c.2 m with
  | none=>rfl
  | some x=>exact ZeW b r _
theorem ZnZ {w wr:World} {A:Option Addr} {n k:Nat} {rs:List (Value×Ch)} {x:Value×Ch} (h4:ZB w w.heap.size 2 A n (Zax rs)) (hb:Below w.heap.size w wr) (hx:rs[k]? = some x) (hn:0<n) :
  ∃ ad,A=some ad/\wr.cell? (ad.add (k*2))=some (.int .i64 x.2.1)/\wr.cell? ⟨(ad.add (k*2)).block,(ad.add (k*2)).off+1,none⟩=some x.1:=by
 obtain ⟨ad,e,hbk,hc⟩:=h4.2 hn
 obtain ⟨a,b⟩:=ZfZ rs k x hx
 have d0:=(hb.cell (p:=ad.add (k*2)) (by rw [ZL];exact hbk)).trans (hc _ _ a)
 have d1:=(hb.cell (p:=ad.add (k*2+1)) (by rw [ZL];exact hbk)).trans (hc _ _ b)
 rw [<- ZcE] at d1
 exact ⟨ad,e,d0,d1⟩
theorem ZdD {w:World} {base b2 size n:Nat} {e:TypeId} {v:Value} {xs:List Value} (h:w.ownsRow base e size v n xs) (hb:b2<=base):w.ownsRow b2 e size v n xs:=by
 refine ⟨h.1,?_⟩
 rcases h.2 with q | ⟨g,cap,cur,e,hg,rest⟩
 ·exact .inl q
 ·exact .inr ⟨g,cap,cur,e,Nat.le_trans hb hg,rest⟩
structure WitS (w wr:World) (g cap:Nat) (m:List (Int×Int)):Prop where
 o:wr.ownsRow w.heap.size 25 2 (.slice (some ⟨g,0,none⟩) 8 cap) 8 (Zr m)
 len:m.length=8
 ok:ZF m
 below:Below w.heap.size w wr
section
variable {w wr w2:World} {g cap:Nat} {m:List (Int×Int)}
theorem WitS.keep (h:WitS w wr g cap m) (hb:Below wr.heap.size wr w2):WitS w w2 g cap m:=
 ⟨h.o.kept (Zac hb none) (by simp [Value.ownBlock]),h.len,h.ok,h.below.trans (hb.mono h.below.size)⟩
theorem WitS.rats (h:WitS w wr g cap m):Zb wr (.slice (some ⟨g,0,none⟩) 8 cap) m:=Zdj (base:=w.heap.size) (by rw [h.len];exact h.o)
theorem WitS.put (h:WitS w wr g cap m) (p:Nat) (x:Int×Int) (hx:OkR x):WitS w ((wr.setCell ⟨g,p*2,none⟩ (.int .i64 x.1)).setCell ⟨g,p*2+1,none⟩ (.int .i64 x.2)) g cap (m.set p x):=by
 obtain ⟨a1,b1⟩:=h.o.stored (p*2) (.int .i64 x.1)
 obtain ⟨a2,b2⟩:=a1.stored (p*2+1) (.int .i64 x.2)
 refine ⟨by rw [Zcx];exact a2,by rw [List.length_set];exact h.len,fun y hy=>?_,?_⟩
 ·rcases List.mem_or_eq_of_mem_set hy with q | rfl
  ·exact h.ok y q
  ·exact hx
 ·have hg:=(h.o.lt g rfl).1
  exact (h.below.setCell (p:=⟨g,p*2,none⟩) hg _).setCell (p:=⟨g,p*2+1,none⟩) hg _
theorem WitS.cells (h:WitS w wr g cap m) {p:Nat} (hp:p<8):∃ x:Int×Int,wr.cell? ⟨g,p*2,none⟩=some (.int .i64 x.1)/\wr.cell? ⟨g,p*2+1,none⟩=some (.int .i64 x.2)/\wr.frozen? ⟨g,p*2,none⟩=false/\wr.frozen? ⟨g,p*2+1,none⟩=false:=by
 obtain ⟨x,hx⟩:∃ x,m[p]? = some x:=⟨_,List.getElem?_eq_getElem (by rw [h.len];exact hp)⟩
 obtain ⟨a,b⟩:=Zfj m p x hx
 refine ⟨x,?_,?_,h.o.frozenAt _,h.o.frozenAt _⟩
 ·rw [h.o.cellAt _ (by omega)];exact a
 ·rw [h.o.cellAt _ (by omega)];exact b
end
def m0:List (Int×Int):=List.replicate 8 (0,1)
def Ziz (w:World) (o:Option (List (Int×Int))) (e:Ending) (w':World):Prop:=
 (∃ m v,o=some m/\e=.returned (.tuple #[v,.int .i64 0])/\Zb w' v m/\m.length=8/\ZF m/\Below w.heap.size w w') ∨
 (o=none/\∃ z:Int,(z != 0)=true/\e=.returned (.tuple #[.slice none 0 0,.int .i64 z])/\Below w.heap.size w w')
theorem Zqw (w:World) (vb:Value) (m:List (Int×Int)) (b:Nat) (vs:Value) (s:Trm) (hB:Blk w b #[vs,.int .i64 s.2.1,.int .i64 s.2.2]) (hs:Zb w vs s.1) (hw:TrmOk s) (hb:Zb w vb m) (hm:Zv m) :
  Calls Tryz.prog 64 #[vb,.pointer (some ⟨b,0,none⟩)] w (Zkw w (Zd2 (.inr s) m)):=
 (ZpQ w vb m b vs s hB hs ⟨hw.ok.wide,hw.k.wide⟩ hb hm).mono fun e w' h=>by
  obtain ⟨rfl,hb⟩:=h
  refine ⟨⟨_,_,_,rfl,?_⟩,hb⟩
  exact ZcH (ZA (ZS s.1 m s.2).1,(ZS s.1 m s.2).2)
theorem Zmm (w:World) (v:Value) (cs:List Ch) (S:Nat->Prop) (h:ZmW w v cs S) (hok:∀ c∈cs,Zep c.2) (hv:∀ c∈cs,∃ n:Nat,c.1=n/\n<8) (hl:cs.length<=1000) :
  Calls Tryz.prog 26 #[v] w (Ziz w (Zbk cs m0)):=by
 obtain ⟨A,c,rs,rfl,h2,h3,h4,h5,h6⟩:=h
 obtain ⟨n,hn⟩:∃ n,n=cs.length:=⟨_,rfl⟩
 have hrn:rs.length=n:=by rw [hn,<- h4,List.length_map]
 rw [<- hn] at h2 h5 hl ⊢
 have HN:=Lib.hid (And.intro hrn (And.intro h4 (And.intro h5 (And.intro h6 (And.intro hn (And.intro hl (And.intro hok hv)))))))
 clear hn hrn h2 h3 h4 h5 h6 hl hok hv
 have hsf:∀ (a:Addr) (m:Mode) (fn:Fn) (f c:Array Value) (w:World),(store a (.func fn f c) m).run Tryz.prog w=stored Tryz.prog w a (.func fn f c) m:=fun a m fn f c w=>run_store Tryz.prog w a _ m rfl
 go_enter Tryz.func26,Tryz.ntmps26
 go_upto_region 2 with (first
  | (go_at_call 14;(with_reducible refine (Za7 _ _).mono ?_);rintro e1 w1 ⟨rfl,hb1⟩)
  | (go_at_call 63;(with_reducible refine (Znp _ _ _ (Blk.start _ _ _)).mono ?_);rintro e2 w2 ⟨vat,rfl,o2,hb2⟩))
 have b1:=hb1.trans ((Za w1 (.cells #[.int .i64 0,.int .i64 1] 25)).mono hb1.size)
 have b2:=b1.trans (hb2.mono b1.size)
 obtain ⟨g,cap,rfl⟩:∃ g cap,vat=.slice (some ⟨g,0,none⟩) 8 cap:=by
  rcases o2.2 with ⟨_,q⟩ | ⟨g,cap,_,e,_⟩
  ·omega
  ·exact ⟨g,cap,e⟩
 have D0:=Lib.hid (show WitS w w2 g cap m0 from ⟨ZdD o2 b1.size,rfl,fun x hx=>by rw [List.eq_of_mem_replicate hx];exact Zah,b2⟩)
 clear hb1 b1 hb2 b2 o2
 go_wp2_with fail
 go_loopg [14] n (fun gk v14 wr=>∃ (k:Nat) (m:List (Int×Int)),v14=.int .i64 k/\k<=n/\gk=n-k/\Zbk (cs.take k) m0=some m/\WitS w wr g cap m)
 case atStart=>exact ⟨0,m0,rfl,Nat.zero_le _,rfl,rfl,D0.out⟩
 case round=>
  clear D0
  obtain ⟨k,m,rfl,hk,hgk,hso,D⟩:=hrel
  by_cases hkn:k=n
  ·have he:cs.take k=cs:=by rw [hkn,HN.out.2.2.2.2.1];exact List.take_length
   rw [he] at hso
   have FIN:=Lib.hid (show Ziz w (Zbk cs m0) (.returned (.tuple #[.slice (some ⟨g,0,none⟩) 8 cap,.int .i64 0])) wr from .inl ⟨m,_,hso,rfl,D.rats,D.len,D.ok,D.below⟩)
   subst hkn
   clear hk hgk D he hso
   go_wp2_with fail
   go_ret2
   exact FIN.out
  ·have hlt:k<n:=by omega
   obtain ⟨y,hy⟩:∃ y,rs[k]? = some y:=⟨_,List.getElem?_eq_getElem (by have:=HN.out.1;omega)⟩
   have hyt:cs[k]? = some y.2:=by rw [<- HN.out.2.1,List.getElem?_map,hy];rfl
   obtain ⟨ad,rfl,d0,d1⟩:=ZnZ HN.out.2.2.1 D.below hy (by omega)
   have hfa:=(HN.out.2.2.2.1 y (List.mem_of_getElem? hy)).below D.below
   have hfo:=HN.out.2.2.2.2.2.2.1 y.2 (List.mem_of_getElem? hyt)
   obtain ⟨p8,hp8,hp9⟩:=HN.out.2.2.2.2.2.2.2 y.2 (List.mem_of_getElem? hyt)
   have nx:Zbk (cs.take (k+1)) m0=(Zd2 y.2.2 m).bind fun x=>some (m.set p8 x):=by
    rw [List.take_add_one,hyt]
    show Zbk (cs.take k++[y.2]) m0=_
    rw [ZeW,hso,Option.bind_some,Zbk,hp8]
    rfl
   have nn:Zd2 y.2.2 m=none->Zbk cs m0=none:=fun q=>by
    rw [<- List.take_append_drop (k+1) cs,ZeW,nx,q]
    rfl
   have i1:(k:Int)<(n:Int):=by omega
   have i2:(0:Int)<=(k:Int):=by omega
   have wk:IntKind.i64.wrap ((k:Int)+1)=(k:Int)+1:=IntWalk.i64_in _ (by have:=HN.out.2.2.2.2.2.1;omega)
   obtain ⟨f,pv,xc⟩:=y
   dsimp only at *
   subst hp8
   have HK:=Lib.hid (And.intro hlt (And.intro hgk (And.intro nx (And.intro nn hfo))))
   have HP8:=Lib.hid hp9
   have DD:=Lib.hid (fun (w':World) (hb:Below wr.heap.size wr w')=>D.keep hb)
   clear hkn hk hgk hyt hy hfo nx nn hso hlt D hp9
   cases xc with
   | inl z=>
    obtain ⟨b1,b2,v1,v2,rfl,B1,B2,nb1,nb2,R1,R2⟩:=hfa
    have hfa:True:=trivial
    have CF:=Lib.hid (fun (w':World) (hb:Below wr.heap.size wr w')=>Zqh w' (.slice (some ⟨g,0,none⟩) 8 cap) m b1 b2 v1 v2 z.1 z.2 (B1.keep hb) (B2.keep hb) (R1.below hb).rows (R2.below hb).rows (Zgw HK.out.2.2.2.2.1) (Zgw HK.out.2.2.2.2.2) (DD.out w' hb).rats (DD.out w' hb).ok.wide)
    have HFA:=Lib.hid (And.intro hfa DD.out)
    clear hfa B1 B2 nb1 nb2 R1 R2
    go_upto_region 5 with fail
    have a1:=Za wr (.cells #[.int .i64 p8,.func (.func 85) #[] #[.pointer (some ⟨b1,0,none⟩),.pointer (some ⟨b2,0,none⟩)]] 93)
    have CB:=Lib.hid (And.intro (Blk.start wr #[.int .i64 p8,.func (.func 85) #[] #[.pointer (some ⟨b1,0,none⟩),.pointer (some ⟨b2,0,none⟩)]] 93) a1)
    clear d0 d1 a1
    generalize wr.alloc (.cells #[.int .i64 p8,.func (.func 85) #[] #[.pointer (some ⟨b1,0,none⟩),.pointer (some ⟨b2,0,none⟩)]] 93)=w1 at *
    generalize wr.heap.size=bc at *
    have f1:=CB.out.1.cell 1
    go_upto_region 6 with (go_at_call 85;go_loud ((with_reducible refine (CF.out _ CB.out.2).mono ?_);rintro e5 w5 ⟨⟨x,y,z,rfl,hz⟩,hb5⟩))
    have a6:=Za w5 (.cells #[.int .i64 x,.int .i64 y] 25)
    have D6:=Lib.hid ((HFA.out.2 _ CB.out.2 |>.keep hb5).keep a6)
    have V6:=Lib.hid (Blk.start w5 #[.int .i64 x,.int .i64 y] 25)
    have C6:=Lib.hid ((CB.out.1.keep hb5).keep a6)
    clear a6 hb5 f1
    generalize w5.heap.size=bv at *
    generalize w5.alloc (.cells #[.int .i64 x,.int .i64 y] 25)=w6 at *
    rcases hz with ⟨rfl,hz⟩ | ⟨hne,hz⟩
    ·have ov:=ZhJ HK.out.2.2.2.2 D6.out.ok hz
     have NX:=Lib.hid (show Zbk (cs.take (k+1)) m0=some (m.set p8 (x,y)) from by rw [HK.out.2.2.1,show Zd2 (.inl z) m=some (x,y) from hz];simp)
     obtain ⟨u,u0,u1,q0,q1⟩:=D6.out.cells HP8.out
     have D8:=Lib.hid (D6.out.put p8 (x,y) ov)
     have c0:=C6.out.cell 0
     have v0:=V6.out.cell 0
     have v1:=V6.out.cell 1
     have i5:(0:Int)<=(p8:Int):=by omega
     have i6:(p8:Int)<8:=by have:=HP8.out;omega
     clear ov hz
     go_wp2_with fail
     go_roundg (n-(k+1))
     case measure=>have:=HK.out.1;have:=HK.out.2.1;omega
     case rel=>exact ⟨k+1,m.set p8 (x,y),by push_cast;rfl,by have:=HK.out.1;omega,rfl,NX.out,D8.out⟩
    ·have ne:(z != 0)=true:=by simpa using hne
     have FIN:=Lib.hid (show Ziz w (Zbk cs m0) (.returned (.tuple #[.slice none 0 0,.int .i64 z])) w6 from .inr ⟨HK.out.2.2.2.1 hz,z,ne,rfl,D6.out.below⟩)
     clear hz hne
     go_wp2_with fail
     go_ret2
     exact FIN.out
   | inr s=>
    obtain ⟨b1,vs,rfl,B1,nb1,R1,R2⟩:=hfa
    have hfa:True:=trivial
    have CF:=Lib.hid (fun (w':World) (hb:Below wr.heap.size wr w')=>Zqw w' (.slice (some ⟨g,0,none⟩) 8 cap) m b1 vs s (B1.keep hb) (R1.below hb) HK.out.2.2.2.2 (DD.out w' hb).rats (DD.out w' hb).ok.wide)
    have HFA:=Lib.hid (And.intro hfa DD.out)
    clear hfa B1 nb1 R1 R2
    go_upto_region 5 with fail
    have a1:=Za wr (.cells #[.int .i64 p8,.func (.func 64) #[] #[.pointer (some ⟨b1,0,none⟩)]] 93)
    have CB:=Lib.hid (And.intro (Blk.start wr #[.int .i64 p8,.func (.func 64) #[] #[.pointer (some ⟨b1,0,none⟩)]] 93) a1)
    clear d0 d1 a1
    generalize wr.alloc (.cells #[.int .i64 p8,.func (.func 64) #[] #[.pointer (some ⟨b1,0,none⟩)]] 93)=w1 at *
    generalize wr.heap.size=bc at *
    have f1:=CB.out.1.cell 1
    go_upto_region 6 with (go_at_call 64;go_loud ((with_reducible refine (CF.out _ CB.out.2).mono ?_);rintro e5 w5 ⟨⟨x,y,z,rfl,hz⟩,hb5⟩))
    have a6:=Za w5 (.cells #[.int .i64 x,.int .i64 y] 25)
    have D6:=Lib.hid ((HFA.out.2 _ CB.out.2 |>.keep hb5).keep a6)
    have V6:=Lib.hid (Blk.start w5 #[.int .i64 x,.int .i64 y] 25)
    have C6:=Lib.hid ((CB.out.1.keep hb5).keep a6)
    clear a6 hb5 f1
    generalize w5.heap.size=bv at *
    generalize w5.alloc (.cells #[.int .i64 x,.int .i64 y] 25)=w6 at *
    rcases hz with ⟨rfl,hz⟩ | ⟨hne,hz⟩
    ·have ov:=ZhJ HK.out.2.2.2.2 D6.out.ok hz
     have NX:=Lib.hid (show Zbk (cs.take (k+1)) m0=some (m.set p8 (x,y)) from by rw [HK.out.2.2.1,show Zd2 (.inr s) m=some (x,y) from hz];simp)
     obtain ⟨u,u0,u1,q0,q1⟩:=D6.out.cells HP8.out
     have D8:=Lib.hid (D6.out.put p8 (x,y) ov)
     have c0:=C6.out.cell 0
     have v0:=V6.out.cell 0
     have v1:=V6.out.cell 1
     have i5:(0:Int)<=(p8:Int):=by omega
     have i6:(p8:Int)<8:=by have:=HP8.out;omega
     clear ov hz
     go_wp2_with fail
     go_roundg (n-(k+1))
     case measure=>have:=HK.out.1;have:=HK.out.2.1;omega
     case rel=>exact ⟨k+1,m.set p8 (x,y),by push_cast;rfl,by have:=HK.out.1;omega,rfl,NX.out,D8.out⟩
    ·have ne:(z != 0)=true:=by simpa using hne
     have FIN:=Lib.hid (show Ziz w (Zbk cs m0) (.returned (.tuple #[.slice none 0 0,.int .i64 z])) w6 from .inr ⟨HK.out.2.2.2.1 hz,z,ne,rfl,D6.out.below⟩)
     clear hz hne
     go_wp2_with fail
     go_ret2
     exact FIN.out
end
section
open Go.RowKit
def ZbV (l:List Rw):List (Int×Int)×Int:=
 match ZcX l with
 | .inl z=>([],z)
 | .inr f=>match Zbk ((f.2.1.map Zcd).reverse++ZaM (f.2.2.1.zip f.2.2.2)) m0 with
  | none=>([],2)
  | some m=>(m,0)
def ZbJ (w:World) (r:List (Int×Int)×Int) (e:Ending) (w':World):Prop:=
 ∃ A c,e=.returned (.tuple #[.slice A r.1.length c,.int .i64 r.2])/\Zb w' (.slice A r.1.length c) r.1/\ZF r.1/\Below w.heap.size w w'
theorem Zbe {w w':World} {z:Int} (hb:Below w.heap.size w w'):ZbJ w ([],z) (.returned (.tuple #[.slice none 0 0,.int .i64 z])) w':=
 ⟨none,0,rfl,Zb.nil _,fun x hx=>(by cases hx),hb⟩
def Zo2 (c:Zbs):Prop:=(∃ n:Nat,c.1=n/\n<8)/\(∀ r∈c.2.1,TrmOk r.2)/\∀ r∈c.2.2,TrmOk r.2
theorem Zif:∀ (vs:List Int) (rows:List Rw) (ch:List Zbs) (res:List Rw×List Zbs),Zb4 rows->(∀ v∈vs,∃ n:Nat,v=n/\n<8)->ZaI vs rows ch=some res->(∀ c∈ch,Zo2 c)->∀ c∈res.2,Zo2 c
 | [],rows,ch,res,_,_,h,hc=>by
  obtain rfl:=Option.some.inj h
  exact hc
 | v::vs,rows,ch,res,hg,hv,h,hc=>by
  rw [ZaI,Option.bind_eq_some_iff] at h
  obtain ⟨s,hs,h⟩:=h
  rw [Option.bind_eq_some_iff] at h
  obtain ⟨r,hw,h⟩:=h
  obtain ⟨n,hn,h8⟩:=hv v (by simp)
  have SI:=Zds v rows ([],[],[]) s (fun r hr=>(hg r hr).1) hs
  subst hn
  refine Zif vs r _ res (ZgR h8 hg hs hw).1 (fun u hu=>hv u (by simp [hu])) h fun c hc'=>?_
  rcases List.mem_append.1 hc' with q | q
  ·exact hc c q
  ·rw [List.mem_singleton] at q
   subst q
   refine ⟨⟨n,rfl,h8⟩,fun t ht=>?_,fun t ht=>?_⟩
   ·rcases SI.lo t ht with q | ⟨r,_,q,_⟩
    ·cases q
    ·exact q.2.1
   ·rcases SI.up t ht with q | ⟨r,_,q,_⟩
    ·cases q
    ·exact q.2.1
theorem Zqf {ch:List Zbs} {a:List Trm} {p:List Int} (hc:∀ c∈ch,Zo2 c) (S:Solved a p):(∀ c∈(ch.map Zcd).reverse++ZaM (a.zip p),Zep c.2)/\∀ c∈(ch.map Zcd).reverse++ZaM (a.zip p),∃ n:Nat,c.1=n/\n<8:=by
 have key:∀ c∈(ch.map Zcd).reverse++ZaM (a.zip p),Zep c.2/\∃ n:Nat,c.1=n/\n<8:=fun c h=>by
  rcases List.mem_append.1 h with q | q
  ·rw [List.mem_reverse] at q
   obtain ⟨x,hx,rfl⟩:=List.mem_map.1 q
   exact ⟨(hc x hx).2,(hc x hx).1⟩
  ·unfold ZaM at q
   obtain ⟨x,hx,rfl⟩:=List.mem_map.1 q
   obtain ⟨j,h1,h2⟩:=ZeG hx
   have:=S.po.rng j _ h2
   exact ⟨S.ok _ (List.mem_of_getElem? h1),x.2.toNat,by show x.2=_;omega,by omega⟩
 exact ⟨fun c h=>(key c h).1,fun c h=>(key c h).2⟩
theorem ZlX {l:List Rw} (hw:∀ r∈l,ZX r) (hn:l.length<=400) (hw2:l.any ZP=false):Zb4 (Zbf l)/\(∀ t∈ZN l,Zv t.1/\Bd t.2)/\(Zbf l).length<=400/\(ZN l).length<=400:=by
 have hr:∀ r∈l,TrmOk r.2/\(r.1=0\/r.1=1\/r.1=2):=fun r hr=>ZcB ⟨(hw r hr).1,(hw r hr).2.1⟩ (by
  have:=List.any_eq_false.1 hw2 r hr
  simpa using this)
 refine ⟨fun r h=>?_,fun t ht=>?_,?_,?_⟩
 ·obtain ⟨a,b⟩:=ZfK.1 h
  obtain ⟨k1,k2⟩:=hr r a
  exact ⟨k1,by rcases k2 with c | c | c;(· exact absurd c b);(· exact .inl c);(· exact .inr c)⟩
 ·obtain ⟨r,a,_,rfl⟩:=ZdN.1 ht
  exact ⟨(hw r a).1,(hw r a).2.1⟩
 ·exact Nat.le_trans (List.length_filter_le _ _) hn
 ·unfold ZN
  rw [List.length_map]
  exact Nat.le_trans (List.length_filter_le _ _) hn
theorem Zh2 {E a:List Trm} {p:List Int} (hw:∀ t∈E,Zv t.1/\Bd t.2) (h:Zy E=((a,p),0)):Solved a p/\a.length=p.length/\a.length<=8:=by
 have S:=Zhe hw h
 obtain ⟨hok,l,hk,_⟩:=Zey hw h
 have so:=ZcC hok 8 _ hk
 exact ⟨S,S.po.len,by have:=so.k;have:=so.ql;dsimp only at *;omega⟩
theorem Zih (p:List Int):(∀ v∈Zay p 8,∃ n:Nat,v=n/\n<8)/\(Zay p 8).length<=8:=
 ⟨fun v hv=>by obtain ⟨⟨n,a,b⟩,_⟩:=(Zdh p 8 v).1 hv;exact ⟨n,a,b⟩,Ze0 p 8⟩
theorem ZoM {a:List Trm} {p:List Int} (S:Solved a p) {O rows:List Rw} (g:Zb4 O) (h:Zbj (a.zip p) O=some rows):Zb4 rows:=
 (ZhG (a.zip p) (fun s hs=>by obtain ⟨j,h1,_⟩:=ZeG hs;exact S.ok _ (List.mem_of_getElem? h1)) O rows g h).1
theorem Zm2 (w:World) (v:Value) (l:List Rw) (h:ZD w v l) (hw:∀ r∈l,ZX r) (hr:¬ (l.length<=400/\l.any ZP=false)) :
  Calls Tryz.prog 9 #[v] w (ZbJ w ([],2)):=by
 have cw:=Zfw w v l hw h
 obtain ⟨A,c,rs,rfl,h2,h3,_⟩:=id h
 by_cases hl:l.length<=400
 ·have hq:l.any ZP=true:=by
   cases e:l.any ZP
   ·exact absurd ⟨hl,e⟩ hr
   ·rfl
  rw [hq] at cw
  have CW:=Lib.hid cw
  have i1:¬ (400:Int)<(l.length:Int):=by omega
  have i2:¬ 400<l.length:=by omega
  clear hr h hw h2 h3 hq cw hl
  generalize l.length=n at *
  go_enter Tryz.func9,Tryz.ntmps9
  go_wp2_with (go_at_call 18;(with_reducible refine CW.out.mono ?_);rintro e1 w1 ⟨rfl,hb1⟩)
  go_ret2
  exact Zbe hb1
 ·have i1:(400:Int)<(l.length:Int):=by omega
  have i2:400<l.length:=by omega
  clear hr h hw h2 h3 hl cw
  generalize l.length=n at *
  go_enter Tryz.func9,Tryz.ntmps9
  go_wp2_with fail
  go_ret2
  exact Zbe (Below.refl _ _)
theorem ZnY (w:World) (v:Value) (l:List Rw) (h:ZD w v l) (hw:∀ r∈l,ZX r) (hr:l.length<=400/\l.any ZP=false) :
  Calls Tryz.prog 9 #[v] w (ZbJ w (ZbV l)):=by
 obtain ⟨iC,hiC,zC0,zC1,zC2⟩:=info_parts ZkW
 obtain ⟨gO,wE,lO,lE⟩:=ZlX hw hr.1 hr.2
 have cw:=Zfw w v l hw h
 rw [hr.2] at cw
 have CW:=Lib.hid cw
 have PA:=Lib.hid (fun (w':World) (hb:Below w.heap.size w w')=>Znh w' v l (h.below hb) (by omega))
 have GS:=Lib.hid (fun (w':World) (v':Value) (h':Zal w' v' (ZN l))=>Zm5 w' v' (ZN l) h' wE)
 have hf:ZcX l=if (Zy (ZN l)).2≠0 then .inl (Zy (ZN l)).2
   else match Zbj ((Zy (ZN l)).1.1.zip (Zy (ZN l)).1.2) (Zbf l) with
   | none=>.inl 2
   | some rows=>match ZaI (Zay (Zy (ZN l)).1.2 8) rows [] with
    | none=>.inl 2
    | some res=>if res.1.any (fun r=>!Zcq r.1 r.2.2.1)=true then .inl 1 else .inr (res.1,res.2,(Zy (ZN l)).1.1,(Zy (ZN l)).1.2):=by
  unfold ZcX
  rw [if_neg (by rintro (q | q);(· omega);(· rw [hr.2] at q;cases q))]
  rfl
 have i1:¬ (400:Int)<(l.length:Int):=by omega
 have i2:¬ 400<l.length:=by omega
 obtain ⟨A,c,rs,rfl,h2,h3,_⟩:=id h
 have hS:ZbV l=match ZcX l with
  | .inl z=>([],z)
  | .inr f=>match Zbk ((f.2.1.map Zcd).reverse++ZaM (f.2.2.1.zip f.2.2.2)) m0 with
   | none=>([],2)
   | some m=>(m,0):=rfl
 rw [hf] at hS
 generalize ZbV l=Z at *
 clear h hw hr h2 h3 cw hf
 generalize l.length=n at *
 cases hq:Zy (ZN l) with
 | mk ap ans=>
 obtain ⟨a,p⟩:=ap
 rw [hq] at hS GS
 dsimp only at hS
 by_cases ha:ans=0
 rotate_left
 ·have ne:(ans != 0)=true:=by simpa using ha
  rw [if_pos ha] at hS
  dsimp only at hS
  subst hS
  clear ha hq gO wE lO lE
  go_enter Tryz.func9,Tryz.ntmps9
  go_wp2_with (first
    | (go_at_call 18;(with_reducible refine CW.out.mono ?_);rintro e1 w1 ⟨rfl,hb1⟩)
    | (go_at_call 19;(with_reducible refine (PA.out _ hb1).mono ?_);rintro e2 w2 ⟨Ae,ce,Ao,co_,rfl,TE,TO,hb2⟩;have b2:=hb1.trans (hb2.mono hb1.size))
    | (go_at_call 20;(with_reducible refine (GS.out _ _ TE).mono ?_);rintro e3 w3 ⟨As,cs,Ap,cp,rfl,TS,IP,hb3⟩;have b3:=b2.trans (hb3.mono b2.size)))
  go_ret2
  exact Zbe b3
 subst ha
 rw [if_neg (by simp)] at hS
 obtain ⟨S,lap,la8⟩:=Zh2 wE hq
 have SB:=Lib.hid (fun (w':World) (v1 v2 v3:Value) (h1:ZD w' v1 (Zbf l)) (h2:Zal w' v2 a) (h3:ZaT w' v3 p)=>ZiW w' v1 v2 v3 (Zbf l) a p h1 h2 h3 lap (fun r hr=>(gO r hr).1) S.ok (by omega) (by omega))
 cases hs:Zbj (a.zip p) (Zbf l) with
 | none=>
  rw [hs] at hS SB
  dsimp only at hS
  subst hS
  clear hs hq gO wE lO lE S lap la8
  go_enter Tryz.func9,Tryz.ntmps9
  go_wp2_with (first
    | (go_at_call 18;(with_reducible refine CW.out.mono ?_);rintro e1 w1 ⟨rfl,hb1⟩)
    | (go_at_call 19;(with_reducible refine (PA.out _ hb1).mono ?_);rintro e2 w2 ⟨Ae,ce,Ao,co_,rfl,TE,TO,hb2⟩;have b2:=hb1.trans (hb2.mono hb1.size))
    | (go_at_call 20;(with_reducible refine (GS.out _ _ TE).mono ?_);rintro e3 w3 ⟨As,cs,Ap,cp,rfl,TS,IP,hb3⟩;have b3:=b2.trans (hb3.mono b2.size))
    | (go_at_call 21;(with_reducible refine (SB.out _ _ _ _ (TO.below hb3) TS IP).mono ?_);rintro e4 w4 (⟨rows2,vr,q,_⟩ | ⟨_,z,hz,rfl,hb4⟩);(next=>cases q);have b4:=b3.trans (hb4.mono b3.size)))
  go_ret2
  exact Zbe b4
 | some rows=>
  rw [hs] at hS SB
  dsimp only at hS
  have gR:=ZoM S gO hs
  have lR:=Zgp _ _ _ hs
  have EL:=Lib.hid (fun (w':World) (v1 v2:Value) (h1:ZD w' v1 rows) (h2:ZaT w' v2 (Zay p 8))=>Zjd w' v1 v2 rows (Zay p 8) h1 h2 gR (Zih p).1 (by omega) (Zih p).2)
  cases he:ZaI (Zay p 8) rows [] with
  | none=>
   rw [he] at hS EL
   dsimp only at hS
   subst hS
   clear hs hq gO wE lO lE S lap la8 he gR lR
   go_enter Tryz.func9,Tryz.ntmps9
   go_wp2_with (first
    | (go_at_call 18;(with_reducible refine CW.out.mono ?_);rintro e1 w1 ⟨rfl,hb1⟩)
    | (go_at_call 19;(with_reducible refine (PA.out _ hb1).mono ?_);rintro e2 w2 ⟨Ae,ce,Ao,co_,rfl,TE,TO,hb2⟩;have b2:=hb1.trans (hb2.mono hb1.size))
    | (go_at_call 20;(with_reducible refine (GS.out _ _ TE).mono ?_);rintro e3 w3 ⟨As,cs,Ap,cp,rfl,TS,IP,hb3⟩;have b3:=b2.trans (hb3.mono b2.size))
    | (go_at_call 21;(with_reducible refine (SB.out _ _ _ _ (TO.below hb3) TS IP).mono ?_);rintro e4 w4 (⟨rows2,vr,q,rfl,RO,hb4⟩ | ⟨q,_⟩);rotate_left;(next=>cases q);injection q with q;subst q;have b4:=b3.trans (hb4.mono b3.size))
    | (go_at_call 23;(with_reducible refine (Zii _ _ _ (IP.below hb4)).mono ?_);rintro e5 w5 ⟨Af,cf,rfl,IF,hb5⟩;have b5:=b4.trans (hb5.mono b4.size))
    | (go_at_call 22;(with_reducible refine (EL.out _ _ _ (RO.below hb5) IF).mono ?_);rintro e6 w6 (⟨x,vr6,vch,q,_⟩ | ⟨_,z,hz,rfl,hb6⟩);(next=>cases q);have b6:=b5.trans (hb6.mono b5.size)))
   go_ret2
   exact Zbe b6
  | some res=>
   have hch:=Zif _ _ _ _ gR (Zih p).1 he (fun c hc=>by cases hc)
   have lch:=ZeZ _ _ _ _ he
   rw [he] at hS EL
   dsimp only at hS
   have CU:=Lib.hid (fun (w':World) (v1:Value) (h1:ZD w' v1 res.1)=>Zi9 w' v1 res.1 h1)
   have hun:(fun r:Rw=>!Zcq r.1 r.2.2.1)=Zcn:=rfl
   rw [hun] at hS
   cases hu:res.1.any Zcn with
   | true=>
    rw [hu] at hS CU
    rw [if_pos rfl] at hS
    dsimp only at hS
    subst hS
    clear hs hq gO wE lO lE S lap la8 he gR lR hch lch hun hu
    go_enter Tryz.func9,Tryz.ntmps9
    go_wp2_with (first
    | (go_at_call 18;(with_reducible refine CW.out.mono ?_);rintro e1 w1 ⟨rfl,hb1⟩)
    | (go_at_call 19;(with_reducible refine (PA.out _ hb1).mono ?_);rintro e2 w2 ⟨Ae,ce,Ao,co_,rfl,TE,TO,hb2⟩;have b2:=hb1.trans (hb2.mono hb1.size))
    | (go_at_call 20;(with_reducible refine (GS.out _ _ TE).mono ?_);rintro e3 w3 ⟨As,cs,Ap,cp,rfl,TS,IP,hb3⟩;have b3:=b2.trans (hb3.mono b2.size))
    | (go_at_call 21;(with_reducible refine (SB.out _ _ _ _ (TO.below hb3) TS IP).mono ?_);rintro e4 w4 (⟨rows2,vr,q,rfl,RO,hb4⟩ | ⟨q,_⟩);rotate_left;(next=>cases q);injection q with q;subst q;have b4:=b3.trans (hb4.mono b3.size))
    | (go_at_call 23;(with_reducible refine (Zii _ _ _ (IP.below hb4)).mono ?_);rintro e5 w5 ⟨Af,cf,rfl,IF,hb5⟩;have b5:=b4.trans (hb5.mono b4.size))
    | (go_at_call 22;(with_reducible refine (EL.out _ _ _ (RO.below hb5) IF).mono ?_);rintro e6 w6 (⟨x,vr6,vch,q,rfl,RE,CE,hb6⟩ | ⟨q,_⟩);rotate_left;(next=>cases q);injection q with q;subst q;have b6:=b5.trans (hb6.mono b5.size))
    | (go_at_call 18;(with_reducible refine (CU.out _ _ RE).mono ?_);rintro e7 w7 ⟨rfl,hb7⟩;have b7:=b6.trans (hb7.mono b6.size)))
    go_ret2
    exact Zbe b7
   | false=>
    rw [hu] at hS CU
    rw [if_neg (by simp)] at hS
    dsimp only at hS
    obtain ⟨f1,f2⟩:=Zqf hch S
    have lz:(a.zip p).length<=8:=by rw [List.length_zip];omega
    have fl:=Ze0 p 8
    have lall:((res.2.map Zcd).reverse++ZaM (a.zip p)).length<=16:=by
     unfold ZaM
     rw [List.length_append,List.length_reverse,List.length_map,List.length_map]
     rw [lch]
     simp only [List.length_nil]
     omega
    have lre:(res.2.map Zcd).reverse.length<=8:=by
     rw [List.length_reverse,List.length_map,lch]
     simp only [List.length_nil]
     omega
    have lsc:(ZaM (a.zip p)).length<=8:=by unfold ZaM;rw [List.length_map];exact lz
    obtain ⟨C1,hC1⟩:∃ C1,C1=(res.2.map Zcd).reverse:=⟨_,rfl⟩
    obtain ⟨C2,hC2⟩:∃ C2,C2=ZaM (a.zip p):=⟨_,rfl⟩
    have SOL:=Lib.hid (fun (w0 w':World) (hb:Below w0.heap.size w0 w') (v1 v2:Value) (h1:Zal w0 v1 a) (h2:ZaT w' v2 p)=>Zkn w0 w' hb v1 v2 a p h1 h2 lap (by omega))
    have WI:=Lib.hid (fun (w':World) (v1:Value) (S0:Nat->Prop) (h1:ZmW w' v1 ((res.2.map Zcd).reverse++ZaM (a.zip p)) S0)=>Zmm w' v1 _ S0 h1 f1 f2 (by omega))
    rw [<- hC1,<- hC2] at hS
    rw [hC1.symm,hC2.symm] at WI
    rw [<- hC1] at lre
    rw [<- hC2] at lsc
    have HC1:=Lib.hid hC1
    have HC2:=Lib.hid hC2
    have LL:=Lib.hid (And.intro lre lsc)
    have HS:=Lib.hid hS
    clear hS
    rw [<- hC2] at SOL
    clear hs hq gO wE lO lE S lap la8 he gR lR hch lch hun hu f1 f2 lz fl lall lre lsc hC1 hC2
    go_enter Tryz.func9,Tryz.ntmps9
    go_upto_region 15 with (first
    | (go_at_call 18;(with_reducible refine CW.out.mono ?_);rintro e1 w1 ⟨rfl,hb1⟩)
    | (go_at_call 19;(with_reducible refine (PA.out _ hb1).mono ?_);rintro e2 w2 ⟨Ae,ce,Ao,co_,rfl,TE,TO,hb2⟩;have b2:=hb1.trans (hb2.mono hb1.size))
    | (go_at_call 20;(with_reducible refine (GS.out _ _ TE).mono ?_);rintro e3 w3 ⟨As,cs,Ap,cp,rfl,TS,IP,hb3⟩;have b3:=b2.trans (hb3.mono b2.size))
    | (go_at_call 21;(with_reducible refine (SB.out _ _ _ _ (TO.below hb3) TS IP).mono ?_);rintro e4 w4 (⟨rows2,vr,q,rfl,RO,hb4⟩ | ⟨q,_⟩);rotate_left;(next=>cases q);injection q with q;subst q;have b4:=b3.trans (hb4.mono b3.size))
    | (go_at_call 23;(with_reducible refine (Zii _ _ _ (IP.below hb4)).mono ?_);rintro e5 w5 ⟨Af,cf,rfl,IF,hb5⟩;have b5:=b4.trans (hb5.mono b4.size))
    | (go_at_call 22;(with_reducible refine (EL.out _ _ _ (RO.below hb5) IF).mono ?_);rintro e6 w6 (⟨x,vr6,vch,q,rfl,RE,CE,hb6⟩ | ⟨q,_⟩);rotate_left;(next=>cases q);injection q with q;subst q;have b6:=b5.trans (hb6.mono b5.size))
    | (go_at_call 18;(with_reducible refine (CU.out _ _ RE).mono ?_);rintro e7 w7 ⟨rfl,hb7⟩;have b7:=b6.trans (hb7.mono b6.size)))
    have b36:=hb4.trans ((hb5.trans (hb6.mono hb5.size)).mono hb4.size)
    have b37:=b36.trans (hb7.mono b36.size)
    have CE7:=CE.below hb7
    rw [<- HC1.out] at CE7
    have hlo:∀ b,vch.ownBlock=some b->w3.heap.size<=b/\b<w7.heap.size:=fun b q=>by
     have h1:=(CE.lt b q).1
     have h2:=(CE7.lt b q).2
     have h3:=hb4.size
     have h4:=hb5.size
     omega
    have D7:=Lib.hid (And.intro CE7 (And.intro b7 (And.intro hlo (show w5.heap.size<=w7.heap.size from Nat.le_trans hb6.size hb7.size))))
    have SO:=Lib.hid (SOL.out w3 w7 b37 _ _ TS (IP.below b37))
    have WB:=Lib.hid (show w.heap.size<=w5.heap.size from b5.size)
    clear hb1 hb2 hb3 hb4 hb5 hb6 hb7 b2 b3 b4 b5 b6 b7 b36 b37 TE TO TS IP RO IF RE CE CE7 hlo SOL
    go_wp2_with (first
     | (go_at_call 27;(with_reducible refine SO.out.mono ?_);rintro e8 w8 ⟨vsol,rfl,OS,hb8⟩;obtain ⟨A8,c8,ns,rfl,n2,n3,n1,n4,n5⟩:=OS.chs;obtain ⟨rs2,z1,z2,z3⟩:=D7.out.1.below hb8;have NS:=Lib.hid (And.intro n1 (And.intro n4 (fun x hx=>(n5 x hx).mono (S':=fun b=>vch.ownBlock=some b) (fun b q=>.inl (.inr (D7.out.2.2.1 b q))))));have QW:=Lib.hid (And.intro z1 (And.intro z2 (And.intro z3 (And.intro (D7.out.2.1.trans (hb8.mono D7.out.2.1.size)) (Nat.le_trans D7.out.2.2.2 hb8.size)))));clear OS n1 n2 n3 n4 n5 z1 z2 z3 hb8)
     | (at_builtin;refine Zm _ rfl _ _ 57 rfl w5.heap.size 93 iC (.agg #[.int .i64 0,Value.nilFunc]) 2 16 Tryz.underlying57 hiC zC0 zC1 zC2 rfl (by decide) _ C1.length (Zax rs2) rfl QW.out.2.1 w8.heap.size A8 C2.length c8 (Zax ns) rfl NS.out.2.1 (Za0.one NS.out.2.2) (by have:=LL.out;unfold maxLen;omega) (by have:=LL.out;omega) QW.out.2.2.2.2 ?_))
    intro v9 w9 hown hgrow hat
    have D9:=Za0.appended (S':=fun b=>v9.ownBlock=some b) QW.out.1 QW.out.2.2.1 NS.out.1 NS.out.2.2 rfl hown hgrow (fun b q=>q) (fun b q=>by
     rcases hat with e | e
     ·rw [e] at q;exact .inl q
     ·rw [e] at q;injection q with q;exact .inr (by omega))
    have b9:=QW.out.2.2.2.1.grown hgrow QW.out.2.2.2.1.size (fun b q=>Nat.le_trans WB.out (World.ownsRow.lt QW.out.2.1 b q).1)
    have WC:=Lib.hid (WI.out w9 v9 _ D9.chs)
    have B9:=Lib.hid b9
    clear hown hgrow hat D9 b9
    cases hm:Zbk (C1++C2) m0 with
    | none=>
     have hS:=HS.out
     rw [hm] at hS WC
     dsimp only at hS
     subst hS
     clear hm
     go_wp2_with (go_at_call 26;(with_reducible refine WC.out.mono ?_);rintro e10 w10 (⟨m,v10,q,_⟩ | ⟨_,z,hz,rfl,hb10⟩);(next=>cases q))
     go_ret2
     exact Zbe (B9.out.trans (hb10.mono B9.out.size))
    | some m=>
     have hS:=HS.out
     rw [hm] at hS WC
     dsimp only at hS
     subst hS
     clear hm
     go_wp2_with (go_at_call 26;(with_reducible refine WC.out.mono ?_);rintro e10 w10 (⟨m2,v10,q,rfl,hr10,hl10,hk10,hb10⟩ | ⟨q,_⟩);rotate_left;(next=>cases q);injection q with q;subst q;obtain ⟨Am,cm,rfl⟩:=Zd hr10;have FIN:=Lib.hid (show ZbJ w (m,0) (.returned (.tuple #[.slice Am m.length cm,.int .i64 0])) w10 from ⟨Am,cm,rfl,hr10,hk10,B9.out.trans (hb10.mono B9.out.size)⟩);clear hr10 hl10 hk10 hb10)
     go_ret2
     exact FIN.out
theorem ZfY (w:World) (v:Value) (l:List Rw) (h:ZD w v l) (hw:∀ r∈l,ZX r):Calls Tryz.prog 9 #[v] w (ZbJ w (ZbV l)):=by
 by_cases hr:l.length<=400/\l.any ZP=false
 ·exact ZnY w v l h hw hr
 ·have e:ZbV l=([],2):=by
   unfold ZbV ZcX
   rw [if_pos]
   cases q:l.any ZP
   ·exact .inl (by have:¬ l.length<=400:=fun a=>hr ⟨a,q⟩;omega)
   ·exact .inr rfl
  rw [e]
  exact Zm2 w v l h hw hr
end
end Go.Proofs.YtolookeddknmoaaGreat
