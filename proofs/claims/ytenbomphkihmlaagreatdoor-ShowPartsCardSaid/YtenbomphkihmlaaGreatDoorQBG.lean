import Derived.Test.YtenbomphkihmlaaGreatDoorQAB
import Derived.Test.YtenbomphkihmlaaGreatDoorQAS
import Derived.Test.YtenbomphkihmlaaGreatDoorQBF
set_option maxRecDepth 100000
set_option maxHeartbeats 8000000
namespace Go.Proofs.YtenbomphkihmlaaGreatDoor
section
open Go.RowKit
theorem ZaY {w:World} {base n size:Nat} {e:TypeId} {v:Value} {xs:List Value} (h:w.ownsRow base e size v n xs):∃ A c,v=.slice A n c:=by
 rcases h.2 with ⟨rfl,rfl⟩ | ⟨g,cap,cur,rfl,_⟩
 ·exact ⟨_,_,rfl⟩
 ·exact ⟨_,_,rfl⟩
theorem Zbu {w w1:World} {base n size:Nat} {e:TypeId} {v:Value} {xs:List Value} (h:w.ownsRow base e size v n xs) (hb:Below w.heap.size w w1):w1.ownsRow base e size v n xs:=
 h.kept (row:=none) ⟨hb.os,hb.tape,hb.output,hb.size,fun k hk _=>hb.block k hk⟩ (by
  cases q:v.ownBlock with
  | none=>exact .inl rfl
  | some k=>exact .inr (by simp))
theorem ZeX {w:World} {base n size:Nat} {e:TypeId} {A:Option Addr} {c:Nat} {xs:List Value} (h:w.ownsRow base e size (.slice A n c) n xs):n<=c/\c<=maxLen/\ZB w w.heap.size size A n xs:=by
 rcases h.2 with ⟨q,rfl⟩ | ⟨g,cap,cur,q,hb,hg,hnc,hcm,hcs,ht⟩
 ·injection q with q1 q2 q3
  subst q1 q3
  exact ⟨Nat.le_refl _,by decide,⟨h.1,fun hn=>absurd hn (Nat.lt_irrefl _)⟩⟩
 ·injection q with q1 q2 q3
  subst q1 q3
  refine ⟨hnc,hcm,⟨h.1,fun _=>⟨⟨g,0,none⟩,rfl,(Array.getElem?_eq_some_iff.1 hg).1,fun j u hj=>?_⟩⟩⟩
  have hl:=(List.getElem?_eq_some_iff.1 hj).1
  rw [h.1] at hl
  have:=h.cellAt j hl
  rw [hj] at this
  rw [show (⟨g,0,none⟩:Addr).add j=⟨g,j,none⟩ by unfold Addr.add;by_cases e:j=0<;>simp [e]]
  exact this
theorem ZcY {P:Program} {t:TypeId} {z:Option Value} {s b:Nat} (h:(P.info? t).map (fun i=>(i.zero,i.size,i.bytes))=some (z,s,b)):∃ i,P.info? t=some i/\i.zero=z/\i.size=s/\i.bytes=b:=by
 cases q:P.info? t with
 | none=>rw [q] at h;cases h
 | some i=>
  rw [q] at h
  simp only [Option.map_some,Option.some.injEq,Prod.mk.injEq] at h
  exact ⟨i,rfl,h.1,h.2.1,h.2.2⟩
def Zm (w:World) (b:Nat) (ty:TypeId) (cs:Array Value):Prop:=w.heap[b]? = some (.cells cs ty (0,0))
theorem Zm.blk {w:World} {b:Nat} {ty:TypeId} {cs:Array Value} (h:Zm w b ty cs):Blk w b cs:=⟨ty,h⟩
theorem Zm.start (w:World) (cs:Array Value) (ty:TypeId):Zm (w.alloc (.cells cs ty)) w.heap.size ty cs:=heap_alloc_new _ _
theorem Zm.lt {w:World} {b:Nat} {ty:TypeId} {cs:Array Value} (h:Zm w b ty cs):b<w.heap.size:=h.blk.lt
theorem Zm.keep {w w':World} {b:Nat} {ty:TypeId} {cs:Array Value} (h:Zm w b ty cs) (hb:Below w.heap.size w w'):Zm w' b ty cs:=(hb.block b h.lt).trans h
theorem Zm.set {w:World} {b:Nat} {ty:TypeId} {cs:Array Value} (h:Zm w b ty cs) (i:Nat) (v:Value):Zm (w.setCell ⟨b,i,none⟩ v) b ty (cs.setIfInBounds i v):=by
 have hlt:=h.lt
 have h':w.heap[b]=.cells cs ty (0,0):=by
  unfold Zm at h
  simpa [Array.getElem?_eq_getElem hlt] using h
 show (w.heap.modify b _)[b]? = _
 rw [Array.getElem?_eq_getElem (by simpa using hlt),Array.getElem_modify_self,h']
 rfl
theorem Zm.off {w:World} {b base n size:Nat} {ty e:TypeId} {cs:Array Value} {v:Value} {xs:List Value} (h:Zm w b ty cs) (ho:w.ownsRow base e size v n xs) (hne:ty≠e):v.ownBlock≠some b:=by
 rcases ho.2 with ⟨rfl,_⟩ | ⟨g,cap,cur,rfl,_,hg,_⟩
 ·intro q;cases q
 ·intro q
  injection q with q
  dsimp only at q
  subst q
  unfold Zm at h
  rw [hg] at h
  injection h with h
  injection h with _ h _
  exact hne h.symm
theorem Zdr {w:World} {base base' n n' size size':Nat} {e e':TypeId} {v v':Value} {xs xs':List Value} (h:w.ownsRow base e size v n xs) (h':w.ownsRow base' e' size' v' n' xs') (hne:e≠e'):∀ b,v.ownBlock=some b->v'.ownBlock≠some b:=by
 intro b hb
 rcases h.2 with ⟨rfl,_⟩ | ⟨g,cap,cur,rfl,_,hg,_⟩
 ·cases hb
 ·injection hb with hb
  dsimp only at hb
  subst hb
  exact Zm.off (ty:=e) (cs:=cur) hg h' hne
theorem Zm.other {w:World} {b:Nat} {ty:TypeId} {cs:Array Value} (h:Zm w b ty cs) {p:Addr} (hp:p.block≠b) (v:Value):Zm (w.setCell p v) b ty cs:=(heap_setCell_other w p b v (fun e=>hp e.symm)).trans h
theorem Zb4 {w:World} {base n size g j:Nat} {e:TypeId} {v u:Value} {xs:List Value} (h:w.ownsRow base e size v n xs) (hg:v.ownBlock≠some g):(w.setCell ⟨g,j,none⟩ u).ownsRow base e size v n xs:=
 h.kept (row:=some g) ZhX (.inr hg)
end
section
open Go.RowKit
section
variable {ns:List Nd} {W p:List Int}
theorem ZgD (L:Links ns ns.length p):∀ j,j<=ns.length->∃ q,ZaO ns j=some q
 | 0,_=>⟨_,rfl⟩
 | j+1,hj=>by
  obtain ⟨q,hq⟩:=ZgD L j (by omega)
  have M:=Zco ns j q (by omega) hq
  have hd:ns[j]? = some ns[j]:=List.getElem?_eq_getElem (by omega)
  obtain ⟨nd,r⟩:=L.of j _ (by omega) hd
  rw [ZaO,hq,Option.bind_some,Zah hd]
  have ne:¬ (0<j/\atI q (j:Int)<0):=fun ⟨a,b⟩=>by
   obtain ⟨i,d,hi,hdi,e,hm⟩:=L.at_ j (L.each j a (by omega))
   have h1:=ZbP L hdi hm
   have:=((M.of i d (by omega) hdi).2 _ hm).2.2
   omega
  rw [if_neg ne]
  refine ZdV _ _ _ _ M.len nd (fun k hk=>⟨(r k hk).1,(r k hk).2.1,?_⟩)
  refine Int.not_le.mp fun z=>?_
  obtain ⟨a,b,c⟩:=r k hk
  obtain ⟨m,rfl⟩:∃ m:Nat,k=m:=⟨k.toNat,by omega⟩
  obtain ⟨i,d,hi,hdi,_,hm⟩:=M.at_ m z
  have:=(ZbP L hdi hm).2.2
  omega
theorem Zhf (L:Links ns ns.length p) (h0:0<ns.length) (h1:ns.length<=1500):∃ q,ZaL ns=some q:=by
 unfold ZaL
 rw [if_neg (by omega)]
 exact ZgD L _ (Nat.le_refl _)
theorem Zja {l:List Int} {x:Int} (h:x∈l):x<=ZbV l:=by
 cases l with
 | nil=>cases h
 | cons a r=>
  rcases List.mem_cons.mp h with rfl | h
  ·exact ZbB r _ _ (Int.le_refl _)
  ·exact Zdh r _ _ h
theorem Zfi (L:Links ns ns.length p):∀ (f x:Nat),x<ns.length->htF ns f x+atI (Zay p) x<=ZbV (Zay p)+1
 | 0,x,h=>by
  have hm:atI (Zay p) x∈Zay p:=by
   have hl:x<(Zay p).length:=by unfold Zay;rw [ZaW,L.len];exact h
   rw [Za9,List.getElem?_eq_getElem hl]
   exact List.getElem_mem hl
  have:=Zja hm
  rw [htF]
  omega
 | f+1,x,h=>by
  have he:ns[x]? = some ns[x]:=List.getElem?_eq_getElem h
  have base:=Zfi L 0 x h
  rw [htF] at base
  rw [htF,Zah he]
  have:Zc4 (ns[x].kids.map (htF ns f))<=ZbV (Zay p)-atI (Zay p) x:=Zcv _ 0 _ (by omega) (fun y hy=>by
   obtain ⟨k,hk,rfl⟩:=List.mem_map.mp hy
   obtain ⟨k1,k2,k3⟩:=ZbP L he hk
   obtain ⟨k',rfl⟩:∃ k':Nat,k=k':=⟨k.toNat,by omega⟩
   have ih:=Zfi L f k' (by omega)
   have dk:atI (Zay p) k'=1+atI (Zay p) x:=by
    rw [Zgw (by rw [L.len];omega),k3,if_pos (by omega),Zfo (by rw [L.len];omega) (by omega)]
   omega)
  omega
end
end
section
open Go.RowKit
section
variable {ns B:List Nd} {f:Int->Int}
theorem ZdK {t:Int->Bool}:∀ {l:List Int},(∀ c∈l,Zq B (f c)=Zq ns c)->ZQ B (l.map f) t=ZQ ns l t
 | [],_=>rfl
 | c::r,h=>by
  have:=ZdK (t:=t) (l:=r) (fun x hx=>h x (List.mem_cons_of_mem _ hx))
  unfold ZQ at this ⊢
  rw [List.map_cons,List.all_cons,List.all_cons,this,h c List.mem_cons_self]
theorem Zde:∀ {l:List Int} {ts:List (Int->Bool)},(∀ c∈l,Zq B (f c)=Zq ns c)->Zk B (l.map f) ts=Zk ns l ts
 | [],[],_=>rfl
 | [],_::_,_=>rfl
 | _::_,[],_=>rfl
 | c::r,t::ts,h=>by
  rw [List.map_cons,Zk,Zk,Zde (l:=r) (fun x hx=>h x (List.mem_cons_of_mem _ hx)),h c List.mem_cons_self]
theorem Ze0:∀ {l:List Int},(∀ c∈l,Zac B (f c)=Zac ns c)->ZY B (l.map f)=ZY ns l
 | [],_=>rfl
 | [_],_=>rfl
 | a::b::r,h=>by
  have:=Ze0 (l:=b::r) (fun x hx=>h x (List.mem_cons_of_mem _ hx))
  rw [List.map_cons] at this
  rw [List.map_cons,List.map_cons,ZY,ZY,this,h a List.mem_cons_self,h b (List.mem_cons_of_mem _ List.mem_cons_self)]
theorem Zg3 {kd ps:Int} {ws:List (List UInt8)} {nums ks:List Int} (h:∀ c∈ks,Zq B (f c)=Zq ns c/\Zac B (f c)=Zac ns c):Zl B ⟨kd,ws,nums,ks.map f,ps⟩=Zl ns ⟨kd,ws,nums,ks,ps⟩:=by
 have hA:∀ t,ZQ B (ks.map f) t=ZQ ns ks t:=fun t=>ZdK (fun c hc=>(h c hc).1)
 have hR:∀ ts,Zk B (ks.map f) ts=Zk ns ks ts:=fun ts=>Zde (fun c hc=>(h c hc).1)
 have hA2:∀ m t,ZQ B ((ks.map f).take m) t=ZQ ns (ks.take m) t:=fun m t=>by rw [<- List.map_take];exact ZdK (fun c hc=>(h c (List.mem_of_mem_take hc)).1)
 have hR2:∀ m ts,Zk B ((ks.map f).drop m) ts=Zk ns (ks.drop m) ts:=fun m ts=>by rw [<- List.map_drop];exact Zde (fun c hc=>(h c (List.mem_of_mem_drop hc)).1)
 have hI:ZY B (ks.map f)=ZY ns ks:=Ze0 (fun c hc=>(h c hc).2)
 have hC:Za7 B ⟨kd,ws,nums,ks.map f,ps⟩=Za7 ns ⟨kd,ws,nums,ks,ps⟩:=by
  unfold Za7 ZbI num
  dsimp only
  rw [hA,hI]
 have hP:Zcp B ⟨kd,ws,nums,ks.map f,ps⟩=Zcp ns ⟨kd,ws,nums,ks,ps⟩:=by
  unfold Zcp ZbI num
  dsimp only
  rw [hR,hR]
  cases ks with
  | nil=>rfl
  | cons c r=>
   have:Zac B (atI ((c::r).map f) 0)=Zac ns (atI (c::r) 0):=(h c List.mem_cons_self).2
   rw [this]
 unfold Zl Zo num
 dsimp only
 simp only [hA,hR,hA2,hR2,hC,hP,List.length_map]
end
section
variable {ns:List Nd} {W p:List Int}
theorem Zc9 (h:ZaI ns=true):∃ p,ZaL ns=some p/\Zq ns 0=0/\ZbV (Zay p)<=24/\∀ d∈ns,Zw ns d=true:=by
 unfold ZaI at h
 split at h
 ·cases h
 ·rename_i p hp
  rw [Bool.and_eq_true,Bool.and_eq_true,decide_eq_true_eq,beq_iff_eq,List.all_eq_true] at h
  exact ⟨p,hp,h.1.1,h.1.2,h.2⟩
end
end
section
open Go.RowKit
def shD (s:Int) (d:Nd):Nd:=⟨d.kind,d.words,d.nums,d.kids.map (·+s),d.pos⟩
def ZaF (a b:List Nd):List Nd:=match a,b with
 | x::r,y::q=>⟨x.kind,x.words,x.nums,x.kids++y.kids.map (·+(r.length:Int)),x.pos⟩::(r++q.map (shD r.length))
 | _,_=>[]
section
variable {a b:List Nd} {x y:Nd} {r q:List Nd}
theorem ZdU:(ZaF (x::r) (y::q)).length=r.length+q.length+1:=by simp [ZaF]
theorem ZbC:(ZaF (x::r) (y::q))[0]? = some ⟨x.kind,x.words,x.nums,x.kids++y.kids.map (·+(r.length:Int)),x.pos⟩:=rfl
theorem ZcA {i:Nat} (h1:1<=i) (h2:i<=r.length):(ZaF (x::r) (y::q))[i]? = (x::r)[i]?:=by
 obtain ⟨i,rfl⟩:∃ j,i=j+1:=⟨i-1,by omega⟩
 show (r++q.map (shD r.length))[i]? = r[i]?
 rw [List.getElem?_append_left (by omega)]
theorem Zcm {j:Nat} (h1:1<=j):(ZaF (x::r) (y::q))[j+r.length]? = ((y::q)[j]?).map (shD r.length):=by
 obtain ⟨j,rfl⟩:∃ k,j=k+1:=⟨j-1,by omega⟩
 rw [show j+1+r.length=(j+r.length)+1 by omega]
 show (r++q.map (shD r.length))[j+r.length]? = (q[j]?).map (shD r.length)
 rw [List.getElem?_append_right (by omega),Nat.add_sub_cancel,List.getElem?_map]
def Zcl (p1 p2:List Int) (s:Int):List Int:=p1++(p2.drop 1).map fun z=>if z=0 then 0 else z+s
theorem ZgU {p1 p2:List Int} {s:Int} {k:Nat} (h:k<p1.length):atI (Zcl p1 p2 s) k=atI p1 k:=by
 rw [Za9,Za9]
 unfold Zcl
 rw [List.getElem?_append_left h]
theorem Zf6 {p1 p2:List Int} {s:Int} {j:Nat} (h1:1<=j) (h2:j<p2.length) (hl:p1.length=s.toNat+1):atI (Zcl p1 p2 s) ((j+s.toNat:Nat):Int)=if atI p2 j=0 then 0 else atI p2 j+s:=by
 rw [Za9,Za9]
 unfold Zcl
 rw [List.getElem?_append_right (by omega),List.getElem?_map,List.getElem?_drop,show 1+(j+s.toNat-p1.length)=j by omega,List.getElem?_eq_getElem h2]
 rfl
theorem ZeR (s:Int) {l:List Int} (h:l.Nodup):(l.map (·+s)).Nodup:=by
 unfold List.Nodup at *
 rw [List.pairwise_map]
 exact h.imp fun n e=>n (by omega)
theorem ZgV {p1 p2:List Int} (L1:Links (x::r) (x::r).length p1) (L2:Links (y::q) (y::q).length p2):Links (ZaF (x::r) (y::q)) (ZaF (x::r) (y::q)).length (Zcl p1 p2 r.length):=by
 have n1:=L1.len
 have n2:=L2.len
 simp only [List.length_cons] at n1 n2
 have jl:=ZdU (x:=x) (y:=y) (r:=r) (q:=q)
 have left:∀ k:Nat,k<r.length+1->atI (Zcl p1 p2 r.length) k=atI p1 k:=fun k h=>ZgU (by omega)
 have right:∀ j:Nat,1<=j->j<q.length+1->atI (Zcl p1 p2 r.length) ((j+r.length:Nat):Int)=if atI p2 j=0 then 0 else atI p2 j+r.length:=fun j h1 h2=>by
  have:=Zf6 (p1:=p1) (p2:=p2) (s:=(r.length:Int)) h1 (by omega) (by simp;omega)
  simpa using this
 have r1:=L1.of 0 x (by simp) rfl
 have r2:=L2.of 0 y (by simp) rfl
 refine ⟨by rw [jl];simp [Zcl];omega,fun i d hi hd=>?_,fun m hm=>?_,fun m h0 h1=>?_⟩
 ·rcases Nat.eq_zero_or_pos i with rfl | hp
  ·obtain rfl:=Option.some.inj (ZbC.symm.trans hd)
   refine ⟨List.nodup_append.2 ⟨r1.1,ZeR _ r2.1,fun u hu v hv e=>?_⟩,fun k hk=>?_⟩
   ·obtain ⟨v2,hv2,e2⟩:=List.mem_map.1 hv
    have:=r1.2 u hu
    have:=r2.2 v2 hv2
    simp only [List.length_cons] at *
    omega
   ·rcases List.mem_append.1 hk with hk | hk
    ·have h:=r1.2 k hk
     simp only [List.length_cons] at h
     obtain ⟨k,rfl⟩:=Int.eq_ofNat_of_zero_le (show 0<=k by omega)
     rw [left k (by omega)]
     exact ⟨by omega,by rw [jl];omega,h.2.2⟩
    ·obtain ⟨v,hv,rfl⟩:=List.mem_map.1 hk
     have h:=r2.2 v hv
     simp only [List.length_cons] at h
     obtain ⟨v,rfl⟩:=Int.eq_ofNat_of_zero_le (show 0<=v by omega)
     have e:=right v (by omega) (by omega)
     push_cast at e
     rw [e,h.2.2,if_pos (by rfl)]
     exact ⟨by omega,by rw [jl];push_cast;omega,rfl⟩
  ·by_cases hr:i<=r.length
   ·rw [ZcA hp hr] at hd
    obtain ⟨g1,g2⟩:=L1.of i d (by simp;omega) hd
    refine ⟨g1,fun k hk=>?_⟩
    have h:=g2 k hk
    simp only [List.length_cons] at h
    obtain ⟨k,rfl⟩:=Int.eq_ofNat_of_zero_le (show 0<=k by omega)
    rw [left k (by omega)]
    exact ⟨h.1,by rw [jl];omega,h.2.2⟩
   ·obtain ⟨j,rfl⟩:∃ j,i=j+r.length:=⟨i-r.length,by omega⟩
    rw [Zcm (by omega)] at hd
    obtain ⟨d,hd2,rfl⟩:=Option.map_eq_some_iff.1 hd
    obtain ⟨g1,g2⟩:=L2.of j d (List.getElem?_eq_some_iff.1 hd2).1 hd2
    refine ⟨ZeR _ g1,fun k hk=>?_⟩
    obtain ⟨v,hv,rfl⟩:=List.mem_map.1 hk
    have h:=g2 v hv
    simp only [List.length_cons] at h
    obtain ⟨v,rfl⟩:=Int.eq_ofNat_of_zero_le (show 0<=v by omega)
    have e:=right v (by omega) (by omega)
    push_cast at e
    rw [e,h.2.2,if_neg (by omega)]
    exact ⟨by push_cast;omega,by rw [jl];push_cast;omega,by push_cast;rfl⟩
 ·have ml:m<r.length+q.length+1:=by
   rcases Nat.lt_or_ge m (r.length+q.length+1) with h | h
   ·exact h
   ·exfalso
    rw [Za9,List.getElem?_eq_none (by simp [Zcl];omega)] at hm
    simp at hm
  by_cases hr:m<=r.length
  ·rw [left m (by omega)] at hm ⊢
   obtain ⟨i,d,hi,hd,e,hk⟩:=L1.at_ m hm
   simp only [List.length_cons] at hi
   rcases Nat.eq_zero_or_pos i with rfl | hp
   ·obtain rfl:x=d:=by simpa using hd
    exact ⟨0,_,by rw [jl];omega,ZbC,e,List.mem_append_left _ hk⟩
   ·exact ⟨i,d,by rw [jl];omega,by rw [ZcA hp (by omega)];exact hd,e,hk⟩
  ·obtain ⟨j,rfl⟩:∃ j,m=j+r.length:=⟨m-r.length,by omega⟩
   have e0:=right j (by omega) (by omega)
   have pz:=L2.each j (by omega) (by simp;omega)
   obtain ⟨i,d,hi,hd,e,hk⟩:=L2.at_ j pz
   simp only [List.length_cons] at hi
   rw [e0]
   rcases Nat.eq_zero_or_pos i with rfl | hp
   ·obtain rfl:y=d:=by simpa using hd
    refine ⟨0,_,by rw [jl];omega,ZbC,by rw [e];rfl,List.mem_append_right _ (List.mem_map.2 ⟨_,hk,by push_cast;rfl⟩)⟩
   ·refine ⟨i+r.length,_,by rw [jl];omega,by rw [Zcm hp,hd];rfl,by rw [e,if_neg (by omega)];push_cast;rfl,List.mem_map.2 ⟨_,hk,by push_cast;rfl⟩⟩
 ·by_cases hr:m<=r.length
  ·rw [left m (by omega)]
   exact L1.each m h0 (by simp;omega)
  ·obtain ⟨j,rfl⟩:∃ j,m=j+r.length:=⟨m-r.length,by omega⟩
   rw [jl] at h1
   have:=L2.each j (by omega) (by simp;omega)
   rw [right j (by omega) (by omega)]
   split<;>omega
def Emb (ns B:List Nd) (s:Int):Prop:=∀ k:Int,1<=k->k<ns.length->Ze B (k+s)=shD s (Ze ns k)
theorem ZcV:Emb (x::r) (ZaF (x::r) (y::q)) 0:=fun k h1 h2=>by
 obtain ⟨k,rfl⟩:=Int.eq_ofNat_of_zero_le (show 0<=k by omega)
 simp only [List.length_cons] at h2
 have hd:(x::r)[k]? = some ((x::r)[k]'(by simp;omega)):=List.getElem?_eq_getElem _
 rw [Int.add_zero,Zah hd,Zah ((ZcA (by omega) (by omega)).trans hd)]
 generalize (x::r)[k]'(by simp;omega)=d
 cases d
 simp [shD]
theorem Zcz:Emb (y::q) (ZaF (x::r) (y::q)) r.length:=fun k h1 h2=>by
 obtain ⟨k,rfl⟩:=Int.eq_ofNat_of_zero_le (show 0<=k by omega)
 simp only [List.length_cons] at h2
 have hd:(y::q)[k]? = some ((y::q)[k]'(by simp;omega)):=List.getElem?_eq_getElem _
 have:=Zcm (x:=x) (r:=r) (y:=y) (q:=q) (j:=k) (by omega)
 rw [hd] at this
 rw [Zah hd,<- Zah this]
 push_cast
 rfl
theorem Zfs {ns B:List Nd} {s:Int} (E:Emb ns B s) (hI:ZcL ns):∀ (f i:Nat),1<=i->i<ns.length->htF B f (i+s)=htF ns f i
 | 0,i,_,_=>rfl
 | f+1,i,h1,h2=>by
  have hd:ns[i]? = some ns[i]:=List.getElem?_eq_getElem h2
  rw [htF,htF,E i (by omega) (by omega),Zah hd]
  congr 2
  show (ns[i].kids.map (·+s)).map (htF B f)=ns[i].kids.map (htF ns f)
  rw [List.map_map]
  refine List.map_congr_left fun k hk=>?_
  obtain ⟨g1,g2⟩:=hI i _ hd k hk
  obtain ⟨k,rfl⟩:=Int.eq_ofNat_of_zero_le (show 0<=k by omega)
  exact Zfs E hI f k (by omega) (by omega)
theorem ZdP {ns B:List Nd} {s:Int} (E:Emb ns B s) {k:Int} (h1:1<=k) (h2:k<ns.length):Zq B (k+s)=Zq ns k/\Zac B (k+s)=Zac ns k:=by
 unfold Zq Zac
 rw [E k h1 h2]
 exact ⟨rfl,rfl⟩
theorem ZeK {ns B:List Nd} {s:Int} (E:Emb ns B s) (hI:ZcL ns) {i:Nat} {d:Nd} (hd:ns[i]? = some d) (h:Zw ns d=true):Zw B (shD s d)=true:=by
 obtain ⟨kd,ws,nums,ks,ps⟩:=d
 unfold Zw at h ⊢
 have e:Zl B (shD s ⟨kd,ws,nums,ks,ps⟩)=Zl ns ⟨kd,ws,nums,ks,ps⟩:=Zg3 (f:=(·+s)) fun k hk=>by
  obtain ⟨g1,g2⟩:=hI i _ hd k hk
  exact ZdP E (by omega) g2
 rw [e]
 exact h
theorem ZhW (l m:List Int) (z:Int):(l++m).foldl max z=max (l.foldl max z) (m.foldl max z):=by
 rw [List.foldl_append]
 induction m generalizing z l with
 | nil=>
  simp only [List.foldl_nil]
  have:=ZbB l z z (Int.le_refl _)
  omega
 | cons u v ih=>
  have:=ih (l++[u]) z
  simp only [List.foldl_append,List.foldl_cons,List.foldl_nil] at this
  rw [List.foldl_cons,this]
  simp only [List.foldl_cons]
  have a1:=ZbB l z z (Int.le_refl _)
  have key:∀ (v:List Int) (z u:Int),v.foldl max (max z u)=max (v.foldl max z) u:=fun v=>by
   induction v with
   | nil=>intro z u;rfl
   | cons w t it=>intro z u;rw [List.foldl_cons,List.foldl_cons,show max (max z u) w=max (max z w) u by omega,it]
  rw [key v z u]
  have:=ZbB v z z (Int.le_refl _)
  omega
theorem Zd9 (ha:ZaI (x::r)=true) (hb:ZaI (y::q)=true) (hl:r.length+q.length+1<=1500):ZaI (ZaF (x::r) (y::q))=true:=by
 obtain ⟨p1,hp1,k1,d1,v1⟩:=Zc9 ha
 obtain ⟨p2,hp2,k2,d2,v2⟩:=Zc9 hb
 have L1:=ZbE hp1
 have L2:=ZbE hp2
 have L:=ZgV L1 L2
 have jl:=ZdU (x:=x) (y:=y) (r:=r) (q:=q)
 obtain ⟨p,hp⟩:=Zhf L (by rw [jl];omega) (by rw [jl];omega)
 have I1:ZcL (x::r):=fun i d hd k hk=>ZdA hp1 hd k hk
 have I2:ZcL (y::q):=fun i d hd k hk=>ZdA hp2 hd k hk
 have kx:x.kind=0:=k1
 have ky:y.kind=0:=k2
 have z1:atI (Zay p1) (0:Nat)=1:=by
  have:=Zfr L1 0 (by simp)
  omega
 have z2:atI (Zay p2) (0:Nat)=1:=by
  have:=Zfr L2 0 (by simp)
  omega
 have hd:htF (ZaF (x::r) (y::q)) (ZaF (x::r) (y::q)).length 0<=24:=by
  rw [jl,htF]
  have e1:=Zfi L1 (r.length+q.length+1) 0 (by simp)
  have e2:=Zfi L2 (r.length+q.length+1) 0 (by simp)
  rw [htF] at e1 e2
  have n0:Ze (ZaF (x::r) (y::q)) 0=⟨x.kind,x.words,x.nums,x.kids++y.kids.map (·+(r.length:Int)),x.pos⟩:=Zah (k:=0) ZbC
  have n1:Ze (x::r) ((0:Nat):Int)=x:=Zah (k:=0) rfl
  have n2:Ze (y::q) ((0:Nat):Int)=y:=Zah (k:=0) rfl
  rw [n1] at e1
  rw [n2] at e2
  rw [n0]
  show Zc4 ((x.kids++y.kids.map (·+(r.length:Int))).map (htF (ZaF (x::r) (y::q)) (r.length+q.length)))+1<=24
  have m1:x.kids.map (htF (ZaF (x::r) (y::q)) (r.length+q.length))=x.kids.map (htF (x::r) (r.length+q.length)):=List.map_congr_left fun k hk=>by
   obtain ⟨g1,g2⟩:=I1 0 x rfl k hk
   obtain ⟨k,rfl⟩:=Int.eq_ofNat_of_zero_le (show 0<=k by omega)
   have:=Zfs (ZcV (x:=x) (r:=r) (y:=y) (q:=q)) I1 (r.length+q.length) k (by omega) (by omega)
   rwa [Int.add_zero] at this
  have m2:(y.kids.map (·+(r.length:Int))).map (htF (ZaF (x::r) (y::q)) (r.length+q.length))=y.kids.map (htF (y::q) (r.length+q.length)):=by
   rw [List.map_map]
   refine List.map_congr_left fun k hk=>?_
   obtain ⟨g1,g2⟩:=I2 0 y rfl k hk
   obtain ⟨k,rfl⟩:=Int.eq_ofNat_of_zero_le (show 0<=k by omega)
   exact Zfs (Zcz (x:=x) (r:=r) (y:=y) (q:=q)) I2 (r.length+q.length) k (by omega) (by omega)
  rw [List.map_append,m1,m2]
  unfold Zc4 at *
  rw [ZhW]
  omega
 unfold ZaI
 rw [hp]
 dsimp only
 have dl:=ZhK (ZbE hp)
 rw [show Zq (ZaF (x::r) (y::q)) 0=0 from (Zbi (k:=0) ZbC).trans kx,decide_eq_true (by omega)]
 simp only [BEq.rfl,Bool.true_and]
 refine List.all_eq_true.mpr fun d hd=>?_
 obtain ⟨i,hi⟩:=List.mem_iff_getElem?.mp hd
 rcases Nat.eq_zero_or_pos i with rfl | hp0
 ·obtain rfl:=Option.some.inj (ZbC.symm.trans hi)
  have w1:=v1 x (by simp)
  have w2:=v2 y (by simp)
  have f1:Zl (x::r) x=(Zo x 0 0&&ZQ (x::r) x.kids (isB [1,4])):=by unfold Zl;rw [if_pos kx]
  have f2:Zl (y::q) y=(Zo y 0 0&&ZQ (y::q) y.kids (isB [1,4])):=by unfold Zl;rw [if_pos ky]
  unfold Zw at w1 w2 ⊢
  rw [f1] at w1
  rw [f2] at w2
  simp only [Bool.and_eq_true] at w1 w2
  have f3:Zl (ZaF (x::r) (y::q)) ⟨x.kind,x.words,x.nums,x.kids++y.kids.map (·+(r.length:Int)),x.pos⟩=(Zo x 0 0&&ZQ (ZaF (x::r) (y::q)) (x.kids++y.kids.map (·+(r.length:Int))) (isB [1,4])):=by unfold Zl;rw [if_pos kx];rfl
  rw [f3]
  simp only [Bool.and_eq_true]
  refine ⟨w1.1,w1.2.1,List.all_eq_true.mpr fun k hk=>?_⟩
  rcases List.mem_append.1 hk with hk | hk
  ·obtain ⟨g1,g2⟩:=I1 0 x rfl k hk
   have:=(ZdP (ZcV (x:=x) (r:=r) (y:=y) (q:=q)) (k:=k) (by omega) g2).1
   rw [Int.add_zero] at this
   rw [this]
   exact List.all_eq_true.mp w1.2.2 k hk
  ·obtain ⟨k,hk2,rfl⟩:=List.mem_map.1 hk
   obtain ⟨g1,g2⟩:=I2 0 y rfl k hk2
   rw [(ZdP (Zcz (x:=x) (r:=r) (y:=y) (q:=q)) (k:=k) (by omega) g2).1]
   exact List.all_eq_true.mp w2.2.2 k hk2
 ·by_cases hr:i<=r.length
  ·rw [ZcA hp0 hr] at hi
   have:=ZeK (ZcV (x:=x) (r:=r) (y:=y) (q:=q)) I1 hi (v1 d (List.mem_of_getElem? hi))
   have e:shD 0 d=d:=by cases d;simp [shD]
   rwa [e] at this
  ·obtain ⟨j,rfl⟩:∃ j,i=j+r.length:=⟨i-r.length,by omega⟩
   rw [Zcm (by omega)] at hi
   obtain ⟨d,hi2,rfl⟩:=Option.map_eq_some_iff.1 hi
   exact ZeK (Zcz (x:=x) (r:=r) (y:=y) (q:=q)) I2 hi2 (v2 d (List.mem_of_getElem? hi2))
end
end
section
open Go.RowKit
def NdJ (W wr:World) (x:NdV×Nd):Prop:=Zbf W x.1.1 x.2.words/\Zad W x.1.2.1 x.2.nums/\(Zad W x.1.2.2 x.2.kids\/wr.ownsRow W.heap.size 3 1 x.1.2.2 x.2.kids.length (x.2.kids.map (Value.int .i64)))
theorem Zi2 {w:World} {base:Nat} {v:Value} {l:List Int} (h:w.ownsRow base 3 1 v l.length (l.map (Value.int .i64))):Zad w v l:=by
 obtain ⟨A,c,rfl⟩:=ZaY h
 obtain ⟨h1,h2,h3⟩:=ZeX h
 exact ⟨A,c,rfl,h1,h2,h3⟩
theorem NdJ.at_ {W wr:World} {x:NdV×Nd} (h:NdJ W wr x) (hb:Below W.heap.size W wr):Zv wr x:=by
 refine ⟨h.1.below hb,h.2.1.below hb,?_⟩
 rcases h.2.2 with k | k
 ·exact k.below hb
 ·exact Zi2 k
theorem NdJ.keep {W wr w':World} {x:NdV×Nd} (h:NdJ W wr x) (hb:Below wr.heap.size wr w'):NdJ W w' x:=
 ⟨h.1,h.2.1,h.2.2.imp id fun k=>Zbu k hb⟩
theorem NdJ.grown {W wr w':World} {x:NdV×Nd} {v:Value} {n base:Nat} {xs:List Value} (h:NdJ W wr x) (ho:wr.ownsRow base 29 5 v n xs) (hg:wr.grownBy w' v.ownBlock):NdJ W w' x:=
 ⟨h.1,h.2.1,h.2.2.imp id fun k=>k.kept hg (by
  cases q:x.1.2.2.ownBlock with
  | none=>exact .inl rfl
  | some b=>exact .inr fun e=>Zdr k ho (by decide) b q e.symm)⟩
structure RowJ (W wr:World) (v:Value) (rs:List (NdV×Nd)):Prop where
 own:wr.ownsRow W.heap.size 29 5 v rs.length (ZL rs)
 each:∀ x∈rs,NdJ W wr x
 below:Below W.heap.size W wr
theorem RowJ.keep {W wr w':World} {v:Value} {rs:List (NdV×Nd)} (h:RowJ W wr v rs) (hb:Below wr.heap.size wr w'):RowJ W w' v rs:=
 ⟨Zbu h.own hb,fun x hx=>(h.each x hx).keep hb,h.below.trans (hb.mono h.below.size)⟩
theorem RowJ.push {W wr w':World} {v v':Value} {rs:List (NdV×Nd)} {x:NdV×Nd} (h:RowJ W wr v rs) (hx:NdJ W wr x) (hown:w'.ownsRow W.heap.size 29 5 v' (rs.length+1) (ZL rs++ZL [x])) (hg:wr.grownBy w' v.ownBlock):RowJ W w' v' (rs++[x]):=by
 refine ⟨by rw [List.length_append,Zcx];exact hown,fun y hy=>?_,ZcO hg h.below.size (fun k hk=>(h.own.lt k hk).1) |> h.below.trans⟩
 rcases List.mem_append.mp hy with hy | hy
 ·exact (h.each y hy).grown h.own hg
 ·rw [List.mem_singleton] at hy
  subst hy
  exact hx.grown h.own hg
theorem RowJ.nodes {W wr:World} {v:Value} {rs:List (NdV×Nd)} (h:RowJ W wr v rs):Zf wr v (rs.map (·.2)):=by
 obtain ⟨A,c,rfl⟩:=ZaY h.own
 obtain ⟨h1,h2,h3⟩:=ZeX h.own
 exact ⟨A,c,rs,by rw [List.length_map],by rw [List.length_map];exact h1,h2,rfl,by rw [List.length_map];exact h3,fun x hx=>(h.each x hx).at_ h.below⟩
theorem take_set {α:Type} (l:List α) (n i:Nat) (a:α):(l.set i a).take n=(l.take n).set i a:=by
 rw [List.take_set]
theorem RowJ.root {W wr:World} {g c n:Nat} {x:NdV×Nd} {rs:List (NdV×Nd)} {rv:Value} {ks:List Int} (h:RowJ W wr (.slice (some ⟨g,0,none⟩) n c) (x::rs)) (hr:wr.ownsRow W.heap.size 3 1 rv ks.length (ks.map (Value.int .i64))) :
  RowJ W (wr.setCell ⟨g,3,none⟩ rv) (.slice (some ⟨g,0,none⟩) n c) (((x.1.1,x.1.2.1,rv),⟨x.2.kind,x.2.words,x.2.nums,ks,x.2.pos⟩)::rs)/\∃ cur,Zm wr g 29 cur/\3<cur.size:=by
 have hb0:=(h.own.lt g rfl).1
 have off:=Zdr h.own hr (by decide) g rfl
 have B:=h.own
 obtain ⟨B1,⟨q,_⟩ | ⟨g',cap,cur,q,hb,hg,hnc,hcm,hcs,ht⟩⟩:=B
 ·cases q
 ·injection q with q1 q2 q3
  injection q1 with q1
  injection q1 with q1
  subst q1 q3
  have hn:1<=(x::rs).length:=by simp
  have T:Zm wr g 29 cur:=hg
  refine ⟨⟨?_,?_,h.below.setCell hb0 _⟩,cur,T,by rw [hcs];omega⟩
  ·refine ⟨by simpa [ZL] using B1,.inr ⟨g,c,cur.setIfInBounds 3 rv,by rw [q2];rfl,hb,T.set 3 rv,hnc,hcm,by rw [Array.size_setIfInBounds];exact hcs,?_⟩⟩
   rw [Array.toList_setIfInBounds,take_set]
   have e:(((x.1.1,x.1.2.1,rv),(⟨x.2.kind,x.2.words,x.2.nums,ks,x.2.pos⟩:Nd))::rs).length=(x::rs).length:=rfl
   rw [e,ht]
   rfl
  ·intro y hy
   have keep:∀ z∈x::rs,NdJ W (wr.setCell ⟨g,3,none⟩ rv) z:=fun z hz=>by
    obtain ⟨z1,z2,z3⟩:=h.each z hz
    exact ⟨z1,z2,z3.imp id fun k=>Zb4 k (Zdr h.own k (by decide) g rfl)⟩
   rcases List.mem_cons.mp hy with rfl | hy
   ·obtain ⟨z1,z2,_⟩:=keep x (by simp)
    exact ⟨z1,z2,.inr (Zb4 hr off)⟩
   ·exact keep y (by simp [hy])
theorem Zky:(Tryz.prog.info? 29).map (fun i=>(i.zero,i.size,i.bytes))=some (some (.agg #[.int .i64 0,.slice none 0 0,.slice none 0 0,.slice none 0 0,.int .i64 0]),5,88):=by kernel_rfl
theorem Zkx:(Tryz.prog.info? 3).map (fun i=>(i.zero,i.size,i.bytes))=some (some (.int .i64 0),1,8):=by kernel_rfl
theorem ZeL (w:World) (ty:TypeId) (size:Nat):(w.alloc (.cells #[] ty)).ownsRow w.heap.size ty size (.slice (some ⟨w.heap.size,0,none⟩) 0 0) 0 []:=
 ⟨by simp,.inr ⟨_,0,#[],rfl,Nat.le_refl _,Zm.start w #[] ty,Nat.le_refl _,by decide,by simp,by simp⟩⟩
theorem Zdg:∀ (rs:List (NdV×Nd)),(∀ x∈rs,∃ W wr,NdJ W wr x)->∀ u∈ZL rs,u.oneCell'=true
 | [],_,u,hu=>by cases hu
 | x::r,h,u,hu=>by
  obtain ⟨W,wr,h1,h2,h3⟩:=h x (by simp)
  obtain ⟨_,_,e1,_⟩:=h1
  obtain ⟨_,_,e2,_⟩:=h2
  have e3:∃ A n c,x.1.2.2=.slice A n c:=by
   rcases h3 with ⟨A,c,e,_⟩ | k
   ·exact ⟨A,_,c,e⟩
   ·obtain ⟨A,c,e⟩:=ZaY k
    exact ⟨A,_,c,e⟩
  obtain ⟨_,_,_,e3⟩:=e3
  unfold ZL at hu
  rw [e1,e2,e3] at hu
  rcases List.mem_cons.1 hu with rfl | hu
  ·rfl
  rcases List.mem_cons.1 hu with rfl | hu
  ·rfl
  rcases List.mem_cons.1 hu with rfl | hu
  ·rfl
  rcases List.mem_cons.1 hu with rfl | hu
  ·rfl
  rcases List.mem_cons.1 hu with rfl | hu
  ·rfl
  exact Zdg r (fun y hy=>h y (by simp [hy])) u hu
end
end Go.Proofs.YtenbomphkihmlaaGreatDoor
