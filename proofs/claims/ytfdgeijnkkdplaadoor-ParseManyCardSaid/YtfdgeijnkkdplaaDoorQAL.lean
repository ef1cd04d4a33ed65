import Derived.Test.YtfdgeijnkkdplaaDoorQAK
set_option maxRecDepth 100000
set_option maxHeartbeats 8000000
namespace Go.Proofs.YtfdgeijnkkdplaaDoor
section
open Go Go.RowKit
def ZE (x:Nat->Value):Nat->List (Option Nat)->Act->Act
 | _,[],a=>a
 | i,d::r,a=>ZE x (i+1) r (a.put d (x i))
def ZdB (x:Nat->Value) (j:Nat) (v:Value):Nat->Value:=fun i=>if i=j then v else x i
theorem Zda (x:Nat->Value) (j:Nat) (v:Value):ZdB x j v j=v:=if_pos rfl
theorem ZcL (x:Nat->Value) {j i:Nat} (v:Value) (h:i≠j):ZdB x j v i=x i:=if_neg h
theorem Zl8 {a:Act} {d:Option Nat} {u v:Value}:(a.put d u).put d v=a.put d v:=by
 cases d with
 | none=>rfl
 | some d=>simp [Act.put]
theorem ZkN {a:Act} {d e:Option Nat} {u v:Value} (h:∀ t,d=some t->e≠some t):(a.put d u).put e v=(a.put e v).put d u:=by
 cases d with
 | none=>rfl
 | some d=>
  cases e with
  | none=>rfl
  | some e=>
   have hne:d≠e:=fun q=>h d rfl (by rw [q])
   simp only [Act.put]
   congr 1
   exact Array.setIfInBounds_comm u v hne
def Zbc:List (Option Nat)->Bool
 | []=>true
 | d::r=>(match d with | none=>true | some t=>!(r.contains (some t)))&&Zbc r
theorem Zfk {d:Option Nat} {r:List (Option Nat)} (h:Zbc (d::r)=true):∀ t,d=some t->some t ∉ r:=by
 intro t e hm
 subst e
 unfold Zbc at h
 simp [hm] at h
theorem Zfl {d:Option Nat} {r:List (Option Nat)} (h:Zbc (d::r)=true):Zbc r=true:=by
 unfold Zbc at h
 rw [Bool.and_eq_true] at h
 exact h.2
theorem ZeL {x y:Nat->Value}:∀ (ds:List (Option Nat)) (i:Nat) (a:Act),(∀ j,i<=j->x j=y j)->ZE x i ds a=ZE y i ds a
 | [],_,_,_=>rfl
 | d::r,i,a,h=>by
  unfold ZE
  rw [h i (Nat.le_refl _)]
  exact ZeL r (i+1) _ (fun j hj=>h j (by omega))
theorem ZdR {x:Nat->Value} {d:Option Nat} {v:Value}:∀ (ds:List (Option Nat)) (i:Nat) (a:Act),(∀ t,d=some t->some t ∉ ds)->(ZE x i ds a).put d v=ZE x i ds (a.put d v)
 | [],_,_,_=>rfl
 | e::r,i,a,h=>by
  unfold ZE
  rw [ZdR r (i+1) _ (fun t ht hm=>h t ht (.tail _ hm)),ZkN (fun t ht hd=>h t hd (by rw [<- ht];exact .head _))]
theorem Zgj {x:Nat->Value} {v:Value}:∀ (ds:List (Option Nat)) (i j:Nat) (a:Act),Zbc ds=true->j<ds.length->(ZE x i ds a).put (ds.getD j none) v=ZE (ZdB x (i+j) v) i ds a
 | [],_,_,_,_,hj=>by simp at hj
 | d::r,i,0,a,h,_=>by
  show (ZE x (i+1) r (a.put d (x i))).put d v=ZE (ZdB x i v) (i+1) r (a.put d (ZdB x i v i))
  rw [ZdR r (i+1) _ (Zfk h),Zl8,Zda]
  exact ZeL r (i+1) _ (fun j hj=>(ZcL x v (by omega)).symm)
 | d::r,i,j+1,a,h,hj=>by
  show (ZE x (i+1) r (a.put d (x i))).put (r.getD j none) v=ZE (ZdB x (i+(j+1)) v) (i+1) r (a.put d (ZdB x (i+(j+1)) v i))
  rw [Zgj r (i+1) j _ (Zfl h) (by simpa using hj),ZcL x v (by omega),show i+1+j=i+(j+1) by omega]
theorem Zhh {a:Act} {d:Option Nat} {v:Value} {t:Nat} (h:d≠some t):(a.put d v).eval (.tmp t)=a.eval (.tmp t):=by
 cases d with
 | none=>rfl
 | some d=>
  have:d≠t:=fun q=>h (by rw [q])
  simp [Act.put,Act.eval,Array.getD_eq_getD_getElem?,this]
theorem ZM {x:Nat->Value} {t:Nat}:∀ (ds:List (Option Nat)) (i:Nat) (a:Act),some t ∉ ds->(ZE x i ds a).eval (.tmp t)=a.eval (.tmp t)
 | [],_,_,_=>rfl
 | d::r,i,a,h=>by
  unfold ZE
  rw [ZM r (i+1) _ (fun hm=>h (.tail _ hm)),Zhh (fun e=>h (by rw [e];exact .head _))]
theorem size_put (a:Act) (d:Option Nat) (v:Value):(a.put d v).tmps.size=a.tmps.size:=by cases d<;>simp [Act.put]
theorem Ze {x:Nat->Value} {t:Nat}:∀ (ds:List (Option Nat)) (i j:Nat) (a:Act),Zbc ds=true->ds[j]? = some (some t)->t<a.tmps.size->(ZE x i ds a).eval (.tmp t)=x (i+j)
 | [],_,_,_,_,h,_=>by simp at h
 | d::r,i,0,a,h,hj,ht=>by
  obtain rfl:d=some t:=by simpa using hj
  unfold ZE
  rw [ZM r (i+1) _ (Zfk h t rfl)]
  simp [Act.put,Act.eval,ht]
 | d::r,i,j+1,a,h,hj,ht=>by
  unfold ZE
  rw [Ze r (i+1) j _ (Zfl h) (by simpa using hj) (by rw [size_put];exact ht),show i+1+j=i+(j+1) by omega]
theorem Zap {x:Nat->Value}:∀ (ds:List (Option Nat)) (i:Nat) (a:Act),(ZE x i ds a).defers=a.defers
 | [],_,_=>rfl
 | d::r,i,a=>by
  unfold ZE
  rw [Zap r (i+1) _]
  cases d<;>rfl
theorem Zlr (a:Act) (d:Nat):a.put (some d) (a.eval (.tmp d))=a:=by
 unfold Act.put Act.eval
 dsimp only
 congr 1
 by_cases h:d<a.tmps.size
 ·refine Array.ext (by simp) (fun i h1 h2=>?_)
  rw [Array.getElem_setIfInBounds]
  split
  ·rename_i e
   subst e
   simp
  ·rfl
 ·simp [Array.setIfInBounds,h]
theorem Zfs (a:Act):∀ (ds:List (Option Nat)) (i:Nat) (x:Nat->Value),(∀ j t,ds[j]? = some (some t)->x (i+j)=a.eval (.tmp t))->ZE x i ds a=a
 | [],_,_,_=>rfl
 | d::r,i,x,h=>by
  unfold ZE
  have e:a.put d (x i)=a:=by
   cases d with
   | none=>rfl
   | some d=>rw [show x i=a.eval (.tmp d) from h 0 d rfl];exact Zlr a d
  rw [e]
  exact Zfs a r (i+1) x (fun j t hj=>by rw [show i+1+j=i+(j+1) by omega];exact h (j+1) t (by simpa using hj))
section
variable {P:Program} {ops:Array Oper} {Q:Exit->Act->World->Prop}
structure StepP (P:Program) (ops:Array Oper) (Q:Exit->Act->World->Prop) (o:Oper) (a:Act) (w:World) (K:Act->World->Prop):Prop where
 out:if Region.wanted o (yielded ops a.tmps)=true then Oper.wp P o a w K Q else K (a.put o.dst undef) w
def ZeP (ops:Array Oper):List Nat->Bool
 | []=>true
 | [_]=>true
 | m::n::r=>(match ops[n]? with | none=>false | some o=>o.after.any fun e=>Region.binds .any e&&decide (e.on=m))&&ZeP ops (n::r)
theorem Zgv:∀ (ms:List Nat),ZeP ops ms=true->∀ q m n,ms[q]? = some m->ms[q+1]? = some n->∃ o,ops[n]? = some o/\∃ e∈o.after,Region.binds .any e=true/\e.on=m
 | [],_,q,m,n,h,_=>by simp at h
 | [a],_,q,m,n,h,h2=>by simp at h2
 | a::b::r,hw,0,m,n,h,h2=>by
  obtain rfl:a=m:=by simpa using h
  obtain rfl:b=n:=by simpa using h2
  unfold ZeP at hw
  rw [Bool.and_eq_true] at hw
  cases ho:ops[b]? with
  | none=>rw [ho] at hw;cases hw.1
  | some o=>
   rw [ho] at hw
   have h1:=hw.1
   dsimp only at h1
   rw [<- Array.any_toList,List.any_eq_true] at h1
   obtain ⟨e,he,h4⟩:=h1
   rw [Bool.and_eq_true,decide_eq_true_eq] at h4
   exact ⟨o,rfl,e,Array.mem_toList_iff.1 he,h4.1,h4.2⟩
 | a::b::r,hw,q+1,m,n,h,h2=>by
  unfold ZeP at hw
  rw [Bool.and_eq_true] at hw
  exact Zgv (b::r) hw.2 q m n (by simpa using h) (by simpa using h2)
theorem Zav {id:Nat} {a:Act} {w:World} (k:Nat) (ms:List Nat) (ds:List (Option Nat)) (R:Nat->Value->Prop) (W:Nat->(Nat->Value)->World->Prop) (E:(Nat->Value)->World->Prop)
  (hk:ops.size=k+1) (hm:P.follows .mixedOrders=true) (hf:Zdn .any ops=true) (hn:Zc1 .any ops k=true) (hw:ZeP ops ms=true) (hlt:∀ m∈ms,m<k) (hnd:ms.Nodup) (hds:ops.toList.map (·.dst)=ds) (hon:Zbc ds=true)
  (h0:W 0 (fun _=>undef) w.drew) (hW:∀ p v v' w,(∀ q,q<p->v q=v' q)->W p v w->W p v' w)
  (hpure:∀ (i:Nat) (o:Oper),i<k->i ∉ ms->ops[i]? = some o->∀ x p w1,p<=ms.length->W p (fun q=>x (ms.getD q 0)) w1->(∀ e∈o.after,Region.binds .any e=true->e.on ∉ ms->R e.on (x e.on))->(∀ e∈o.after,Region.binds .any e=true->∀ q,ms[q]? = some e.on->q<p) ->
   ∀ K':Act->World->Prop,Shut (∀ v,R i v->K' ((ZE x 0 ds a).put o.dst v) w1)->StepP P ops Q o (ZE x 0 ds a) w1 K')
  (hwrite:∀ (q m:Nat) (o:Oper),ms[q]? = some m->ops[m]? = some o->∀ x w1,W q (fun q=>x (ms.getD q 0)) w1->(∀ e∈o.after,Region.binds .any e=true->e.on ∉ ms->R e.on (x e.on)) ->
   ∀ K':Act->World->Prop,Shut (∀ v w2,W (q+1) (fun q'=>if q'=q then v else x (ms.getD q' 0)) w2->K' ((ZE x 0 ds a).put o.dst v) w2)->StepP P ops Q o (ZE x 0 ds a) w1 K')
  (hlast:∀ (o:Oper),ops[k]? = some o->∀ x w1,W ms.length (fun q=>x (ms.getD q 0)) w1->(∀ i,i<k->i ∉ ms->R i (x i)) ->
   ∀ K':Act->World->Prop,Shut (∀ v w2,E (ZdB x k v) w2->K' ((ZE x 0 ds a).put o.dst v) w2)->StepP P ops Q o (ZE x 0 ds a) w1 K')
  (hend:∀ x w1,E x w1->Q .normal (ZE x 0 ds a) w1):(Code.region id ops true).wp P Q a w:=by
 have hdl:ds.length=ops.size:=by rw [<- hds];simp
 have hput:∀ (i:Nat) (o:Oper),ops[i]? = some o->∀ x v,(ZE x 0 ds a).put o.dst v=ZE (ZdB x i v) 0 ds a:=by
  intro i o ho x v
  have hi:=(Array.getElem?_eq_some_iff.1 ho).1
  have e:o.dst=ds.getD i none:=by
   rw [<- hds,List.getD_eq_getElem?_getD,List.getElem?_map,Array.getElem?_toList,ho]
   rfl
  rw [e,Zgj ds 0 i a hon (by omega),Nat.zero_add]
 have hmk:∀ q m,ms[q]? = some m->m<k:=fun q m h=>hlt m (List.mem_of_getElem? h)
 have hget:∀ q m,ms[q]? = some m->ms.getD q 0=m:=fun q m h=>by rw [List.getD_eq_getElem?_getD,h];rfl
 refine Zcb (fun listed b w1=>listed.size=ops.size/\(∀ j o,ops[j]? = some o->listed.getD j false=true->∀ e∈o.after,Region.binds .any e=true->listed.getD e.on false=true) ∧
   ∃ x p,b=ZE x 0 ds a/\p<=ms.length/\(∀ q m,ms[q]? = some m->(listed.getD m false=true↔q<p))/\(listed.getD k false=false->W p (fun q=>x (ms.getD q 0)) w1/\∀ i,i<k->i ∉ ms->listed.getD i false=true->R i (x i))/\(listed.getD k false=true->E x w1)) hm hf ⟨by simp,fun j o _ hj=>?_,fun j=>(ds.getD j none).elim undef (fun t=>a.eval (.tmp t)),0,?_,Nat.zero_le _,fun q m hq=>⟨fun h=>?_,fun h=>absurd h (Nat.not_lt_zero _)⟩,fun _=>⟨hW 0 _ _ _ (fun q hq=>absurd hq (Nat.not_lt_zero _)) h0,fun i _ _ h=>?_⟩,fun h=>?_⟩ ?_ ?_
 ·simp [Array.getD] at hj
 ·exact (Zfs a ds 0 _ (fun j t hj=>by rw [Nat.zero_add];rw [List.getD_eq_getElem?_getD,hj];rfl)).symm
 ·simp [Array.getD] at h
 ·simp [Array.getD] at h
 ·simp [Array.getD] at h
 ·intro i o ho listed b w1 ⟨hs,hcl,x,p,hb,hp,hpq,h1,h2⟩ h0' hd K' hK
  subst hb
  have hi:=(Array.getElem?_eq_some_iff.1 ho).1
  have hi0:listed.getD i false=false:=by rw [Zbk (by omega) false true];exact h0'
  have hset:∀ j b,j≠i->(listed.setIfInBounds i true).getD j b=listed.getD j b:=fun j b hj=>getD_set_ne b (fun e=>hj e.symm)
  have hself:∀ b,(listed.setIfInBounds i true).getD i b=true:=fun b=>by simp [Array.getD,hs,hi]
  have hcl':∀ j o',ops[j]? = some o'->(listed.setIfInBounds i true).getD j false=true->∀ e∈o'.after,Region.binds .any e=true->(listed.setIfInBounds i true).getD e.on false=true:=by
   intro j o' ho' hj e he hb
   by_cases hei:e.on=i
   ·rw [hei];exact hself _
   ·rw [hset _ _ hei]
    by_cases hji:j=i
    ·subst hji
     obtain rfl:o=o':=Option.some.inj (ho.symm.trans ho')
     exact hd e he hb
    ·rw [hset _ _ hji] at hj
     exact hcl j o' ho' hj e he hb
  have hk0:i≠k->listed.getD k false=false:=by
   intro hik
   cases q:listed.getD k false with
   | false=>rfl
   | true=>
    have:=Zcc hn (L:=fun j=>listed.getD j false) hcl q (k-i) i (by omega)
    rw [hi0] at this
    cases this
  have hR:listed.getD k false=false->∀ e∈o.after,Region.binds .any e=true->e.on ∉ ms->R e.on (x e.on):=by
   intro hkf e he hbd hnm
   have hl:=ZdI hf ho e he hbd
   exact (h1 hkf).2 e.on (by omega) hnm (hd e he hbd)
  by_cases hik:i=k
  ·subst hik
   obtain ⟨hW1,hR1⟩:=h1 hi0
   have hall:∀ j,j<i->listed.getD j false=true:=fun j hj=>by
    have:=Zcc hn (L:=fun j=>(listed.setIfInBounds i true).getD j false) hcl' (hself _) (i-j) j (by omega)
    rwa [hset _ _ (by omega)] at this
   have hpe:p=ms.length:=by
    rcases Nat.lt_or_ge p ms.length with q | q
    ·have hg:=List.getElem?_eq_getElem q
     have:=(hpq p _ hg).1 (hall _ (hmk _ _ hg))
     omega
    ·omega
   subst hpe
   refine (hlast o ho x w1 hW1 (fun j hj hnm=>hR1 j hj hnm (hall j hj)) K' (fun v w2 hE=>hK _ _ ⟨by simpa using hs,hcl',_,ms.length,hput i o ho x v,Nat.le_refl _,fun q m hq=>?_,fun h=>?_,fun _=>hE⟩)).out
   ·rw [hset _ _ (by have:=hmk q m hq;omega)]
    exact hpq q m hq
   ·rw [hself] at h
    cases h
  ·have hkf:=hk0 hik
   obtain ⟨hW1,hR1⟩:=h1 hkf
   by_cases him:i∈ms
   ·obtain ⟨q,hq⟩:=List.mem_iff_getElem?.1 him
    have hqp:p=q:=by
     have h3:¬ q<p:=fun h=>by have:=(hpq q i hq).2 h;rw [hi0] at this;cases this
     rcases Nat.lt_or_ge p q with h4 | h4
     ·exfalso
      obtain ⟨q',rfl⟩:∃ q',q=q'+1:=⟨q-1,by omega⟩
      have hlq:q'<ms.length:=by have:=(List.getElem?_eq_some_iff.1 hq).1;omega
      obtain ⟨o',ho',e,he,hb,hon'⟩:=Zgv ms hw q' _ i (List.getElem?_eq_getElem hlq) hq
      obtain rfl:o=o':=Option.some.inj (ho.symm.trans ho')
      have:=hd e he hb
      rw [hon'] at this
      have:=(hpq q' _ (List.getElem?_eq_getElem hlq)).1 this
      omega
     ·omega
    subst hqp
    have hqi:∀ q' m',ms[q']? = some m'->m'=i->q'=p:=fun q' m' h5 h6=>by
     subst h6
     have a1:=(List.getElem?_eq_some_iff.1 h5)
     have a2:=(List.getElem?_eq_some_iff.1 hq)
     exact (List.getElem_inj hnd).1 (a1.2.trans a2.2.symm)
    refine (hwrite p i o hq ho x w1 hW1 (hR hkf) K' (fun v w2 hW2=>hK _ _ ⟨by simpa using hs,hcl',_,p+1,hput i o ho x v,(List.getElem?_eq_some_iff.1 hq).1,fun q' m' h5=>?_,fun _=>⟨hW (p+1) _ _ _ (fun q' hq'=>?_) hW2,fun j hj hnm hl=>?_⟩,fun h=>?_⟩)).out
    ·by_cases h6:m'=i
     ·have:=hqi q' m' h5 h6
      subst h6
      exact ⟨fun _=>by omega,fun _=>hself _⟩
     ·rw [hset _ _ h6,hpq q' m' h5]
      refine ⟨fun h=>by omega,fun h=>?_⟩
      rcases Nat.lt_or_ge q' p with h7 | h7
      ·exact h7
      ·exfalso
       have:q'=p:=by omega
       subst this
       exact h6 (Option.some.inj (h5.symm.trans hq))
    ·by_cases h6:q'=p
     ·subst h6
      rw [if_pos rfl,hget _ _ hq,Zda]
     ·rw [if_neg h6]
      have hlq:q'<ms.length:=by have:=(List.getElem?_eq_some_iff.1 hq).1;omega
      rw [hget _ _ (List.getElem?_eq_getElem hlq),ZcL]
      intro h7
      exact h6 (hqi q' _ (List.getElem?_eq_getElem hlq) h7)
    ·have hji:j≠i:=fun e=>hnm (by rw [e];exact him)
     rw [ZcL x v hji]
     rw [hset _ _ hji] at hl
     exact hR1 j hj hnm hl
    ·rw [hset _ _ (fun e=>hik e.symm),hkf] at h
     cases h
   ·refine (hpure i o (by omega) him ho x p w1 hp hW1 (hR hkf) (fun e he hbd q hq=>(hpq q _ hq).1 (hd e he hbd)) K' (fun v hv=>hK _ _ ⟨by simpa using hs,hcl',_,p,hput i o ho x v,hp,fun q' m' h5=>?_,fun _=>⟨hW p _ _ _ (fun q' hq'=>?_) hW1,fun j hj hnm hl=>?_⟩,fun h=>?_⟩)).out
    ·rw [hset _ _ (fun e=>him (by rw [<- e];exact List.mem_of_getElem? h5))]
     exact hpq q' m' h5
    ·rw [ZcL]
     have hlq:q'<ms.length:=by omega
     rw [hget _ _ (List.getElem?_eq_getElem hlq)]
     exact fun e=>him (by rw [<- e];exact List.getElem_mem hlq)
    ·by_cases hji:j=i
     ·subst hji
      rw [Zda]
      exact hv
     ·rw [ZcL x v hji]
      rw [hset _ _ hji] at hl
      exact hR1 j hj hnm hl
    ·rw [hset _ _ (fun e=>hik e.symm),hkf] at h
     cases h
 ·intro listed b w1 ⟨hs,hcl,x,p,hb,hp,hpq,h1,h2⟩ hall
  subst hb
  exact hend x w1 (h2 (by rw [Zbk (by omega) false true];exact hall k (by omega)))
end
end
end Go.Proofs.YtfdgeijnkkdplaaDoor
