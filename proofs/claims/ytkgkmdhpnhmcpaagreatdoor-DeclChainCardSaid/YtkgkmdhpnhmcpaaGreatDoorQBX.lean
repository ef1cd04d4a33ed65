import Derived.OrdersHeld
import Derived.Deep.RegionHeld
import Derived.WalkKit
import Derived.BigRegion
import Derived.Deep.RegionHeld3
import Derived.Test.YtkgkmdhpnhmcpaaGreatDoorQAA
set_option maxRecDepth 100000
set_option maxHeartbeats 8000000
namespace Go.Proofs.YtkgkmdhpnhmcpaaGreatDoor
section
open Go Go.RowKit
section
variable {P:Program} {ops:Array Oper} {Q:Exit->Act->World->Prop} {md:Region.Mode}
def Zc1 (md:Region.Mode) (ops:Array Oper):Bool:=(List.range ops.size).all fun i=>match ops[i]? with | none=>true | some o=>o.after.all fun e=>!Region.binds md e||decide (e.on<i)
theorem Zdj (h:Zc1 md ops=true) {i:Nat} {o:Oper} (ho:ops[i]? = some o):∀ e∈o.after,Region.binds md e=true->e.on<i:=by
 intro e he hb
 unfold Zc1 at h
 rw [List.all_eq_true] at h
 have:=h i (List.mem_range.2 (Array.getElem?_eq_some_iff.1 ho).1)
 rw [ho] at this
 have:=Array.all_eq_true_iff_forall_mem.1 this e he
 rw [hb] at this
 simpa using this
theorem ZeJ:∀ (l:List Bool) (i:Nat),l[i]? = some false->(l.set i true).count false+1=l.count false
 | [],i,h=>by simp at h
 | b::l,0,h=>by
  obtain rfl:b=false:=by simpa using h
  simp
 | b::l,i+1,h=>by
  have:=ZeJ l i (by simpa using h)
  rw [List.set_cons_succ,List.count_cons,List.count_cons]
  omega
theorem ZaQ {listed:Array Bool} {i:Nat} (h:i<listed.size) (a b:Bool):listed.getD i a=listed.getD i b:=by
 simp [Array.getD,h]
theorem Zjd (hf:Zc1 md ops=true) {listed:Array Bool} (hs:listed.size=ops.size) (hr:Region.ready md ops listed=[]):∀ n i,i<n->i<ops.size->listed.getD i true=true:=by
 intro n
 induction n with
 | zero=>intro i h;omega
 | succ n ih=>
  intro i hi hlt
  cases hq:listed.getD i true with
  | true=>rfl
  | false=>
   exfalso
   have:i∈Region.ready md ops listed:=mem_ready.2 ⟨hq,_,Array.getElem?_eq_getElem hlt,fun e he hb=>by
    have hlt2:=Zdj hf (Array.getElem?_eq_getElem hlt) e he hb
    rw [ZaQ (by omega) false true]
    exact ih e.on (by omega) (by omega)⟩
   rw [hr] at this
   cases this
theorem Zhx (G:Array Bool->Act->World->Prop) (hf:Zc1 md ops=true)
  (hstep:∀ (i:Nat) (o:Oper),ops[i]? = some o->∀ listed a w,G listed a w->listed.getD i true=false->(∀ e∈o.after,Region.binds md e=true->listed.getD e.on false=true) ->
   ∀ K':Act->World->Prop,Shut (∀ a' w',G (listed.setIfInBounds i true) a' w'->K' a' w')->if Region.wanted o (yielded ops a.tmps)=true then Oper.wp P o a w K' Q else K' (a.put o.dst undef) w)
  (hend:∀ listed a w,G listed a w->(∀ i,i<ops.size->listed.getD i true=true)->Q .normal a w) :
  ∀ (fuel:Nat) (listed:Array Bool) (a:Act) (w:World),listed.size=ops.size->listed.toList.count false<=fuel->G listed a w->wpAny P md ops Q fuel listed a w:=by
 intro fuel
 induction fuel with
 | zero=>
  intro listed a w hs hc hG
  have hall:∀ i,i<ops.size->listed.getD i true=true:=fun i hi=>by
   cases hq:listed.getD i true with
   | true=>rfl
   | false=>
    exfalso
    have hi2:i<listed.size:=by omega
    have:false∈listed.toList:=by
     rw [show false=listed[i] by simpa [Array.getD,hi2] using hq.symm]
     simp
    have:=List.count_pos_iff.2 this
    omega
  refine ⟨List.eq_nil_iff_forall_not_mem.2 fun j hj=>?_,hend _ _ _ hG hall⟩
  obtain ⟨h0,o,ho,_⟩:=mem_ready.1 hj
  rw [hall j (Array.getElem?_eq_some_iff.1 ho).1] at h0
  cases h0
 | succ fuel ih=>
  intro listed a w hs hc hG
  refine ⟨fun hr=>hend _ _ _ hG (fun i hi=>Zjd hf hs hr (i+1) i (by omega) hi),fun i hi=>?_⟩
  obtain ⟨h0,o,ho,hd⟩:=mem_ready.1 hi
  refine wpOp_step ho fun K' hK=>hstep i o ho listed a w hG h0 hd K' (fun a' w' hg=>hK a' w' (ih _ a' w' (by simpa using hs) ?_ hg))
  have hlt:i<listed.size:=by have:=(Array.getElem?_eq_some_iff.1 ho).1;omega
  have:listed.toList[i]? = some false:=by
   rw [Array.getElem?_toList,Array.getElem?_eq_getElem hlt]
   congr 1
   simpa [Array.getD,hlt] using h0
  have:=ZeJ listed.toList i this
  rw [Array.toList_setIfInBounds]
  omega
theorem Zct {id:Nat} {a:Act} {w:World} (G:Array Bool->Act->World->Prop) (hm:P.follows .mixedOrders=true) (hf:Zc1 .any ops=true) (h0:G (Array.replicate ops.size false) a w.drew)
  (hstep:∀ (i:Nat) (o:Oper),ops[i]? = some o->∀ listed a w,G listed a w->listed.getD i true=false->(∀ e∈o.after,Region.binds .any e=true->listed.getD e.on false=true) ->
   ∀ K':Act->World->Prop,Shut (∀ a' w',G (listed.setIfInBounds i true) a' w'->K' a' w')->if Region.wanted o (yielded ops a.tmps)=true then Oper.wp P o a w K' Q else K' (a.put o.dst undef) w)
  (hend:∀ listed a w,G listed a w->(∀ i,i<ops.size->listed.getD i true=true)->Q .normal a w):(Code.region id ops true).wp P Q a w:=
 wp_region_any hm (Zhx G hf hstep hend ops.size _ a _ (by simp) (by simp) h0)
theorem ZdQ {id:Nat} {a:Act} {w:World} (A:(Nat->Value)->Act) (x0:Nat->Value) (R:Nat->Value->World->Prop) (hm:P.follows .mixedOrders=true) (hf:Zc1 .any ops=true) (hA:a=A x0)
  (hput:∀ (i:Nat) (o:Oper),ops[i]? = some o->∀ x v,(A x).put o.dst v=A (fun j=>if j=i then v else x j))
  (hR:∀ j v w1 w2,Below w1.heap.size w1 w2->R j v w1->R j v w2)
  (hstep:∀ (i:Nat) (o:Oper),ops[i]? = some o->∀ x w1,Below w.heap.size w w1->(∀ e∈o.after,Region.binds .any e=true->R e.on (x e.on) w1) ->
   ∀ K':Act->World->Prop,Shut (∀ v w2,Below w1.heap.size w1 w2->R i v w2->K' ((A x).put o.dst v) w2)->if Region.wanted o (yielded ops (A x).tmps)=true then Oper.wp P o (A x) w1 K' Q else K' ((A x).put o.dst undef) w1)
  (hend:∀ x w1,Below w.heap.size w w1->(∀ i,i<ops.size->R i (x i) w1)->Q .normal (A x) w1):(Code.region id ops true).wp P Q a w:=by
 refine Zct (fun listed a w1=>listed.size=ops.size/\∃ x,a=A x/\Below w.heap.size w w1/\∀ i,i<ops.size->listed.getD i true=true->R i (x i) w1) hm hf ⟨by simp,x0,hA,(Below.refl _ _).drew,fun i hi h=>?_⟩ ?_ ?_
 ·simp [Array.getD,hi] at h
 ·intro i o ho listed a w1 ⟨hs,x,ha,hb,hx⟩ h0 hd K' hK
  subst ha
  refine hstep i o ho x w1 hb (fun e he hbd=>?_) K' (fun v w2 hb2 hv=>hK _ _ ⟨by simpa using hs,_,hput i o ho x v,hb.trans (hb2.mono hb.size),fun j hj hl=>?_⟩)
  ·have hlt:=Zdj hf ho e he hbd
   have hi:=(Array.getElem?_eq_some_iff.1 ho).1
   exact hx e.on (by omega) (by rw [ZaQ (by omega) true false];exact hd e he hbd)
  ·by_cases hji:j=i
   ·subst hji
    rw [if_pos rfl]
    exact hv
   ·rw [if_neg hji]
    refine hR j _ _ _ hb2 (hx j hj ?_)
    rwa [getD_set_ne true (show i≠j from fun e=>hji e.symm)] at hl
 ·intro listed a w1 ⟨hs,x,ha,hb,hx⟩ hall
  subst ha
  exact hend x w1 hb (fun i hi=>hx i hi (hall i hi))
end
end
section
open Go Go.RowKit
section
variable {P:Program} {ops:Array Oper} {Q:Exit->Act->World->Prop}
def Zgq (md:Region.Mode) (ops:Array Oper) (k:Nat):Bool:=(List.range k).all fun i=>(List.range (k+1)).any fun j=>decide (i<j)&&(match ops[j]? with | none=>false | some o=>o.after.any fun e=>Region.binds md e&&decide (e.on=i))
theorem ZeT {md:Region.Mode} {k:Nat} (h:Zgq md ops k=true) {L:Nat->Bool} (hL:∀ j o,ops[j]? = some o->L j=true->∀ e∈o.after,Region.binds md e=true->L e.on=true) (hk:L k=true):∀ n i,i+n=k->L i=true:=by
 intro n
 induction n using Nat.strongRecOn with
 | ind n ih=>
  intro i hi
  by_cases h0:n=0
  ·subst h0
   rw [show i=k by omega]
   exact hk
  ·unfold Zgq at h
   rw [List.all_eq_true] at h
   have h1:=h i (List.mem_range.2 (by omega))
   rw [List.any_eq_true] at h1
   obtain ⟨j,hj,h2⟩:=h1
   rw [List.mem_range] at hj
   rw [Bool.and_eq_true,decide_eq_true_eq] at h2
   obtain ⟨hij,h3⟩:=h2
   have hLj:L j=true:=ih (k-j) (by omega) j (by omega)
   cases ho:ops[j]? with
   | none=>rw [ho] at h3;cases h3
   | some o=>
    rw [ho] at h3
    dsimp only at h3
    rw [<- Array.any_toList,List.any_eq_true] at h3
    obtain ⟨e,he,h4⟩:=h3
    have he:=Array.mem_toList_iff.1 he
    rw [Bool.and_eq_true,decide_eq_true_eq] at h4
    have:=hL j o ho hLj e he h4.1
    rwa [h4.2] at this
end
end
section
open Go Go.RowKit
section
variable {P:Program} {ops:Array Oper} {Q:Exit->Act->World->Prop}
def Zgr (md:Region.Mode) (ops:Array Oper) (pre:Nat->Bool) (m:Nat):Bool:=(List.range m).all fun i=>!pre i||(List.range (m+1)).any fun j=>decide (i<j)&&(decide (j=m)||pre j)&&(match ops[j]? with | none=>false | some o=>o.after.any fun e=>Region.binds md e&&decide (e.on=i))
theorem ZeU {md:Region.Mode} {pre:Nat->Bool} {m:Nat} (h:Zgr md ops pre m=true) {L:Nat->Bool} (hL:∀ j o,ops[j]? = some o->L j=true->∀ e∈o.after,Region.binds md e=true->L e.on=true) (hm:L m=true):∀ n i,i+n=m->pre i=true->i≠m->L i=true:=by
 intro n
 induction n using Nat.strongRecOn with
 | ind n ih=>
  intro i hi hp hne
  unfold Zgr at h
  rw [List.all_eq_true] at h
  have h1:=h i (List.mem_range.2 (by omega))
  rw [hp,Bool.not_true,Bool.false_or,List.any_eq_true] at h1
  obtain ⟨j,hj,h2⟩:=h1
  rw [List.mem_range] at hj
  rw [Bool.and_eq_true,Bool.and_eq_true,decide_eq_true_eq,Bool.or_eq_true,decide_eq_true_eq] at h2
  obtain ⟨⟨hij,hjp⟩,h3⟩:=h2
  have hLj:L j=true:=by
   by_cases hjm:j=m
   ·rw [hjm];exact hm
   ·exact ih (m-j) (by omega) j (by omega) (hjp.resolve_left hjm) hjm
  cases ho:ops[j]? with
  | none=>rw [ho] at h3;cases h3
  | some o=>
   rw [ho] at h3
   dsimp only at h3
   rw [<- Array.any_toList,List.any_eq_true] at h3
   obtain ⟨e,he,h4⟩:=h3
   have he:=Array.mem_toList_iff.1 he
   rw [Bool.and_eq_true,decide_eq_true_eq] at h4
   have:=hL j o ho hLj e he h4.1
   rwa [h4.2] at this
theorem Zei {id:Nat} {a:Act} {w:World} (m k:Nat) (pre:Nat->Bool) (A:(Nat->Value)->Act) (x0:Nat->Value) (R:Nat->Value->World->Prop) (E:Value->World->Prop) (F:World->Prop) (hmk:m<k) (hk:ops.size=k+1) (hm:P.follows .mixedOrders=true) (hf:Zc1 .any ops=true) (hpm:∀ i,pre i=true->i<m) (hn:Zgr .any ops pre m=true) (hn1:Zgq .any ops k=true) (hA:a=A x0)
  (hput:∀ (i:Nat) (o:Oper),ops[i]? = some o->i<k->∀ x v,(A x).put o.dst v=A (fun j=>if j=i then v else x j))
  (hlastput:∀ o:Oper,ops[k]? = some o->o.dst=none)
  (hR:∀ j v w1 w2,Below w1.heap.size w1 w2->R j v w1->R j v w2)
  (hP:∀ j v w1 w2,pre j=false->R j v w1->R j v w2)
  (hstep:∀ (i:Nat) (o:Oper),pre i=true->ops[i]? = some o->∀ x w1,Below w.heap.size w w1->(∀ e∈o.after,Region.binds .any e=true->R e.on (x e.on) w1) ->
   ∀ K':Act->World->Prop,Shut (∀ v w2,Below w1.heap.size w1 w2->R i v w2->K' ((A x).put o.dst v) w2)->if Region.wanted o (yielded ops (A x).tmps)=true then Oper.wp P o (A x) w1 K' Q else K' ((A x).put o.dst undef) w1)
  (hmid:∀ o:Oper,ops[m]? = some o->∀ x w1,Below w.heap.size w w1->(∀ i,pre i=true->R i (x i) w1) ->
   ∀ K':Act->World->Prop,Shut (∀ v w2,E v w2->K' ((A x).put o.dst v) w2)->if Region.wanted o (yielded ops (A x).tmps)=true then Oper.wp P o (A x) w1 K' Q else K' ((A x).put o.dst undef) w1)
  (hpure:∀ (i:Nat) (o:Oper),pre i=false->i≠m->i<k->ops[i]? = some o->∀ x w1,(Below w.heap.size w w1\/E (x m) w1)->(∀ e∈o.after,Region.binds .any e=true->pre e.on=false->e.on≠m->R e.on (x e.on) w1) ->
   ∀ K':Act->World->Prop,Shut (∀ v,R i v w1->K' ((A x).put o.dst v) w1)->if Region.wanted o (yielded ops (A x).tmps)=true then Oper.wp P o (A x) w1 K' Q else K' ((A x).put o.dst undef) w1)
  (hlast:∀ o:Oper,ops[k]? = some o->∀ x w1,E (x m) w1->(∀ i,i<k->i≠m->pre i=false->R i (x i) w1) ->
   ∀ K':Act->World->Prop,Shut (∀ w2,F w2->K' (A x) w2)->if Region.wanted o (yielded ops (A x).tmps)=true then Oper.wp P o (A x) w1 K' Q else K' ((A x).put o.dst undef) w1)
  (hend:∀ x w1,F w1->Q .normal (A x) w1):(Code.region id ops true).wp P Q a w:=by
 refine Zct (fun listed a w1=>listed.size=ops.size/\(∀ j o,ops[j]? = some o->listed.getD j false=true->∀ e∈o.after,Region.binds .any e=true->listed.getD e.on false=true) ∧
   ∃ x,a=A x/\(listed.getD m false=false->Below w.heap.size w w1/\∀ i,i<k->i≠m->listed.getD i true=true->R i (x i) w1)/\(listed.getD m false=true->listed.getD k false=false->E (x m) w1/\∀ i,i<k->i≠m->pre i=false->listed.getD i true=true->R i (x i) w1)/\(listed.getD k false=true->F w1)) hm hf ⟨by simp,fun j o _ hj=>?_,x0,hA,fun _=>⟨(Below.refl _ _).drew,fun i hi _ h=>?_⟩,fun h=>?_,fun h=>?_⟩ ?_ ?_
 ·simp [Array.getD] at hj
 ·simp [Array.getD,show i<ops.size by omega] at h
 ·simp [Array.getD] at h
 ·simp [Array.getD] at h
 ·intro i o ho listed a w1 ⟨hs,hcl,x,ha,h1,h2,h3⟩ h0 hd K' hK
  subst ha
  have hi:=(Array.getElem?_eq_some_iff.1 ho).1
  have h0':listed.getD i false=false:=by rw [ZaQ (by omega) false true];exact h0
  have hset:∀ j b,j≠i->(listed.setIfInBounds i true).getD j b=listed.getD j b:=fun j b hj=>getD_set_ne b (fun e=>hj e.symm)
  have hself:∀ b,(listed.setIfInBounds i true).getD i b=true:=fun b=>by simp [Array.getD,hs,hi]
  have hcl':∀ j o',ops[j]? = some o'->(listed.setIfInBounds i true).getD j false=true->∀ e∈o'.after,Region.binds .any e=true->(listed.setIfInBounds i true).getD e.on false=true:=by
   intro j o' ho' hj e he hb
   by_cases hei:e.on=i
   ·rw [hei];exact hself _
   ·rw [hset _ _ hei]
    by_cases hji:j=i
    ·subst hji
     obtain rfl:o=o':=Option.some.inj (ho.symm.trans ho')
     exact hd e he hb
    ·rw [hset _ _ hji] at hj
     exact hcl j o' ho' hj e he hb
  have nk:listed.getD m false=true->pre i=true->False:=fun hl hp=>by
   have:=ZeU hn (L:=fun j=>listed.getD j false) hcl hl (m-i) i (by have:=hpm i hp;omega) hp (by have:=hpm i hp;omega)
   rw [h0'] at this
   cases this
  have hk0:i<=k->listed.getD k false=false:=fun hle=>by
   cases q:listed.getD k false with
   | false=>rfl
   | true=>
    have:=ZeT hn1 (L:=fun j=>listed.getD j false) hcl q (k-i) i (by omega)
    rw [h0'] at this
    cases this
  by_cases him:i=m
  ·subst him
   obtain ⟨hb,hx⟩:=h1 h0'
   have hall:∀ j,pre j=true->listed.getD j true=true:=fun j hj=>by
    have hji:=hpm j hj
    have:=ZeU hn (L:=fun j=>(listed.setIfInBounds i true).getD j false) hcl' (hself _) (i-j) j (by omega) hj (by omega)
    rw [hset _ _ (by omega)] at this
    rw [ZaQ (by omega) true false]
    exact this
   refine hmid o ho x w1 hb (fun j hj=>hx j (by have:=hpm j hj;omega) (by have:=hpm j hj;omega) (hall j hj)) K' (fun v w2 hE=>hK _ _ ⟨by simpa using hs,hcl',_,hput i o ho hmk x v,fun h=>?_,fun _ _=>⟨by rw [if_pos rfl];exact hE,fun j hj hjm hpj hl=>?_⟩,fun h=>?_⟩)
   ·rw [hself] at h
    cases h
   ·rw [if_neg hjm]
    rw [hset _ _ hjm] at hl
    exact hP j _ _ _ hpj (hx j hj hjm hl)
   ·rw [hset _ _ (by omega),hk0 (by omega)] at h
    cases h
  ·by_cases hik:i<k
   ·cases hpi:pre i with
    | true=>
     have hlt:=hpm i hpi
     have hm0:listed.getD m false=false:=by
      cases q:listed.getD m false with
      | false=>rfl
      | true=>exact (nk q hpi).elim
     obtain ⟨hb,hx⟩:=h1 hm0
     refine hstep i o hpi ho x w1 hb (fun e he hbd=>?_) K' (fun v w2 hb2 hv=>hK _ _ ⟨by simpa using hs,hcl',_,hput i o ho (by omega) x v,fun _=>⟨hb.trans (hb2.mono hb.size),fun j hj hjm hl=>?_⟩,fun h=>?_,fun h=>?_⟩)
     ·have hlt':=Zdj hf ho e he hbd
      exact hx e.on (by omega) (by omega) (by rw [ZaQ (by omega) true false];exact hd e he hbd)
     ·by_cases hji:j=i
      ·subst hji
       rw [if_pos rfl]
       exact hv
      ·rw [if_neg hji]
       refine hR j _ _ _ hb2 (hx j hj hjm ?_)
       rwa [hset _ _ hji] at hl
     ·rw [hset _ _ (by omega),hm0] at h
      cases h
     ·rw [hset _ _ (by omega),hk0 (by omega)] at h
      cases h
    | false=>
     have hC:Below w.heap.size w w1\/E (x m) w1:=by
      cases q:listed.getD m false with
      | false=>exact .inl (h1 q).1
      | true=>exact .inr (h2 q (hk0 (by omega))).1
     have hval:∀ e∈o.after,Region.binds .any e=true->pre e.on=false->e.on≠m->R e.on (x e.on) w1:=fun e he hbd hpe hem=>by
      have hlt':=Zdj hf ho e he hbd
      have hl:listed.getD e.on true=true:=by rw [ZaQ (by omega) true false];exact hd e he hbd
      cases q:listed.getD m false with
      | false=>exact (h1 q).2 e.on (by omega) hem hl
      | true=>exact (h2 q (hk0 (by omega))).2 e.on (by omega) hem hpe hl
     refine hpure i o hpi him hik ho x w1 hC hval K' (fun v hv=>hK _ _ ⟨by simpa using hs,hcl',_,hput i o ho hik x v,fun h=>?_,fun h _=>?_,fun h=>?_⟩)
     ·rw [hset _ _ (fun e=>him e.symm)] at h
      obtain ⟨hb,hx⟩:=h1 h
      refine ⟨hb,fun j hj hjm hl=>?_⟩
      by_cases hji:j=i
      ·subst hji
       rw [if_pos rfl]
       exact hv
      ·rw [if_neg hji]
       rw [hset _ _ hji] at hl
       exact hx j hj hjm hl
     ·rw [hset _ _ (fun e=>him e.symm)] at h
      obtain ⟨hE,hx⟩:=h2 h (hk0 (by omega))
      refine ⟨by rw [if_neg (fun e=>him e.symm)];exact hE,fun j hj hjm hpj hl=>?_⟩
      by_cases hji:j=i
      ·subst hji
       rw [if_pos rfl]
       exact hv
      ·rw [if_neg hji]
       rw [hset _ _ hji] at hl
       exact hx j hj hjm hpj hl
     ·rw [hset _ _ (by omega),hk0 (by omega)] at h
      cases h
   ·obtain rfl:i=k:=by omega
    have hall:∀ j,j<i->listed.getD j true=true:=fun j hj=>by
     have:=ZeT hn1 (L:=fun j=>(listed.setIfInBounds i true).getD j false) hcl' (hself _) (i-j) j (by omega)
     rw [hset _ _ (by omega)] at this
     rw [ZaQ (by omega) true false]
     exact this
    have hm1:listed.getD m false=true:=by rw [ZaQ (by omega) false true];exact hall m hmk
    obtain ⟨hE,hx⟩:=h2 hm1 h0'
    have hdst:=hlastput o ho
    refine hlast o ho x w1 hE (fun j hj hjm hpj=>hx j hj hjm hpj (hall j hj)) K' (fun w2 hF=>hK _ _ ⟨by simpa using hs,hcl',x,rfl,fun h=>?_,fun _ h=>?_,fun _=>hF⟩)
    ·rw [hset _ _ (by omega),hm1] at h
     cases h
    ·rw [hself] at h
     cases h
 ·intro listed a w1 ⟨hs,hcl,x,ha,h1,h2,h3⟩ hall
  subst ha
  exact hend x w1 (h3 (by rw [ZaQ (by omega) false true];exact hall _ (by omega)))
end
end
end Go.Proofs.YtkgkmdhpnhmcpaaGreatDoor
