import Derived.Test.YtfdgeijnkkdplaaDoorQAA
set_option maxRecDepth 100000
set_option maxHeartbeats 8000000
namespace Go.Proofs.YtfdgeijnkkdplaaDoor
section
open Go Go.RowKit
section
variable {P:Program} {ops:Array Oper} {Q:Exit->Act->World->Prop}
def Zc1 (md:Region.Mode) (ops:Array Oper) (k:Nat):Bool:=(List.range k).all fun i=>(List.range (k+1)).any fun j=>decide (i<j)&&(match ops[j]? with | none=>false | some o=>o.after.any fun e=>Region.binds md e&&decide (e.on=i))
theorem Zcc {md:Region.Mode} {k:Nat} (h:Zc1 md ops k=true) {L:Nat->Bool} (hL:∀ j o,ops[j]? = some o->L j=true->∀ e∈o.after,Region.binds md e=true->L e.on=true) (hk:L k=true):∀ n i,i+n=k->L i=true:=by
 intro n
 induction n using Nat.strongRecOn with
 | ind n ih=>
  intro i hi
  by_cases h0:n=0
  ·subst h0
   rw [show i=k by omega]
   exact hk
  ·unfold Zc1 at h
   rw [List.all_eq_true] at h
   have h1:=h i (List.mem_range.2 (by omega))
   rw [List.any_eq_true] at h1
   obtain ⟨j,hj,h2⟩:=h1
   rw [List.mem_range] at hj
   rw [Bool.and_eq_true,decide_eq_true_eq] at h2
   obtain ⟨hij,h3⟩:=h2
   have hLj:L j=true:=ih (k-j) (by omega) j (by omega)
   cases ho:ops[j]? with
   | none=>rw [ho] at h3;cases h3
   | some o=>
    rw [ho] at h3
    dsimp only at h3
    rw [<- Array.any_toList,List.any_eq_true] at h3
    obtain ⟨e,he,h4⟩:=h3
    have he:=Array.mem_toList_iff.1 he
    rw [Bool.and_eq_true,decide_eq_true_eq] at h4
    have:=hL j o ho hLj e he h4.1
    rwa [h4.2] at this
theorem Ze5 {id:Nat} {a:Act} {w:World} (k:Nat) (A:(Nat->Value)->Act) (x0:Nat->Value) (R:Nat->Value->World->Prop) (E F:(Nat->Value)->World->Prop) (hk:ops.size=k+2) (hm:P.follows .mixedOrders=true) (hf:Zdn .any ops=true) (hn:Zc1 .any ops k=true) (hn1:Zc1 .any ops (k+1)=true) (hA:a=A x0)
  (hput:∀ (i:Nat) (o:Oper),ops[i]? = some o->∀ x v,(A x).put o.dst v=A (fun j=>if j=i then v else x j))
  (hR:∀ j v w1 w2,Below w1.heap.size w1 w2->R j v w1->R j v w2)
  (hstep:∀ (i:Nat) (o:Oper),i<k->ops[i]? = some o->∀ x w1,x (k+1)=x0 (k+1)->Below w.heap.size w w1->(∀ e∈o.after,Region.binds .any e=true->R e.on (x e.on) w1) ->
   ∀ K':Act->World->Prop,Shut (∀ v w2,Below w1.heap.size w1 w2->R i v w2->K' ((A x).put o.dst v) w2)->if Region.wanted o (yielded ops (A x).tmps)=true then Oper.wp P o (A x) w1 K' Q else K' ((A x).put o.dst undef) w1)
  (hfirst:∀ o:Oper,ops[k]? = some o->∀ x w1,x (k+1)=x0 (k+1)->Below w.heap.size w w1->(∀ i,i<k->R i (x i) w1) ->
   ∀ K':Act->World->Prop,Shut (∀ v w2,E (fun j=>if j=k then v else x j) w2->K' ((A x).put o.dst v) w2)->if Region.wanted o (yielded ops (A x).tmps)=true then Oper.wp P o (A x) w1 K' Q else K' ((A x).put o.dst undef) w1)
  (hlast:∀ o:Oper,ops[k+1]? = some o->∀ x w1,E x w1 ->
   ∀ K':Act->World->Prop,Shut (∀ v w2,F (fun j=>if j=k+1 then v else x j) w2->K' ((A x).put o.dst v) w2)->if Region.wanted o (yielded ops (A x).tmps)=true then Oper.wp P o (A x) w1 K' Q else K' ((A x).put o.dst undef) w1)
  (hend:∀ x w1,F x w1->Q .normal (A x) w1):(Code.region id ops true).wp P Q a w:=by
 have hkk:∀ i,i<ops.size->i<k\/i=k\/i=k+1:=fun i hi=>by omega
 refine Zcb (fun listed a w1=>listed.size=ops.size/\(∀ j o,ops[j]? = some o->listed.getD j false=true->∀ e∈o.after,Region.binds .any e=true->listed.getD e.on false=true) ∧
   ∃ x,a=A x/\(listed.getD k false=false->Below w.heap.size w w1/\∀ i,i<k->listed.getD i true=true->R i (x i) w1)/\(listed.getD k false=true->listed.getD (k+1) false=false->E x w1)/\(listed.getD (k+1) false=true->F x w1)/\(listed.getD (k+1) false=false->x (k+1)=x0 (k+1))) hm hf ⟨by simp,fun j o _ hj=>?_,x0,hA,fun _=>⟨(Below.refl _ _).drew,fun i hi h=>?_⟩,fun h=>?_,fun h=>?_,fun _=>rfl⟩ ?_ ?_
 ·simp [Array.getD] at hj
 ·simp [Array.getD,show i<ops.size by omega] at h
 ·simp [Array.getD] at h
 ·simp [Array.getD] at h
 ·intro i o ho listed a w1 ⟨hs,hcl,x,ha,h1,h2,h3,h4⟩ h0 hd K' hK
  subst ha
  have hi:=(Array.getElem?_eq_some_iff.1 ho).1
  have h0':listed.getD i false=false:=by rw [Zbk (by omega) false true];exact h0
  have hset:∀ j b,j≠i->(listed.setIfInBounds i true).getD j b=listed.getD j b:=fun j b hj=>getD_set_ne b (fun e=>hj e.symm)
  have hself:∀ b,(listed.setIfInBounds i true).getD i b=true:=fun b=>by simp [Array.getD,hs,hi]
  have hcl':∀ j o',ops[j]? = some o'->(listed.setIfInBounds i true).getD j false=true->∀ e∈o'.after,Region.binds .any e=true->(listed.setIfInBounds i true).getD e.on false=true:=by
   intro j o' ho' hj e he hb
   by_cases hei:e.on=i
   ·rw [hei];exact hself _
   ·rw [hset _ _ hei]
    by_cases hji:j=i
    ·subst hji
     obtain rfl:o=o':=Option.some.inj (ho.symm.trans ho')
     exact hd e he hb
    ·rw [hset _ _ hji] at hj
     exact hcl j o' ho' hj e he hb
  have nk:∀ m,Zc1 .any ops m=true->listed.getD m false=true->i<=m->False:=fun m hm' hl hle=>by
   have:=Zcc hm' (L:=fun j=>listed.getD j false) hcl hl (m-i) i (by omega)
   rw [h0'] at this
   cases this
  rcases hkk i hi with hlt | rfl | rfl
  ·have hk0:listed.getD k false=false:=by
    cases q:listed.getD k false with
    | false=>rfl
    | true=>exact (nk k hn q (by omega)).elim
   have hk1:listed.getD (k+1) false=false:=by
    cases q:listed.getD (k+1) false with
    | false=>rfl
    | true=>exact (nk (k+1) hn1 q (by omega)).elim
   obtain ⟨hb,hx⟩:=h1 hk0
   refine hstep i o hlt ho x w1 (h4 hk1) hb (fun e he hbd=>?_) K' (fun v w2 hb2 hv=>hK _ _ ⟨by simpa using hs,hcl',_,hput i o ho x v,fun _=>⟨hb.trans (hb2.mono hb.size),fun j hj hl=>?_⟩,fun h=>?_,fun h=>?_,fun _=>by rw [if_neg (by omega)];exact h4 hk1⟩)
   ·have hlt':=ZdI hf ho e he hbd
    exact hx e.on (by omega) (by rw [Zbk (by omega) true false];exact hd e he hbd)
   ·by_cases hji:j=i
    ·subst hji
     rw [if_pos rfl]
     exact hv
    ·rw [if_neg hji]
     refine hR j _ _ _ hb2 (hx j hj ?_)
     rwa [hset _ _ hji] at hl
   ·rw [hset _ _ (by omega),hk0] at h
    cases h
   ·rw [hset _ _ (by omega),hk1] at h
    cases h
  ·have hk1:listed.getD (i+1) false=false:=by
    cases q:listed.getD (i+1) false with
    | false=>rfl
    | true=>exact (nk (i+1) hn1 q (by omega)).elim
   obtain ⟨hb,hx⟩:=h1 h0'
   have hall:∀ j,j<i->listed.getD j true=true:=fun j hj=>by
    have hc2:listed.setIfInBounds i true=listed.setIfInBounds i true:=rfl
    have:=Zcc hn (L:=fun j=>(listed.setIfInBounds i true).getD j false) hcl' (hself _) (i-j) j (by omega)
    rw [hset _ _ (by omega)] at this
    rw [Zbk (by omega) true false]
    exact this
   refine hfirst o ho x w1 (h4 hk1) hb (fun j hj=>hx j hj (hall j hj)) K' (fun v w2 hE=>hK _ _ ⟨by simpa using hs,hcl',_,hput i o ho x v,fun h=>?_,fun _ _=>hE,fun h=>?_,fun _=>by rw [if_neg (by omega)];exact h4 hk1⟩)
   ·rw [hself] at h
    cases h
   ·rw [hset _ _ (by omega),hk1] at h
    cases h
  ·have hk0:listed.getD k false=true:=by
    have:=Zcc hn1 (L:=fun j=>(listed.setIfInBounds (k+1) true).getD j false) hcl' (hself _) 1 k rfl
    rwa [hset _ _ (by omega)] at this
   refine hlast o ho x w1 (h2 hk0 h0') K' (fun v w2 hF=>hK _ _ ⟨by simpa using hs,hcl',_,hput _ o ho x v,fun h=>?_,fun _ h=>?_,fun _=>hF,fun h=>?_⟩)
   ·rw [hset _ _ (by omega),hk0] at h
    cases h
   ·rw [hself] at h
    cases h
   ·rw [hself] at h
    cases h
 ·intro listed a w1 ⟨hs,hcl,x,ha,h1,h2,h3,h4⟩ hall
  subst ha
  exact hend x w1 (h3 (by rw [Zbk (by omega) false true];exact hall _ (by omega)))
end
end
section
open Go.RowKit
section
variable {P:Program} {ops:Array Oper} {Q:Exit->Act->World->Prop}
theorem Ze4 {id:Nat} {a:Act} {w:World} (k:Nat) (A:(Nat->Value)->Act) (x0:Nat->Value) (R:Nat->Value->World->Prop) (E:(Nat->Value)->World->Prop) (hk:ops.size=k+1) (hm:P.follows .mixedOrders=true) (hf:Zdn .any ops=true) (hn:Zc1 .any ops k=true) (hA:a=A x0)
  (hput:∀ (i:Nat) (o:Oper),ops[i]? = some o->∀ x v,(A x).put o.dst v=A (fun j=>if j=i then v else x j))
  (hR:∀ j v w1 w2,Below w1.heap.size w1 w2->R j v w1->R j v w2)
  (hstep:∀ (i:Nat) (o:Oper),i<k->ops[i]? = some o->∀ x w1,Below w.heap.size w w1->(∀ e∈o.after,Region.binds .any e=true->R e.on (x e.on) w1) ->
   ∀ K':Act->World->Prop,Shut (∀ v w2,Below w1.heap.size w1 w2->R i v w2->K' ((A x).put o.dst v) w2)->if Region.wanted o (yielded ops (A x).tmps)=true then Oper.wp P o (A x) w1 K' Q else K' ((A x).put o.dst undef) w1)
  (hfirst:∀ o:Oper,ops[k]? = some o->∀ x w1,Below w.heap.size w w1->(∀ i,i<k->R i (x i) w1) ->
   ∀ K':Act->World->Prop,Shut (∀ v w2,E (fun j=>if j=k then v else x j) w2->K' ((A x).put o.dst v) w2)->if Region.wanted o (yielded ops (A x).tmps)=true then Oper.wp P o (A x) w1 K' Q else K' ((A x).put o.dst undef) w1)
  (hend:∀ x w1,E x w1->Q .normal (A x) w1):(Code.region id ops true).wp P Q a w:=by
 refine Zcb (fun listed a w1=>listed.size=ops.size/\(∀ j o,ops[j]? = some o->listed.getD j false=true->∀ e∈o.after,Region.binds .any e=true->listed.getD e.on false=true) ∧
   ∃ x,a=A x/\(listed.getD k false=false->Below w.heap.size w w1/\∀ i,i<k->listed.getD i true=true->R i (x i) w1)/\(listed.getD k false=true->E x w1)) hm hf ⟨by simp,fun j o _ hj=>?_,x0,hA,fun _=>⟨(Below.refl _ _).drew,fun i hi h=>?_⟩,fun h=>?_⟩ ?_ ?_
 ·simp [Array.getD] at hj
 ·simp [Array.getD,show i<ops.size by omega] at h
 ·simp [Array.getD] at h
 ·intro i o ho listed a w1 ⟨hs,hcl,x,ha,h1,h2⟩ h0 hd K' hK
  subst ha
  have hi:=(Array.getElem?_eq_some_iff.1 ho).1
  have h0':listed.getD i false=false:=by rw [Zbk (by omega) false true];exact h0
  have hset:∀ j b,j≠i->(listed.setIfInBounds i true).getD j b=listed.getD j b:=fun j b hj=>getD_set_ne b (fun e=>hj e.symm)
  have hself:∀ b,(listed.setIfInBounds i true).getD i b=true:=fun b=>by simp [Array.getD,hs,hi]
  have hcl':∀ j o',ops[j]? = some o'->(listed.setIfInBounds i true).getD j false=true->∀ e∈o'.after,Region.binds .any e=true->(listed.setIfInBounds i true).getD e.on false=true:=by
   intro j o' ho' hj e he hb
   by_cases hei:e.on=i
   ·rw [hei];exact hself _
   ·rw [hset _ _ hei]
    by_cases hji:j=i
    ·subst hji
     obtain rfl:o=o':=Option.some.inj (ho.symm.trans ho')
     exact hd e he hb
    ·rw [hset _ _ hji] at hj
     exact hcl j o' ho' hj e he hb
  have nk:∀ m,Zc1 .any ops m=true->listed.getD m false=true->i<=m->False:=fun m hm' hl hle=>by
   have:=Zcc hm' (L:=fun j=>listed.getD j false) hcl hl (m-i) i (by omega)
   rw [h0'] at this
   cases this
  rcases (show i<k\/i=k by omega) with hlt | rfl
  ·have hk0:listed.getD k false=false:=by
    cases q:listed.getD k false with
    | false=>rfl
    | true=>exact (nk k hn q (by omega)).elim
   obtain ⟨hb,hx⟩:=h1 hk0
   refine hstep i o hlt ho x w1 hb (fun e he hbd=>?_) K' (fun v w2 hb2 hv=>hK _ _ ⟨by simpa using hs,hcl',_,hput i o ho x v,fun _=>⟨hb.trans (hb2.mono hb.size),fun j hj hl=>?_⟩,fun h=>?_⟩)
   ·have hlt':=ZdI hf ho e he hbd
    exact hx e.on (by omega) (by rw [Zbk (by omega) true false];exact hd e he hbd)
   ·by_cases hji:j=i
    ·subst hji
     rw [if_pos rfl]
     exact hv
    ·rw [if_neg hji]
     refine hR j _ _ _ hb2 (hx j hj ?_)
     rwa [hset _ _ hji] at hl
   ·rw [hset _ _ (by omega),hk0] at h
    cases h
  ·obtain ⟨hb,hx⟩:=h1 h0'
   have hall:∀ j,j<i->listed.getD j true=true:=fun j hj=>by
    have:=Zcc hn (L:=fun j=>(listed.setIfInBounds i true).getD j false) hcl' (hself _) (i-j) j (by omega)
    rw [hset _ _ (by omega)] at this
    rw [Zbk (by omega) true false]
    exact this
   refine hfirst o ho x w1 hb (fun j hj=>hx j hj (hall j hj)) K' (fun v w2 hE=>hK _ _ ⟨by simpa using hs,hcl',_,hput i o ho x v,fun h=>?_,fun _=>hE⟩)
   ·rw [hself] at h
    cases h
 ·intro listed a w1 ⟨hs,hcl,x,ha,h1,h2⟩ hall
  subst ha
  exact hend x w1 (h2 (by rw [Zbk (by omega) false true];exact hall k (by omega)))
end
end
end Go.Proofs.YtfdgeijnkkdplaaDoor
