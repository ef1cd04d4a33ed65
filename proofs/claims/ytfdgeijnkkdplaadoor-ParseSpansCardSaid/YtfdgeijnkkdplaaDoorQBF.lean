import Derived.Test.YtfdgeijnkkdplaaDoorQAJ
import Derived.Test.YtfdgeijnkkdplaaDoorQAK
set_option maxRecDepth 100000
set_option maxHeartbeats 8000000
namespace Go.Proofs.YtfdgeijnkkdplaaDoor
section
def ZdY (out:List Nd) (at_:Nat) (n:Int):List Nd:=match out[at_]? with
 | some x=>out.set at_ ⟨x.kind,x.words,x.nums,x.kids++[n],x.pos⟩
 | none=>out
mutual
def Zb7:Tr->List Nd->List Nd
 | .mk k ws us p ks,out=>Zb5 ks out.length (out++[⟨k,ws,us,[],p⟩])
def Zb5:List Tr->Nat->List Nd->List Nd
 | [],_,out=>out
 | t::r,at_,out=>Zb5 r at_ (Zb7 t (ZdY out at_ (out.length:Int)))
end
mutual
def szT:Tr->Nat
 | .mk _ _ _ _ ks=>ZQ ks+1
def ZQ:List Tr->Nat
 | []=>0
 | t::r=>szT t+ZQ r
end
theorem ZeC (out:List Nd) (a:Nat) (n:Int):(ZdY out a n).length=out.length:=by
 unfold ZdY
 split<;>simp
mutual
theorem Zcz:∀ (t:Tr) (out:List Nd),(Zb7 t out).length=out.length+szT t
 | .mk k ws us p ks,out=>by rw [Zb7,Zfv ks,szT,List.length_append];simp;omega
theorem Zfv:∀ (ts:List Tr) (a:Nat) (out:List Nd),(Zb5 ts a out).length=out.length+ZQ ts
 | [],a,out=>by rw [Zb5,ZQ];rfl
 | t::r,a,out=>by rw [Zb5,Zfv r,Zcz t,ZeC,ZQ];omega
end
theorem Zdn:∀ (rs:List (NdV×Nd)) (i:Nat) (x:NdV×Nd) (rv:Value) (ks:List Int),rs[i]? = some x->ZY (rs.set i ((x.1.1,x.1.2.1,rv),⟨x.2.kind,x.2.words,x.2.nums,ks,x.2.pos⟩))=(ZY rs).set (i*5+3) rv
 | [],i,x,rv,ks,h=>by simp at h
 | y::r,0,x,rv,ks,h=>by
  obtain rfl:y=x:=by simpa using h
  rfl
 | y::r,i+1,x,rv,ks,h=>by
  rw [List.getElem?_cons_succ] at h
  rw [List.set_cons_succ,ZY,ZY,Zdn r i x rv ks h,show (i+1)*5+3=(i*5+3)+1+1+1+1+1 by omega]
  rfl
end
section
def Zb4 (out:List Nd) (a:Nat) (ks:List Int):List Nd:=match out[a]? with
 | some x=>out.set a ⟨x.kind,x.words,x.nums,ks,x.pos⟩
 | none=>out
mutual
def Zbn:Tr->List Nd->List Nd
 | .mk k ws us p ks,out=>Zb4 (Zan ks (out++[⟨k,ws,us,[],p⟩])).2 out.length (Zan ks (out++[⟨k,ws,us,[],p⟩])).1
def Zan:List Tr->List Nd->List Int×List Nd
 | [],out=>([],out)
 | t::r,out=>((out.length:Int)::(Zan r (Zbn t out)).1,(Zan r (Zbn t out)).2)
end
theorem ZdM (out:List Nd) (a:Nat) (ks:List Int):(Zb4 out a ks).length=out.length:=by
 unfold Zb4
 split<;>simp
theorem Zbv (out:List Nd) (a:Nat) (ks:List Int) (j:Nat):(Zb4 out a ks)[j]? = if j=a then (out[j]?).map (fun x=>⟨x.kind,x.words,x.nums,ks,x.pos⟩) else out[j]?:=by
 unfold Zb4
 cases q:out[a]? with
 | none=>
  dsimp only
  by_cases h:j=a
  ·subst h;rw [if_pos rfl,q];rfl
  ·rw [if_neg h]
 | some x=>
  dsimp only
  rw [List.getElem?_set]
  have hl:=(List.getElem?_eq_some_iff.1 q).1
  by_cases h:j=a
  ·subst h;rw [if_pos rfl,if_pos rfl,if_pos hl,q];rfl
  ·rw [if_neg h,if_neg (fun e=>h e.symm)]
theorem ZeB (out:List Nd) (a:Nat) (n:Int) (j:Nat):(ZdY out a n)[j]? = if j=a then (out[j]?).map (fun x=>⟨x.kind,x.words,x.nums,x.kids++[n],x.pos⟩) else out[j]?:=by
 unfold ZdY
 cases q:out[a]? with
 | none=>
  dsimp only
  by_cases h:j=a
  ·subst h;rw [if_pos rfl,q];rfl
  ·rw [if_neg h]
 | some x=>
  dsimp only
  rw [List.getElem?_set]
  have hl:=(List.getElem?_eq_some_iff.1 q).1
  by_cases h:j=a
  ·subst h;rw [if_pos rfl,if_pos rfl,if_pos hl,q];rfl
  ·rw [if_neg h,if_neg (fun e=>h e.symm)]
theorem ZlS (out:List Nd) (a:Nat) (ks:List Int) (n:Int):ZdY (Zb4 out a ks) a n=Zb4 out a (ks++[n]):=by
 refine List.ext_getElem? fun j=>?_
 rw [ZeB,Zbv,Zbv]
 by_cases h:j=a
 ·rw [if_pos h,if_pos h,if_pos h,Option.map_map];rfl
 ·rw [if_neg h,if_neg h,if_neg h]
theorem ZfN (out:List Nd) (a a2:Nat) (ks:List Int) (n:Int) (hne:a≠a2):ZdY (Zb4 out a ks) a2 n=Zb4 (ZdY out a2 n) a ks:=by
 refine List.ext_getElem? fun j=>?_
 rw [ZeB,Zbv,Zbv,ZeB]
 by_cases h:j=a2
 ·have h2:j≠a:=fun e=>hne (e.symm.trans h)
  rw [if_pos h,if_neg h2,if_neg h2,if_pos h]
 ·rw [if_neg h,if_neg h]
theorem ZlD (out:List Nd) (a:Nat) (ks:List Int) (x:Nd) (ha:a<out.length):Zb4 (out++[x]) a ks=Zb4 out a ks++[x]:=by
 refine List.ext_getElem? fun j=>?_
 rw [Zbv,List.getElem?_append,List.getElem?_append,ZdM,Zbv]
 by_cases h:j=a
 ·subst h;rw [if_pos rfl,if_pos ha,if_pos rfl]
  rw [if_pos ha]
 ·rw [if_neg h,if_neg h]
mutual
theorem ZhJ:∀ (t:Tr) (out:List Nd) (a:Nat) (ks:List Int),a<out.length->Zb7 t (Zb4 out a ks)=Zb4 (Zb7 t out) a ks
 | .mk k ws us p kk,out,a,ks,ha=>by
  rw [Zb7,Zb7,ZdM,<- ZlD out a ks _ ha]
  exact Zgf kk _ a ks out.length (by rw [List.length_append];omega) (by omega)
theorem Zgf:∀ (ts:List Tr) (out:List Nd) (a:Nat) (ks:List Int) (a2:Nat),a<out.length->a≠a2->Zb5 ts a2 (Zb4 out a ks)=Zb4 (Zb5 ts a2 out) a ks
 | [],out,a,ks,a2,_,_=>by rw [Zb5,Zb5]
 | t::r,out,a,ks,a2,ha,hne=>by
  rw [Zb5,Zb5,ZdM,ZfN out a a2 ks _ hne,ZhJ t _ a ks (by rw [ZeC];exact ha)]
  exact Zgf r _ a ks a2 (by rw [Zcz,ZeC];omega) hne
end
mutual
theorem Zcr:∀ (t:Tr) (out:List Nd),Zbn t out=Zb7 t out
 | .mk k ws us p kk,out=>by
  rw [Zbn,Zb7]
  have h:=ZgD kk (out++[⟨k,ws,us,[],p⟩]) out.length [] (by rw [List.length_append];simp)
  rw [List.nil_append] at h
  rw [h]
  congr 1
  refine List.ext_getElem? fun j=>?_
  rw [Zbv]
  by_cases h:j=out.length
  ·subst h
   rw [if_pos rfl,List.getElem?_append_right (Nat.le_refl _),Nat.sub_self]
   rfl
  ·rw [if_neg h]
theorem ZgD:∀ (ts:List Tr) (out:List Nd) (a:Nat) (ks:List Int),a<out.length->Zb4 (Zan ts out).2 a (ks++(Zan ts out).1)=Zb5 ts a (Zb4 out a ks)
 | [],out,a,ks,_=>by rw [Zan,Zb5,List.append_nil]
 | t::r,out,a,ks,ha=>by
  rw [Zan,Zb5,ZdM,ZlS,ZhJ t out a _ ha,<- Zcr t out]
  have h:=ZgD r (Zbn t out) a (ks++[(out.length:Int)]) (by rw [Zcr,Zcz];omega)
  rw [<- h,List.append_assoc]
  rfl
end
mutual
def Zdk:Tr->Int->Int×Int->Int×Int
 | .mk _ _ _ p ks,a,f=>ZbX ks (a+1) (if 24<a/\f.1=0 then (12,p) else f)
def ZbX:List Tr->Int->Int×Int->Int×Int
 | [],_,f=>f
 | t::r,a,f=>ZbX r a (Zdk t a f)
end
theorem ZfL (t:Tr):∀ (l:List Tr) (out:List Nd),Zan (l++[t]) out=((Zan l out).1++[((Zan l out).2.length:Int)],Zbn t (Zan l out).2)
 | [],out=>by
  show Zan [t] out=_
  rw [Zan,Zan,Zan]
  rfl
 | u::r,out=>by
  show Zan (u::(r++[t])) out=_
  rw [Zan,Zan,ZfL t r]
  rfl
theorem Zfs (t:Tr) (a:Int):∀ (l:List Tr) (f:Int×Int),ZbX (l++[t]) a f=Zdk t a (ZbX l a f)
 | [],f=>by
  show ZbX [t] a f=_
  rw [ZbX,ZbX,ZbX]
 | u::r,f=>by
  show ZbX (u::(r++[t])) a f=_
  rw [ZbX,ZbX,Zfs t a r]
theorem ZdT:∀ (l:List Tr) (out:List Nd),(Zan l out).2.length=out.length+ZQ l/\(Zan l out).1.length=l.length
 | [],out=>by rw [Zan,ZQ];exact ⟨rfl,rfl⟩
 | u::r,out=>by
  rw [Zan,ZQ]
  obtain ⟨h1,h2⟩:=ZdT r (Zbn u out)
  refine ⟨?_,by rw [List.length_cons,List.length_cons,h2]⟩
  rw [h1,Zcr,Zcz]
  omega
theorem Zeh:∀ (l m:List Tr),ZQ (l++m)=ZQ l+ZQ m
 | [],m=>by rw [ZQ];simp
 | u::r,m=>by
  show ZQ (u::(r++m))=_
  rw [ZQ,ZQ,Zeh r m]
  omega
theorem ZcR {α:Type} {l:List α} {i:Nat} {x:α} (h:l[i]? = some x):l.take (i+1)=l.take i++[x]:=by
 rw [List.take_add_one,h]
 rfl
end
end Go.Proofs.YtfdgeijnkkdplaaDoor
