import Derived.Test.YtfdgeijnkkdplaaDoorQAG
import Derived.Test.YtfdgeijnkkdplaaDoorQAH
set_option maxRecDepth 100000
set_option maxHeartbeats 8000000
namespace Go.Proofs.YtfdgeijnkkdplaaDoor
section
def ZdE (out:List Nd) (at_:Nat) (n:Int):List Nd:=match out[at_]? with
 | some x=>out.set at_ ⟨x.kind,x.words,x.nums,x.kids++[n],x.pos⟩
 | none=>out
mutual
def ZbS:Tr->List Nd->List Nd
 | .mk k ws us p ks,out=>ZbW ks out.length (out++[⟨k,ws,us,[],p⟩])
def ZbW:List Tr->Nat->List Nd->List Nd
 | [],_,out=>out
 | t::r,at_,out=>ZbW r at_ (ZbS t (ZdE out at_ (out.length:Int)))
end
mutual
def szT:Tr->Nat
 | .mk _ _ _ _ ks=>ZI ks+1
def ZI:List Tr->Nat
 | []=>0
 | t::r=>szT t+ZI r
end
theorem Zef (out:List Nd) (a:Nat) (n:Int):(ZdE out a n).length=out.length:=by
 unfold ZdE
 split<;>simp
mutual
theorem Zcn:∀ (t:Tr) (out:List Nd),(ZbS t out).length=out.length+szT t
 | .mk k ws us p ks,out=>by rw [ZbS,Zfe ks,szT,List.length_append];simp;omega
theorem Zfe:∀ (ts:List Tr) (a:Nat) (out:List Nd),(ZbW ts a out).length=out.length+ZI ts
 | [],a,out=>by rw [ZbW,ZI];rfl
 | t::r,a,out=>by rw [ZbW,Zfe r,Zcn t,Zef,ZI];omega
end
theorem Zdf:∀ (rs:List (NdV×Nd)) (i:Nat) (x:NdV×Nd) (rv:Value) (ks:List Int),rs[i]? = some x->ZX (rs.set i ((x.1.1,x.1.2.1,rv),⟨x.2.kind,x.2.words,x.2.nums,ks,x.2.pos⟩))=(ZX rs).set (i*5+3) rv
 | [],i,x,rv,ks,h=>by simp at h
 | y::r,0,x,rv,ks,h=>by
  obtain rfl:y=x:=by simpa using h
  rfl
 | y::r,i+1,x,rv,ks,h=>by
  rw [List.getElem?_cons_succ] at h
  rw [List.set_cons_succ,ZX,ZX,Zdf r i x rv ks h,show (i+1)*5+3=(i*5+3)+1+1+1+1+1 by omega]
  rfl
end
section
def ZbV (out:List Nd) (a:Nat) (ks:List Int):List Nd:=match out[a]? with
 | some x=>out.set a ⟨x.kind,x.words,x.nums,ks,x.pos⟩
 | none=>out
mutual
def Zb6:Tr->List Nd->List Nd
 | .mk k ws us p ks,out=>ZbV (Zaw ks (out++[⟨k,ws,us,[],p⟩])).2 out.length (Zaw ks (out++[⟨k,ws,us,[],p⟩])).1
def Zaw:List Tr->List Nd->List Int×List Nd
 | [],out=>([],out)
 | t::r,out=>((out.length:Int)::(Zaw r (Zb6 t out)).1,(Zaw r (Zb6 t out)).2)
end
theorem Zdx (out:List Nd) (a:Nat) (ks:List Int):(ZbV out a ks).length=out.length:=by
 unfold ZbV
 split<;>simp
theorem ZbO (out:List Nd) (a:Nat) (ks:List Int) (j:Nat):(ZbV out a ks)[j]? = if j=a then (out[j]?).map (fun x=>⟨x.kind,x.words,x.nums,ks,x.pos⟩) else out[j]?:=by
 unfold ZbV
 cases q:out[a]? with
 | none=>
  dsimp only
  by_cases h:j=a
  ·subst h;rw [if_pos rfl,q];rfl
  ·rw [if_neg h]
 | some x=>
  dsimp only
  rw [List.getElem?_set]
  have hl:=(List.getElem?_eq_some_iff.1 q).1
  by_cases h:j=a
  ·subst h;rw [if_pos rfl,if_pos rfl,if_pos hl,q];rfl
  ·rw [if_neg h,if_neg (fun e=>h e.symm)]
theorem Zee (out:List Nd) (a:Nat) (n:Int) (j:Nat):(ZdE out a n)[j]? = if j=a then (out[j]?).map (fun x=>⟨x.kind,x.words,x.nums,x.kids++[n],x.pos⟩) else out[j]?:=by
 unfold ZdE
 cases q:out[a]? with
 | none=>
  dsimp only
  by_cases h:j=a
  ·subst h;rw [if_pos rfl,q];rfl
  ·rw [if_neg h]
 | some x=>
  dsimp only
  rw [List.getElem?_set]
  have hl:=(List.getElem?_eq_some_iff.1 q).1
  by_cases h:j=a
  ·subst h;rw [if_pos rfl,if_pos rfl,if_pos hl,q];rfl
  ·rw [if_neg h,if_neg (fun e=>h e.symm)]
theorem ZlI (out:List Nd) (a:Nat) (ks:List Int) (n:Int):ZdE (ZbV out a ks) a n=ZbV out a (ks++[n]):=by
 refine List.ext_getElem? fun j=>?_
 rw [Zee,ZbO,ZbO]
 by_cases h:j=a
 ·rw [if_pos h,if_pos h,if_pos h,Option.map_map];rfl
 ·rw [if_neg h,if_neg h,if_neg h]
theorem ZfB (out:List Nd) (a a2:Nat) (ks:List Int) (n:Int) (hne:a≠a2):ZdE (ZbV out a ks) a2 n=ZbV (ZdE out a2 n) a ks:=by
 refine List.ext_getElem? fun j=>?_
 rw [Zee,ZbO,ZbO,Zee]
 by_cases h:j=a2
 ·have h2:j≠a:=fun e=>hne (e.symm.trans h)
  rw [if_pos h,if_neg h2,if_neg h2,if_pos h]
 ·rw [if_neg h,if_neg h]
theorem Zlu (out:List Nd) (a:Nat) (ks:List Int) (x:Nd) (ha:a<out.length):ZbV (out++[x]) a ks=ZbV out a ks++[x]:=by
 refine List.ext_getElem? fun j=>?_
 rw [ZbO,List.getElem?_append,List.getElem?_append,Zdx,ZbO]
 by_cases h:j=a
 ·subst h;rw [if_pos rfl,if_pos ha,if_pos rfl]
  rw [if_pos ha]
 ·rw [if_neg h,if_neg h]
mutual
theorem ZhA:∀ (t:Tr) (out:List Nd) (a:Nat) (ks:List Int),a<out.length->ZbS t (ZbV out a ks)=ZbV (ZbS t out) a ks
 | .mk k ws us p kk,out,a,ks,ha=>by
  rw [ZbS,ZbS,Zdx,<- Zlu out a ks _ ha]
  exact Zf6 kk _ a ks out.length (by rw [List.length_append];omega) (by omega)
theorem Zf6:∀ (ts:List Tr) (out:List Nd) (a:Nat) (ks:List Int) (a2:Nat),a<out.length->a≠a2->ZbW ts a2 (ZbV out a ks)=ZbV (ZbW ts a2 out) a ks
 | [],out,a,ks,a2,_,_=>by rw [ZbW,ZbW]
 | t::r,out,a,ks,a2,ha,hne=>by
  rw [ZbW,ZbW,Zdx,ZfB out a a2 ks _ hne,ZhA t _ a ks (by rw [Zef];exact ha)]
  exact Zf6 r _ a ks a2 (by rw [Zcn,Zef];omega) hne
end
mutual
theorem Zcs:∀ (t:Tr) (out:List Nd),Zb6 t out=ZbS t out
 | .mk k ws us p kk,out=>by
  rw [Zb6,ZbS]
  have h:=Zgu kk (out++[⟨k,ws,us,[],p⟩]) out.length [] (by rw [List.length_append];simp)
  rw [List.nil_append] at h
  rw [h]
  congr 1
  refine List.ext_getElem? fun j=>?_
  rw [ZbO]
  by_cases h:j=out.length
  ·subst h
   rw [if_pos rfl,List.getElem?_append_right (Nat.le_refl _),Nat.sub_self]
   rfl
  ·rw [if_neg h]
theorem Zgu:∀ (ts:List Tr) (out:List Nd) (a:Nat) (ks:List Int),a<out.length->ZbV (Zaw ts out).2 a (ks++(Zaw ts out).1)=ZbW ts a (ZbV out a ks)
 | [],out,a,ks,_=>by rw [Zaw,ZbW,List.append_nil]
 | t::r,out,a,ks,ha=>by
  rw [Zaw,ZbW,Zdx,ZlI,ZhA t out a _ ha,<- Zcs t out]
  have h:=Zgu r (Zb6 t out) a (ks++[(out.length:Int)]) (by rw [Zcs,Zcn];omega)
  rw [<- h,List.append_assoc]
  rfl
end
mutual
def Zci:Tr->Int->Int×Int->Int×Int
 | .mk _ _ _ p ks,a,f=>ZaW ks (a+1) (if 24<a/\f.1=0 then (12,p) else f)
def ZaW:List Tr->Int->Int×Int->Int×Int
 | [],_,f=>f
 | t::r,a,f=>ZaW r a (Zci t a f)
end
theorem Zfz (t:Tr):∀ (l:List Tr) (out:List Nd),Zaw (l++[t]) out=((Zaw l out).1++[((Zaw l out).2.length:Int)],Zb6 t (Zaw l out).2)
 | [],out=>by
  show Zaw [t] out=_
  rw [Zaw,Zaw,Zaw]
  rfl
 | u::r,out=>by
  show Zaw (u::(r++[t])) out=_
  rw [Zaw,Zaw,Zfz t r]
  rfl
theorem Zfb (t:Tr) (a:Int):∀ (l:List Tr) (f:Int×Int),ZaW (l++[t]) a f=Zci t a (ZaW l a f)
 | [],f=>by
  show ZaW [t] a f=_
  rw [ZaW,ZaW,ZaW]
 | u::r,f=>by
  show ZaW (u::(r++[t])) a f=_
  rw [ZaW,ZaW,Zfb t a r]
theorem ZcV:∀ (l:List Tr) (out:List Nd),(Zaw l out).2.length=out.length+ZI l/\(Zaw l out).1.length=l.length
 | [],out=>by rw [Zaw,ZI];exact ⟨rfl,rfl⟩
 | u::r,out=>by
  rw [Zaw,ZI]
  obtain ⟨h1,h2⟩:=ZcV r (Zb6 u out)
  refine ⟨?_,by rw [List.length_cons,List.length_cons,h2]⟩
  rw [h1,Zcs,Zcn]
  omega
theorem ZdW:∀ (l m:List Tr),ZI (l++m)=ZI l+ZI m
 | [],m=>by rw [ZI];simp
 | u::r,m=>by
  show ZI (u::(r++m))=_
  rw [ZI,ZI,ZdW r m]
  omega
theorem ZcI {α:Type} {l:List α} {i:Nat} {x:α} (h:l[i]? = some x):l.take (i+1)=l.take i++[x]:=by
 rw [List.take_add_one,h]
 rfl
end
end Go.Proofs.YtfdgeijnkkdplaaDoor
