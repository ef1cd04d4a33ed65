import Derived.Test.YtfdgeijnkkdplaaDoorQAH
import Derived.Test.YtfdgeijnkkdplaaDoorQAJ
set_option maxRecDepth 100000
set_option maxHeartbeats 8000000
namespace Go.Proofs.YtfdgeijnkkdplaaDoor
section
section
variable {L:List Tok}
def Stk (s s2:PS):Prop:=s.err≠0->s2.err=s.err/\s2.fat=s.fat
theorem Stk.refl (s:PS):Stk s s:=fun _=>⟨rfl,rfl⟩
theorem Stk.trans {a b c:PS} (h:Stk a b) (k:Stk b c):Stk a c:=fun e=>by
 obtain ⟨h1,h2⟩:=h e
 obtain ⟨k1,k2⟩:=k (by rw [h1];exact e)
 exact ⟨k1.trans h1,k2.trans h2⟩
def ZJ {α:Type} (f:PS->α×PS):Prop:=∀ s,Stk s (f s).2
theorem ZH (s:PS):Stk s (Zb s):=fun _=>⟨rfl,rfl⟩
theorem Zdh (s:PS):Stk s (Zaq s):=fun _=>⟨rfl,rfl⟩
theorem ZcU (e:Int) (s:PS):Stk s (ZL L e s):=fun h=>by unfold ZL;rw [if_neg h];exact ⟨rfl,rfl⟩
theorem ZdU (s:PS):Stk s (inM L s):=by
 unfold inM
 split
 ·exact fun h=>ZcU (L:=L) 12 { s with deep:=s.deep+1 } h
 ·exact fun _=>⟨rfl,rfl⟩
theorem Zq (x:Txt) (s:PS):Stk s (Zd L x s):=by
 unfold Zd
 split
 ·exact ZH s
 ·exact ZcU _ s
theorem ZB:ZJ (Za L):=fun s=>by
 unfold Za
 split
 ·exact ZH s
 ·exact ZcU _ s
theorem Zcf (least:Int):ZJ (ZaH L least):=fun s=>by
 unfold ZaH
 split
 ·exact ZH s
 ·exact ZcU _ s
theorem Zcd:∀ l:List (Int×Txt),ZJ (Zz L l)
 | [],s=>ZcU _ s
 | (i,w)::r,s=>by
  unfold Zz
  split
  ·exact ZH s
  ·exact Zcd r s
theorem Zgo:∀ (f:Nat) (l:List Txt),ZJ (Zbm L f l)
 | 0,_,s=>Stk.refl s
 | f+1,l,s=>by
  unfold Zbm
  split
  ·exact ((ZH s).trans (ZB _)).trans (Zgo f _ _)
  ·exact Stk.refl s
theorem Zbt (w:Txt) (i:Int):ZJ (Zn L w i):=fun s=>by
 unfold Zn
 split
 ·exact ((ZH s).trans (ZB _)).trans (Zgo _ _ _)
 ·exact Stk.refl s
theorem Zc7 {pc:PS->Tr×PS} (hp:ZJ pc) (x y:Txt) (i j:Int):∀ (f:Nat) (a:Tr),ZJ (Zar L pc x y i j f a)
 | 0,_,s=>Stk.refl s
 | f+1,a,s=>by
  unfold Zar
  split
  ·split
   ·exact ((ZH s).trans (hp _)).trans (Zc7 hp x y i j f _ _)
   ·split
    ·exact ((ZH s).trans (hp _)).trans (Zc7 hp x y i j f _ _)
    ·exact Stk.refl s
  ·exact Stk.refl s
theorem Zeb {pc:PS->Tr×PS} (hp:ZJ pc):ZJ (ZaE L pc):=fun s=>(hp s).trans (Zc7 hp _ _ _ _ _ _ _)
theorem Zdi {pc:PS->Tr×PS} (hp:ZJ pc):ZJ (Zay L pc):=fun s=>(Zeb hp s).trans (Zc7 (Zeb hp) _ _ _ _ _ _ _)
theorem Zdz {pc:PS->Tr×PS} (hp:ZJ pc):ZJ (Zbb L pc):=fun s=>by
 unfold Zbb
 dsimp only
 split
 ·exact ((Zdi hp s).trans (ZH _)).trans (Zdi hp _)
 ·split
  ·exact ((Zdi hp s).trans (ZH _)).trans (Zdi hp _)
  ·exact Zdi hp s
theorem Zcg:∀ f:Nat,ZJ (ZG L f)
 | 0,s=>Stk.refl s
 | f+1,s=>by
  unfold ZG
  split
  ·exact Stk.refl s
  ·split
   ·exact Zcf 0 s
   ·split
    ·exact ZB s
    ·split
     ·exact (((ZH s).trans (ZdU _)).trans (Zcg f _)).trans (Zdh _)
     ·exact ((((Zq _ s).trans (ZdU _)).trans (Zdz (Zcg f) _)).trans (Zdh _)).trans (Zq _ _)
theorem Zb1 {ea:PS->Tr×PS} (hp:ZJ ea) (x:Txt):∀ (f:Nat) (l:List Tr),ZJ (ZC L ea x f l)
 | 0,_,s=>Stk.refl s
 | f+1,l,s=>by
  unfold ZC
  split
  ·split
   ·exact ZH s
   ·exact (hp s).trans (Zb1 hp x f _ _)
  ·exact Stk.refl s
theorem ZaZ {ea:PS->Tr×PS} (hp:ZJ ea):∀ (f:Nat) (first:Bool) (l:List Tr),ZJ (Zr L ea f first l)
 | 0,_,_,s=>Stk.refl s
 | f+1,first,l,s=>by
  unfold Zr
  split
  ·split
   ·exact ZH s
   ·dsimp only
    split
    ·exact (hp s).trans (ZaZ hp f _ _ _)
    ·exact ((Zq _ s).trans (hp _)).trans (ZaZ hp f _ _ _)
  ·exact Stk.refl s
theorem Zal {st:PS->Tr×PS} (hp:ZJ st):ZJ (Zm L st):=fun s=>
 (((Zq _ s).trans (ZdU _)).trans (Zb1 hp _ _ _ _)).trans (Zdh _)
theorem ZcK {ex:PS->Tr×PS} (hx:ZJ ex):ZJ (ZV L ex):=fun s=>by
 unfold ZV
 split
 ·exact (ZH s).trans (ZB _)
 ·exact hx s
theorem Zgp {st:PS->Tr×PS} (hp:ZJ st):ZJ (Zax L st):=fun s=>(ZB s).trans (Zal hp _)
theorem ZlB {ex:PS->Tr×PS} (hx:ZJ ex) (p:Int):ZJ (Za4 L ex p):=fun s=>by
 unfold Za4
 dsimp only
 split
 ·exact (((((ZB s).trans (ZH _)).trans (ZB _)).trans (Zq _ _)).trans (ZaZ (ZcK hx) _ _ _ _)).trans (Zq _ _)
 ·exact (((ZB s).trans (Zq _ _)).trans (ZaZ (ZcK hx) _ _ _ _)).trans (Zq _ _)
theorem Zmy {st:PS->Tr×PS} (hp:ZJ st) (p:Int):ZJ (doM L st p):=fun s=>by
 unfold doM
 dsimp only
 split
 ·exact (((ZB s).trans (Zq _ _)).trans (ZB _)).trans (ZH _)
 ·exact ((((ZB s).trans (Zq _ _)).trans (ZB _)).trans (Zq _ _)).trans (Zb1 (Zgp hp) _ _ _ _)
theorem ZlC {ex st:PS->Tr×PS} (hx:ZJ ex) (hp:ZJ st) (p:Int):ZJ (ZbM L ex st p):=fun s=>by
 unfold ZbM
 dsimp only
 split
 ·split
  ·exact ((((ZH s).trans (hx _)).trans (Zal hp _)).trans (ZH _)).trans (Zal hp _)
  ·exact ((ZH s).trans (hx _)).trans (Zal hp _)
 ·split
  ·exact ((ZH s).trans (hx _)).trans (Zal hp _)
  ·split
   ·exact ((ZH s).trans (hx _)).trans (Zq _ _)
   ·exact (Zq _ s).trans (Zq _ _)
theorem ZkV {st:PS->Tr×PS} (hp:ZJ st) (p:Int):ZJ (Za8 L st p):=fun s=>
 ((((((((ZB s).trans (Zq _ _)).trans (ZB _)).trans (Zcd _ _)).trans (Zcf _ _)).trans (Zq _ _)).trans (Zcf _ _)).trans (Zbt _ _ _)).trans (Zal hp _)
theorem ZaT {ex:PS->Tr×PS} (hx:ZJ ex):∀ f:Nat,ZJ (Zh L ex f)
 | 0,s=>Stk.refl s
 | f+1,s=>by
  unfold Zh
  dsimp only
  split
  ·exact ((((ZH s).trans (ZB _)).trans (Zq _ _)).trans (hx _)).trans (Zq _ _)
  ·split
   ·exact (((ZB s).trans (Zq _ _)).trans (hx _)).trans (Zq _ _)
   ·split
    ·exact (((((ZH s).trans (ZB _)).trans (ZB _)).trans (Zal (ZaT hx f) _)).trans (Zq _ _)).trans (Zal (ZaT hx f) _)
    ·split
     ·exact (ZH s).trans (Zmy (ZaT hx f) _ _)
     ·split
      ·exact (ZH s).trans (ZkV (ZaT hx f) _ _)
      ·split
       ·exact (ZH s).trans (ZlB hx _ _)
       ·exact ZlC hx (ZaT hx f) _ s
theorem ZdV:∀ (f:Nat) (l:List Txt),ZJ (Zb9 L f l)
 | 0,_,s=>Stk.refl s
 | f+1,l,s=>by
  unfold Zb9
  dsimp only
  split
  ·split
   ·exact (((ZB s).trans (ZB _)).trans (ZH _)).trans (ZdV f _ _)
   ·exact (ZB s).trans (ZB _)
  ·exact Stk.refl s
theorem ZlD:ZJ (Zan L):=fun s=>by
 unfold Zan
 dsimp only
 split
 ·exact ((ZH s).trans (ZB _)).trans (Zq _ _)
 ·split
  ·exact ((ZH s).trans (ZB _)).trans (Zq _ _)
  ·exact (((((Zq _ s).trans (ZB _)).trans (ZB _)).trans (Zq _ _)).trans (ZdV _ _ _)).trans (Zq _ _)
theorem Zcx:ZJ (ZP L):=fun s=>by
 unfold ZP
 dsimp only
 split
 ·split
  ·exact (((((((((ZB s).trans (ZH _)).trans (ZB _)).trans (Zcd _ _)).trans (ZH _)).trans (Zcf _ _)).trans (Zq _ _)).trans (Zcf _ _)).trans (Zbt _ _ _)).trans ((Zbt _ _ _).trans (Zbt _ _ _))
  ·exact ((((ZB s).trans (ZH _)).trans (ZB _)).trans (Zcd _ _)).trans ((Zbt _ _ _).trans ((Zbt _ _ _).trans (Zbt _ _ _)))
 ·exact ZB s
end
end
section
theorem ZdT (p:UInt8->Bool):∀ l:List UInt8,Zac p (l.take (Zac p l))=Zac p l
 | []=>rfl
 | c::r=>by
  rw [Zbs]
  cases h:p c with
  | false=>rfl
  | true=>
   rw [if_pos rfl,List.take_succ_cons,Zbs,if_pos h,ZdT p r]
theorem ZkS {c:UInt8} {r:List UInt8} {n:Nat} (h:Zbr (c::r)=some n):Zbr ((c::r).take n)=some n:=by
 rw [Zer] at h
 split at h
 ·rename_i q
  injection h with h
  subst h
  cases r with
  | nil=>simp at q
  | cons d r=>
   show Zbr (c::[d])=some 2
   rw [Zer,if_pos (by simpa using q)]
 ·split at h
  ·rename_i q
   injection h with h
   subst h
   show Zbr (c::[])=some 1
   rw [Zer,if_neg (by simp),if_pos q]
  ·cases h
def ZdZ (t:Tok):Prop:=∃ c r,t.2.1=c::r/\ZY (c::r)=(t.1,(c::r).length,true)
theorem ZhZ {c:UInt8} {r:List UInt8} (h:(ZY (c::r)).2.2=true) (a:Nat):ZdZ ((ZY (c::r)).1,(c::r).take (ZY (c::r)).2.1,a):=by
 have hp:=Zch h
 obtain ⟨j,hj⟩:∃ j,(ZY (c::r)).2.1=j+1:=⟨(ZY (c::r)).2.1-1,by omega⟩
 refine ⟨c,r.take j,by rw [hj];rfl,?_⟩
 have ht:(c::r).take (ZY (c::r)).2.1=c::r.take j:=by rw [hj];rfl
 have hlen:(c::r.take j).length=(ZY (c::r)).2.1:=by
  rw [<- ht,List.length_take]
  exact Nat.min_eq_left (Ze9 _)
 rw [hlen]
 rw [Zbf c (r.take j)]
 rw [Zbf] at h ht ⊢
 split
 ·rename_i g
  rw [if_pos g] at ht
  rw [<- ht]
  dsimp only
  rw [ZdT]
 ·rename_i g
  rw [if_neg g] at h ht
  split
  ·rename_i g2
   rw [if_pos g2] at h ht
   rw [<- ht]
   dsimp only at h ⊢
   rw [ZdT,h]
  ·rename_i g2
   rw [if_neg g2] at h ht
   cases q:Zbr (c::r) with
   | none=>rw [q] at h;cases h
   | some n=>
    rw [q] at ht
    dsimp only at ht
    rw [<- ht,ZkS q]
theorem Zkv:∀ (m:Nat) (l:List UInt8) (a:Nat) (ts:List Tok),l.length<=m->Zat l a=.ok ts->(∀ t∈ts.dropLast,ZdZ t)/\∃ e,ts=ts.dropLast++[(3,[],e)]:=by
 intro m
 induction m with
 | zero=>
  intro l a ts hm h
  obtain rfl:l=[]:=List.eq_nil_of_length_eq_zero (by omega)
  rw [Zel] at h
  injection h with h
  subst h
  exact ⟨fun t ht=>(by simp at ht),a,rfl⟩
 | succ m ih=>
  intro l a ts hm h
  have le:=ZcC l
  cases q:l.drop (Zt l) with
  | nil=>
   have h1:Zt l=l.length:=by
    have:=List.length_drop (i:=Zt l) (l:=l)
    rw [q] at this
    simp at this
    omega
   rw [Zdq h1] at h
   injection h with h
   subst h
   exact ⟨fun t ht=>(by simp at ht),_,rfl⟩
  | cons c r=>
   have hl:(c::r).length<=l.length:=by rw [<- q,List.length_drop];omega
   cases f:(ZY (c::r)).2.2 with
   | false=>rw [Zek q f] at h;cases h
   | true=>
    have hp:=Zch f
    rw [ZcO q f] at h
    cases g:Zat ((c::r).drop (ZY (c::r)).2.1) (a+Zt l+(ZY (c::r)).2.1) with
    | bad p=>rw [g] at h;cases h
    | ok us=>
     rw [g] at h
     injection h with h
     subst h
     obtain ⟨i1,e,i2⟩:=ih _ _ us (by rw [List.length_drop];simp at hl ⊢;omega) g
     have hne:us≠[]:=Zku _ _ _ _ (Nat.le_refl _) g
     rw [List.dropLast_cons_of_ne_nil hne]
     refine ⟨fun t ht=>?_,e,by rw [List.cons_append,<- i2]⟩
     rcases List.mem_cons.1 ht with rfl | ht
     ·exact ZhZ f _
     ·exact i1 t ht
end
section
structure LexL (L:List Tok):Prop where
 ok:∀ t∈L.dropLast,ZdZ t
 end_:∃ e,L=L.dropLast++[(3,[],e)]
theorem LexL.tok {L:List Tok} (h:LexL L) {k:Nat} (hk:k<L.length):ZdZ (Zx L k)\/∃ e,Zx L k=(3,[],e):=by
 obtain ⟨e,he⟩:=h.end_
 have hl:L.length=L.dropLast.length+1:=by
  have:=congrArg List.length he
  simpa using this
 rcases Nat.lt_or_ge k L.dropLast.length with q | q
 ·left
  obtain ⟨t,ht⟩:∃ t,L.dropLast[k]? = some t:=⟨_,List.getElem?_eq_getElem q⟩
  have e1:L[k]? = some t:=by
   have:=congrArg (fun l=>l[k]?) he
   rw [this,List.getElem?_append_left q,ht]
  unfold Zx
  rw [e1]
  exact h.ok t (List.mem_of_getElem? ht)
 ·right
  refine ⟨e,?_⟩
  have e1:L[k]? = some (3,[],e):=by
   have:=congrArg (fun l=>l[k]?) he
   rw [this,List.getElem?_append_right q,show k-L.dropLast.length=0 by omega]
   rfl
  unfold Zx
  rw [e1]
  rfl
theorem ZdZ.kind {t:Tok} (h:ZdZ t):∃ c r,t.2.1=c::r/\(t.1=0↔ZaA c=true)/\(t.1=1↔ZaA c=false/\Zai c=true)/\(t.1=2↔ZaA c=false/\Zai c=false)/\t.1≠3:=by
 obtain ⟨c,r,e,f⟩:=h
 refine ⟨c,r,e,?_⟩
 rw [Zbf] at f
 cases q:ZaA c with
 | true=>
  rw [q,if_pos rfl] at f
  injection f with f _
  rw [<- f]
  simp
 | false=>
  rw [q,if_neg (by simp)] at f
  cases p:Zai c with
  | true=>
   rw [p,if_pos rfl] at f
   injection f with f _
   rw [<- f]
   simp
  | false=>
   rw [p,if_neg (by simp)] at f
   cases s:Zbr (c::r) with
   | none=>
    rw [s] at f
    injection f with _ f
    injection f with _ f
    cases f
   | some n=>
    rw [s] at f
    injection f with f _
    rw [<- f]
    simp
def PW (x:Txt):Prop:=x≠[]/\(isKey x=true\/∃ c r,x=c::r/\ZaA c=false/\Zai c=false)
theorem ZlY:∀ x∈Zs,∃ c r,x=c::r/\ZaA c=true:=by
 have:∀ x∈Zs,(match x with | []=>false | c::_=>ZaA c)=true:=by decide
 intro x hx
 have h:=this x hx
 cases x with
 | nil=>cases h
 | cons c r=>exact ⟨c,r,rfl,h⟩
theorem Zfd {x:Txt} (h:isKey x=true):∃ c r,x=c::r/\ZaA c=true:=by
 unfold isKey at h
 rw [List.any_eq_true] at h
 obtain ⟨k,hk,e⟩:=h
 rw [<- eq_of_beq e]
 exact ZlY k hk
theorem ZlW {L:List Tok} (h:LexL L) {x:Txt} (hx:PW x) {s:PS} (he:s.err=0) (hs:s.at_<L.length):isM L x s=decide ((Zx L s.at_).2.1=x):=by
 have hn:Zak L s=Zx L s.at_:=by unfold Zak;rw [if_neg (by simp [he])]
 unfold isM
 rw [hn,show decide (s.err=0)=true by simp [he],Bool.and_true]
 by_cases q:(Zx L s.at_).2.1=x
 ·rw [decide_eq_true q,Bool.true_and]
  rcases h.tok hs with t | ⟨e,t⟩
  ·obtain ⟨c,r,e1,k0,k1,k2,_⟩:=t.kind
   rw [q] at e1
   rcases hx.2 with hk | ⟨d,u,e2,l1,l2⟩
   ·obtain ⟨d,u,e2,l1⟩:=Zfd hk
    rw [e1] at e2
    injection e2 with e2 _
    rw [<- e2] at l1
    rw [decide_eq_true (k0.2 l1),hk]
    simp
   ·rw [e1] at e2
    injection e2 with e2 _
    rw [<- e2] at l1 l2
    rw [decide_eq_true (k2.2 ⟨l1,l2⟩)]
    rfl
  ·rw [t] at q
   exact absurd q.symm hx.1
 ·rw [decide_eq_false q]
  rfl
theorem Zii {L:List Tok} (h:LexL L) {s:PS} (he:s.err=0) (hs:s.at_<L.length):ZaO L s=Zbn (Zx L s.at_).2.1:=by
 have hn:Zak L s=Zx L s.at_:=by unfold Zak;rw [if_neg (by simp [he])]
 unfold ZaO
 rw [hn,show decide (s.err=0)=true by simp [he],Bool.and_true]
 cases q:Zbn (Zx L s.at_).2.1 with
 | false=>rw [Bool.and_false]
 | true=>
  rw [Bool.and_true,decide_eq_true_eq]
  rcases h.tok hs with t | ⟨e,t⟩
  ·obtain ⟨c,r,e1,k0,_⟩:=t.kind
   rw [e1] at q
   unfold Zbn at q
   simp only [Bool.and_eq_true] at q
   exact k0.2 q.1.1.1
  ·rw [t] at q
   cases q
theorem ZlN:∀ {c:UInt8},Zai c=true->ZaA c=false:=fun {c} h=>by
 unfold Zai Zdb at h
 unfold ZaA Zco
 simp only [Bool.and_eq_true,decide_eq_true_eq] at h
 cases q:Zco c.toNat with
 | false=>simpa [Zco] using q
 | true=>
  unfold Zco at q
  simp at q
  omega
theorem Zfx (p:UInt8->Bool):∀ l:List UInt8,Zac p l=l.length->∀ d∈l,p d=true
 | [],_,d,hd=>by cases hd
 | c::r,h,d,hd=>by
  rw [Zbs] at h
  cases q:p c with
  | false=>rw [q] at h;simp at h
  | true=>
   rw [q,if_pos rfl,List.length_cons] at h
   rcases List.mem_cons.1 hd with rfl | hd
   ·exact q
   ·exact Zfx p r (by omega) d hd
theorem Zle {L:List Tok} (h:LexL L) {k:Nat} (hk:k<L.length):(Zx L k).1=1↔∃ c r,(Zx L k).2.1=c::r/\(∀ d∈c::r,Zai d=true)/\(c::r).length<=18:=by
 rcases h.tok hk with t | ⟨e,t⟩
 ·obtain ⟨c,r,e1,k0,k1,k2,_⟩:=t.kind
  constructor
  ·intro q
   obtain ⟨c',r',e2,f⟩:=t
   rw [e1] at e2
   injection e2 with e3 e4
   subst e3 e4
   obtain ⟨l1,l2⟩:=k1.1 q
   rw [Zbf,l1,if_neg (by simp),l2,if_pos rfl] at f
   injection f with _ f
   injection f with f1 f2
   refine ⟨c,r,e1,fun d hd=>?_,?_⟩
   ·exact Zfx Zai (c::r) f1 d hd
   ·rw [f1] at f2
    exact of_decide_eq_true f2
  ·rintro ⟨c',r',e2,hd,_⟩
   rw [e1] at e2
   injection e2 with e3 e4
   subst e3 e4
   have dc:=hd c (.head _)
   exact k1.2 ⟨ZlN dc,dc⟩
 ·rw [t]
  constructor
  ·intro q;cases q
  ·rintro ⟨c,r,e2,_⟩
   cases e2
end
end Go.Proofs.YtfdgeijnkkdplaaDoor
