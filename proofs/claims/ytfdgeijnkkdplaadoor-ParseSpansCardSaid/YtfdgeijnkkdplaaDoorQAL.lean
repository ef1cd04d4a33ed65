import Derived.Test.YtfdgeijnkkdplaaDoorQAI
import Derived.Test.YtfdgeijnkkdplaaDoorQAK
set_option maxRecDepth 100000
set_option maxHeartbeats 8000000
namespace Go.Proofs.YtfdgeijnkkdplaaDoor
section
section
variable {L:List Tok}
def Stk (s s2:PS):Prop:=s.err≠0->s2.err=s.err/\s2.fat=s.fat
theorem Stk.refl (s:PS):Stk s s:=fun _=>⟨rfl,rfl⟩
theorem Stk.trans {a b c:PS} (h:Stk a b) (k:Stk b c):Stk a c:=fun e=>by
 obtain ⟨h1,h2⟩:=h e
 obtain ⟨k1,k2⟩:=k (by rw [h1];exact e)
 exact ⟨k1.trans h1,k2.trans h2⟩
def ZK {α:Type} (f:PS->α×PS):Prop:=∀ s,Stk s (f s).2
theorem ZJ (s:PS):Stk s (Zb s):=fun _=>⟨rfl,rfl⟩
theorem Zdp (s:PS):Stk s (Zas s):=fun _=>⟨rfl,rfl⟩
theorem Zc4 (e:Int) (s:PS):Stk s (ZM L e s):=fun h=>by unfold ZM;rw [if_neg h];exact ⟨rfl,rfl⟩
theorem Zee (s:PS):Stk s (inM L s):=by
 unfold inM
 split
 ·exact fun h=>Zc4 (L:=L) 12 { s with deep:=s.deep+1 } h
 ·exact fun _=>⟨rfl,rfl⟩
theorem Zt (x:Txt) (s:PS):Stk s (Zd L x s):=by
 unfold Zd
 split
 ·exact ZJ s
 ·exact Zc4 _ s
theorem ZF:ZK (Za L):=fun s=>by
 unfold Za
 split
 ·exact ZJ s
 ·exact Zc4 _ s
theorem Zcp (least:Int):ZK (ZaJ L least):=fun s=>by
 unfold ZaJ
 split
 ·exact ZJ s
 ·exact Zc4 _ s
theorem Zcm:∀ l:List (Int×Txt),ZK (ZA L l)
 | [],s=>Zc4 _ s
 | (i,w)::r,s=>by
  unfold ZA
  split
  ·exact ZJ s
  ·exact Zcm r s
theorem Zgx:∀ (f:Nat) (l:List Txt),ZK (ZbB L f l)
 | 0,_,s=>Stk.refl s
 | f+1,l,s=>by
  unfold ZbB
  split
  ·exact ((ZJ s).trans (ZF _)).trans (Zgx f _ _)
  ·exact Stk.refl s
theorem ZbI (w:Txt) (i:Int):ZK (Zj L w i):=fun s=>by
 unfold Zj
 split
 ·exact ((ZJ s).trans (ZF _)).trans (Zgx _ _ _)
 ·exact Stk.refl s
theorem Zdf {pc:PS->Tr×PS} (hp:ZK pc) (x y:Txt) (i j:Int):∀ (f:Nat) (a:Tr),ZK (Zaj L pc x y i j f a)
 | 0,_,s=>Stk.refl s
 | f+1,a,s=>by
  unfold Zaj
  split
  ·split
   ·exact ((ZJ s).trans (hp _)).trans (Zdf hp x y i j f _ _)
   ·split
    ·exact ((ZJ s).trans (hp _)).trans (Zdf hp x y i j f _ _)
    ·exact Stk.refl s
  ·exact Stk.refl s
theorem Zew {pc:PS->Tr×PS} (hp:ZK pc):ZK (Zat L pc):=fun s=>(hp s).trans (Zdf hp _ _ _ _ _ _ _)
theorem Zdq {pc:PS->Tr×PS} (hp:ZK pc):ZK (Zau L pc):=fun s=>(Zew hp s).trans (Zdf (Zew hp) _ _ _ _ _ _ _)
theorem ZdP {pc:PS->Tr×PS} (hp:ZK pc):ZK (ZaH L pc):=fun s=>by
 unfold ZaH
 dsimp only
 split
 ·exact ((Zdq hp s).trans (ZJ _)).trans (Zdq hp _)
 ·split
  ·exact ((Zdq hp s).trans (ZJ _)).trans (Zdq hp _)
  ·exact Zdq hp s
theorem Zcq:∀ f:Nat,ZK (ZD L f)
 | 0,s=>Stk.refl s
 | f+1,s=>by
  unfold ZD
  split
  ·exact Stk.refl s
  ·split
   ·exact Zcp 0 s
   ·split
    ·exact ZF s
    ·split
     ·exact (((ZJ s).trans (Zee _)).trans (Zcq f _)).trans (Zdp _)
     ·exact ((((Zt _ s).trans (Zee _)).trans (ZdP (Zcq f) _)).trans (Zdp _)).trans (Zt _ _)
theorem Zca {ea:PS->Tr×PS} (hp:ZK ea) (x:Txt):∀ (f:Nat) (l:List Tr),ZK (ZC L ea x f l)
 | 0,_,s=>Stk.refl s
 | f+1,l,s=>by
  unfold ZC
  split
  ·split
   ·exact ZJ s
   ·exact (hp s).trans (Zca hp x f _ _)
  ·exact Stk.refl s
theorem Za6 {ea:PS->Tr×PS} (hp:ZK ea):∀ (f:Nat) (first:Bool) (l:List Tr),ZK (Zp L ea f first l)
 | 0,_,_,s=>Stk.refl s
 | f+1,first,l,s=>by
  unfold Zp
  split
  ·split
   ·exact ZJ s
   ·dsimp only
    split
    ·exact (hp s).trans (Za6 hp f _ _ _)
    ·exact ((Zt _ s).trans (hp _)).trans (Za6 hp f _ _ _)
  ·exact Stk.refl s
theorem Zaq {st:PS->Tr×PS} (hp:ZK st):ZK (Zk L st):=fun s=>
 (((Zt _ s).trans (Zee _)).trans (Zca hp _ _ _ _)).trans (Zdp _)
theorem ZcU {ex:PS->Tr×PS} (hx:ZK ex):ZK (ZP L ex):=fun s=>by
 unfold ZP
 split
 ·exact (ZJ s).trans (ZF _)
 ·exact hx s
theorem Zgy {st:PS->Tr×PS} (hp:ZK st):ZK (Zaw L st):=fun s=>(ZF s).trans (Zaq hp _)
theorem ZlM {ex:PS->Tr×PS} (hx:ZK ex) (p:Int):ZK (ZaN L ex p):=fun s=>by
 unfold ZaN
 dsimp only
 split
 ·exact (((((ZF s).trans (ZJ _)).trans (ZF _)).trans (Zt _ _)).trans (Za6 (ZcU hx) _ _ _ _)).trans (Zt _ _)
 ·exact (((ZF s).trans (Zt _ _)).trans (Za6 (ZcU hx) _ _ _ _)).trans (Zt _ _)
theorem ZmN {st:PS->Tr×PS} (hp:ZK st) (p:Int):ZK (doM L st p):=fun s=>by
 unfold doM
 dsimp only
 split
 ·exact (((ZF s).trans (Zt _ _)).trans (ZF _)).trans (ZJ _)
 ·exact ((((ZF s).trans (Zt _ _)).trans (ZF _)).trans (Zt _ _)).trans (Zca (Zgy hp) _ _ _ _)
theorem ZlN {ex st:PS->Tr×PS} (hx:ZK ex) (hp:ZK st) (p:Int):ZK (Zbx L ex st p):=fun s=>by
 unfold Zbx
 dsimp only
 split
 ·split
  ·exact ((((ZJ s).trans (hx _)).trans (Zaq hp _)).trans (ZJ _)).trans (Zaq hp _)
  ·exact ((ZJ s).trans (hx _)).trans (Zaq hp _)
 ·split
  ·exact ((ZJ s).trans (hx _)).trans (Zaq hp _)
  ·split
   ·exact ((ZJ s).trans (hx _)).trans (Zt _ _)
   ·exact (Zt _ s).trans (Zt _ _)
theorem Zk3 {st:PS->Tr×PS} (hp:ZK st) (p:Int):ZK (ZaK L st p):=fun s=>
 ((((((((ZF s).trans (Zt _ _)).trans (ZF _)).trans (Zcm _ _)).trans (Zcp _ _)).trans (Zt _ _)).trans (Zcp _ _)).trans (ZbI _ _ _)).trans (Zaq hp _)
theorem Za0 {ex:PS->Tr×PS} (hx:ZK ex):∀ f:Nat,ZK (Zi L ex f)
 | 0,s=>Stk.refl s
 | f+1,s=>by
  unfold Zi
  dsimp only
  split
  ·exact ((((ZJ s).trans (ZF _)).trans (Zt _ _)).trans (hx _)).trans (Zt _ _)
  ·split
   ·exact (((ZF s).trans (Zt _ _)).trans (hx _)).trans (Zt _ _)
   ·split
    ·exact (((((ZJ s).trans (ZF _)).trans (ZF _)).trans (Zaq (Za0 hx f) _)).trans (Zt _ _)).trans (Zaq (Za0 hx f) _)
    ·split
     ·exact (ZJ s).trans (ZmN (Za0 hx f) _ _)
     ·split
      ·exact (ZJ s).trans (Zk3 (Za0 hx f) _ _)
      ·split
       ·exact (ZJ s).trans (ZlM hx _ _)
       ·exact ZlN hx (Za0 hx f) _ s
theorem Zef:∀ (f:Nat) (l:List Txt),ZK (Zci L f l)
 | 0,_,s=>Stk.refl s
 | f+1,l,s=>by
  unfold Zci
  dsimp only
  split
  ·split
   ·exact (((ZF s).trans (ZF _)).trans (ZJ _)).trans (Zef f _ _)
   ·exact (ZF s).trans (ZF _)
  ·exact Stk.refl s
theorem ZlO:ZK (Zai L):=fun s=>by
 unfold Zai
 dsimp only
 split
 ·exact ((ZJ s).trans (ZF _)).trans (Zt _ _)
 ·split
  ·exact ((ZJ s).trans (ZF _)).trans (Zt _ _)
  ·exact (((((Zt _ s).trans (ZF _)).trans (ZF _)).trans (Zt _ _)).trans (Zef _ _ _)).trans (Zt _ _)
theorem ZcI:ZK (ZN L):=fun s=>by
 unfold ZN
 dsimp only
 split
 ·split
  ·exact (((((((((ZF s).trans (ZJ _)).trans (ZF _)).trans (Zcm _ _)).trans (ZJ _)).trans (Zcp _ _)).trans (Zt _ _)).trans (Zcp _ _)).trans (ZbI _ _ _)).trans ((ZbI _ _ _).trans (ZbI _ _ _))
  ·exact ((((ZF s).trans (ZJ _)).trans (ZF _)).trans (Zcm _ _)).trans ((ZbI _ _ _).trans ((ZbI _ _ _).trans (ZbI _ _ _)))
 ·exact ZF s
end
end
section
structure LexL (L:List Tok):Prop where
 ok:∀ t∈L.dropLast,Zek t
 end_:∃ e,L=L.dropLast++[(3,[],e)]
theorem LexL.tok {L:List Tok} (h:LexL L) {k:Nat} (hk:k<L.length):Zek (Zx L k)\/∃ e,Zx L k=(3,[],e):=by
 obtain ⟨e,he⟩:=h.end_
 have hl:L.length=L.dropLast.length+1:=by
  have:=congrArg List.length he
  simpa using this
 rcases Nat.lt_or_ge k L.dropLast.length with q | q
 ·left
  obtain ⟨t,ht⟩:∃ t,L.dropLast[k]? = some t:=⟨_,List.getElem?_eq_getElem q⟩
  have e1:L[k]? = some t:=by
   have:=congrArg (fun l=>l[k]?) he
   rw [this,List.getElem?_append_left q,ht]
  unfold Zx
  rw [e1]
  exact h.ok t (List.mem_of_getElem? ht)
 ·right
  refine ⟨e,?_⟩
  have e1:L[k]? = some (3,[],e):=by
   have:=congrArg (fun l=>l[k]?) he
   rw [this,List.getElem?_append_right q,show k-L.dropLast.length=0 by omega]
   rfl
  unfold Zx
  rw [e1]
  rfl
theorem Zek.kind {t:Tok} (h:Zek t):∃ c r,t.2.1=c::r/\(t.1=0↔ZaE c=true)/\(t.1=1↔ZaE c=false/\Zal c=true)/\(t.1=2↔ZaE c=false/\Zal c=false)/\t.1≠3:=by
 obtain ⟨c,r,e,f⟩:=h
 refine ⟨c,r,e,?_⟩
 rw [Zbo] at f
 cases q:ZaE c with
 | true=>
  rw [q,if_pos rfl] at f
  injection f with f _
  rw [<- f]
  simp
 | false=>
  rw [q,if_neg (by simp)] at f
  cases p:Zal c with
  | true=>
   rw [p,if_pos rfl] at f
   injection f with f _
   rw [<- f]
   simp
  | false=>
   rw [p,if_neg (by simp)] at f
   cases s:ZbG (c::r) with
   | none=>
    rw [s] at f
    injection f with _ f
    injection f with _ f
    cases f
   | some n=>
    rw [s] at f
    injection f with f _
    rw [<- f]
    simp
def PW (x:Txt):Prop:=x≠[]/\(isKey x=true\/∃ c r,x=c::r/\ZaE c=false/\Zal c=false)
theorem Zmb:∀ x∈Zu,∃ c r,x=c::r/\ZaE c=true:=by
 have:∀ x∈Zu,(match x with | []=>false | c::_=>ZaE c)=true:=by decide
 intro x hx
 have h:=this x hx
 cases x with
 | nil=>cases h
 | cons c r=>exact ⟨c,r,rfl,h⟩
theorem Zfu {x:Txt} (h:isKey x=true):∃ c r,x=c::r/\ZaE c=true:=by
 unfold isKey at h
 rw [List.any_eq_true] at h
 obtain ⟨k,hk,e⟩:=h
 rw [<- eq_of_beq e]
 exact Zmb k hk
theorem Zl9 {L:List Tok} (h:LexL L) {x:Txt} (hx:PW x) {s:PS} (he:s.err=0) (hs:s.at_<L.length):isM L x s=decide ((Zx L s.at_).2.1=x):=by
 have hn:Zao L s=Zx L s.at_:=by unfold Zao;rw [if_neg (by simp [he])]
 unfold isM
 rw [hn,show decide (s.err=0)=true by simp [he],Bool.and_true]
 by_cases q:(Zx L s.at_).2.1=x
 ·rw [decide_eq_true q,Bool.true_and]
  rcases h.tok hs with t | ⟨e,t⟩
  ·obtain ⟨c,r,e1,k0,k1,k2,_⟩:=t.kind
   rw [q] at e1
   rcases hx.2 with hk | ⟨d,u,e2,l1,l2⟩
   ·obtain ⟨d,u,e2,l1⟩:=Zfu hk
    rw [e1] at e2
    injection e2 with e2 _
    rw [<- e2] at l1
    rw [decide_eq_true (k0.2 l1),hk]
    simp
   ·rw [e1] at e2
    injection e2 with e2 _
    rw [<- e2] at l1 l2
    rw [decide_eq_true (k2.2 ⟨l1,l2⟩)]
    rfl
  ·rw [t] at q
   exact absurd q.symm hx.1
 ·rw [decide_eq_false q]
  rfl
theorem Ziq {L:List Tok} (h:LexL L) {s:PS} (he:s.err=0) (hs:s.at_<L.length):ZaU L s=Zch (Zx L s.at_).2.1:=by
 have hn:Zao L s=Zx L s.at_:=by unfold Zao;rw [if_neg (by simp [he])]
 unfold ZaU
 rw [hn,show decide (s.err=0)=true by simp [he],Bool.and_true]
 cases q:Zch (Zx L s.at_).2.1 with
 | false=>rw [Bool.and_false]
 | true=>
  rw [Bool.and_true,decide_eq_true_eq]
  rcases h.tok hs with t | ⟨e,t⟩
  ·obtain ⟨c,r,e1,k0,_⟩:=t.kind
   rw [e1] at q
   unfold Zch at q
   simp only [Bool.and_eq_true] at q
   exact k0.2 q.1.1.1
  ·rw [t] at q
   cases q
theorem Zl0:∀ {c:UInt8},Zal c=true->ZaE c=false:=fun {c} h=>by
 unfold Zal Zdj at h
 unfold ZaE ZcA
 simp only [Bool.and_eq_true,decide_eq_true_eq] at h
 cases q:ZcA c.toNat with
 | false=>simpa [ZcA] using q
 | true=>
  unfold ZcA at q
  simp at q
  omega
theorem ZfJ (p:UInt8->Bool):∀ l:List UInt8,Zad p l=l.length->∀ d∈l,p d=true
 | [],_,d,hd=>by cases hd
 | c::r,h,d,hd=>by
  rw [ZbH] at h
  cases q:p c with
  | false=>rw [q] at h;simp at h
  | true=>
   rw [q,if_pos rfl,List.length_cons] at h
   rcases List.mem_cons.1 hd with rfl | hd
   ·exact q
   ·exact ZfJ p r (by omega) d hd
theorem Zll {L:List Tok} (h:LexL L) {k:Nat} (hk:k<L.length):(Zx L k).1=1↔∃ c r,(Zx L k).2.1=c::r/\(∀ d∈c::r,Zal d=true)/\(c::r).length<=18:=by
 rcases h.tok hk with t | ⟨e,t⟩
 ·obtain ⟨c,r,e1,k0,k1,k2,_⟩:=t.kind
  constructor
  ·intro q
   obtain ⟨c',r',e2,f⟩:=t
   rw [e1] at e2
   injection e2 with e3 e4
   subst e3 e4
   obtain ⟨l1,l2⟩:=k1.1 q
   rw [Zbo,l1,if_neg (by simp),l2,if_pos rfl] at f
   injection f with _ f
   injection f with f1 f2
   refine ⟨c,r,e1,fun d hd=>?_,?_⟩
   ·exact ZfJ Zal (c::r) f1 d hd
   ·rw [f1] at f2
    exact of_decide_eq_true f2
  ·rintro ⟨c',r',e2,hd,_⟩
   rw [e1] at e2
   injection e2 with e3 e4
   subst e3 e4
   have dc:=hd c (.head _)
   exact k1.2 ⟨Zl0 dc,dc⟩
 ·rw [t]
  constructor
  ·intro q;cases q
  ·rintro ⟨c,r,e2,_⟩
   cases e2
end
end Go.Proofs.YtfdgeijnkkdplaaDoor
