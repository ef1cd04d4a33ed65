import Derived.Test.YtfdgeijnkkdplaaDoorQBF
import Derived.Test.YtfdgeijnkkdplaaDoorQBW
import Derived.Test.YtfdgeijnkkdplaaDoorQBX
set_option maxRecDepth 100000
set_option maxHeartbeats 8000000
namespace Go.Proofs.YtfdgeijnkkdplaaDoor
section
def ZdZ (ns:List Nd):Int->Bool->List Int->Prop
 | _,_,[]=>True
 | last,first,c::r=>∃ y,0<=c/\ns[c.toNat]? = some y/\(last<y.pos\/first=true/\last<=y.pos)/\ZdZ ns y.pos false r
def ZeQ (m:Nat) (ns:List Nd):Prop:=∀ (n:Nat) (x:Nd),m<=n->ns[n]? = some x->ZdZ ns x.pos true x.kids
theorem Zdu {a b:List Nd} (h:∀ (n:Nat) (x:Nd),a[n]? = some x->∃ y:Nd,b[n]? = some y/\y.pos=x.pos):∀ (l:List Int) (last:Int) (first:Bool),ZdZ a last first l->ZdZ b last first l
 | [],_,_,_=>trivial
 | c::r,last,first,hk=>by
  obtain ⟨y,h1,h2,h3,h4⟩:=hk
  obtain ⟨z,z1,z2⟩:=h _ _ h2
  refine ⟨z,h1,z1,by rw [z2];exact h3,?_⟩
  rw [z2]
  exact Zdu h r _ _ h4
mutual
theorem Zmu:∀ (t:Tr) (out:List Nd) (n:Nat),n<out.length->(Zbn t out)[n]? = out[n]?
 | .mk k ws us p ks,out,n,hn=>by
  rw [Zbn,Zbv,if_neg (by omega),ZcC ks _ n (by simp;omega),List.getElem?_append_left hn]
theorem ZcC:∀ (l:List Tr) (out:List Nd) (n:Nat),n<out.length->(Zan l out).2[n]? = out[n]?
 | [],out,n,hn=>by rw [Zan]
 | t::r,out,n,hn=>by
  rw [Zan]
  dsimp only
  rw [ZcC r (Zbn t out) n (by rw [Zcr,Zcz];omega),Zmu t out n hn]
end
theorem Zk6 (k:Int) (ws:List Txt) (us:List Int) (p:Int) (ks:List Tr) (out:List Nd):(Zbn (.mk k ws us p ks) out)[out.length]? = some ⟨k,ws,us,(Zan ks (out++[⟨k,ws,us,[],p⟩])).1,p⟩:=by
 rw [Zbn,Zbv,if_pos rfl,ZcC ks _ out.length (by simp),List.getElem?_append_right (Nat.le_refl _),Nat.sub_self]
 rfl
theorem Zmt (t:Tr) (out:List Nd):(Zbn t out).length=out.length+szT t:=by rw [Zcr,Zcz]
section
variable {L:List Tok} {K:Nat}
mutual
theorem Zk7 (hpl:∀ a b,a<b->b<K->plM L a<plM L b):∀ (t:Tr) (i k:Nat) (out:List Nd),SpT L t i k->k<=K->ZeQ out.length (Zbn t out)
 | .mk kd ws us p ks,i,k,out,h,hk=>by
  unfold SpT at h
  obtain ⟨j,h1,h2,h3,h4⟩:=h
  obtain ⟨c1,c2⟩:=ZhP hpl ks j k (out++[⟨kd,ws,us,[],p⟩]) p true h4 hk (fun j' hj hjk=>by
   rcases Nat.lt_or_ge j j' with q | q
   ·exact Or.inl (by rw [h3];exact hpl _ _ q hjk)
   ·obtain rfl:j'=j:=by omega
    exact Or.inr ⟨rfl,by rw [h3];exact Int.le_refl _⟩)
  have ext:∀ (n:Nat) (x:Nd),(Zan ks (out++[⟨kd,ws,us,[],p⟩])).2[n]? = some x->∃ y:Nd,(Zbn (.mk kd ws us p ks) out)[n]? = some y/\y.pos=x.pos:=fun n x hx=>by
   rw [Zbn,Zbv]
   by_cases q:n=out.length
   ·rw [if_pos q,hx];exact ⟨_,rfl,rfl⟩
   ·rw [if_neg q,hx];exact ⟨_,rfl,rfl⟩
  intro n x hn hx
  by_cases q:n=out.length
  ·subst q
   rw [Zk6] at hx
   injection hx with hx
   subst hx
   exact Zdu ext _ _ _ c1
  ·rw [Zbn,Zbv,if_neg q] at hx
   exact Zdu ext _ _ _ (c2 n x (by simp;omega) hx)
theorem ZhP (hpl:∀ a b,a<b->b<K->plM L a<plM L b):∀ (l:List Tr) (j k:Nat) (out:List Nd) (last:Int) (first:Bool),ZaS L l j k->k<=K->(∀ j',j<=j'->j'<K->last<plM L j'\/first=true/\last<=plM L j')->ZdZ (Zan l out).2 last first (Zan l out).1/\ZeQ out.length (Zan l out).2
 | [],j,k,out,last,first,h,hk,hl=>by
  rw [Zan]
  exact ⟨trivial,fun n x hn hx=>by have:=(List.getElem?_eq_some_iff.1 hx).1;dsimp only at this;omega⟩
 | .mk kd ws us p ks::r,j,k,out,last,first,h,hk,hl=>by
  unfold ZaS at h
  obtain ⟨m,h1,h2⟩:=h
  have hmk:=ZcT h2
  have o1:=Zk7 hpl (.mk kd ws us p ks) j m out h1 (by omega)
  unfold SpT at h1
  obtain ⟨j1,g1,g2,g3,g4⟩:=h1
  obtain ⟨c1,c2⟩:=ZhP hpl r m k (Zbn (.mk kd ws us p ks) out) p false h2 hk (fun j' hj hjk=>Or.inl (by rw [g3];exact hpl _ _ (by omega) hjk))
  have hat:=Zk6 kd ws us p ks out
  have hlen:=Zmt (.mk kd ws us p ks) out
  have hlt:out.length<(Zbn (.mk kd ws us p ks) out).length:=(List.getElem?_eq_some_iff.1 hat).1
  rw [Zan]
  dsimp only
  refine ⟨⟨_,Int.natCast_nonneg _,(ZcC r _ out.length hlt).trans hat,?_,c1⟩,fun n x hn hx=>?_⟩
  ·dsimp only
   rw [g3]
   exact hl j1 g1 (by omega)
  ·by_cases q:n<(Zbn (.mk kd ws us p ks) out).length
   ·rw [ZcC r _ n q] at hx
    refine Zdu (fun n x hx=>?_) _ _ _ (o1 n x hn hx)
    exact ⟨x,(ZcC r _ n (List.getElem?_eq_some_iff.1 hx).1).trans hx,rfl⟩
   ·exact c2 n x (by omega) hx
end
end
end
section
def Zey:Nat->List Tok->Prop
 | _,[]=>True
 | a,t::r=>a<=t.2.2/\Zey (t.2.2+1) r
theorem ZlT:∀ (l:List Tok) (a b:Nat),b<=a->Zey a l->Zey b l
 | [],_,_,_,_=>trivial
 | t::r,a,b,h,⟨h1,h2⟩=>⟨by omega,h2⟩
theorem Zmd:∀ (m:Nat) (l:List UInt8) (a:Nat) (ts:List Tok),l.length<=m->ZaT l a=.ok ts->Zey a ts:=by
 intro m
 induction m with
 | zero=>
  intro l a ts hm h
  obtain rfl:l=[]:=List.eq_nil_of_length_eq_zero (by omega)
  rw [ZeE] at h
  injection h with h
  subst h
  exact ⟨Nat.le_refl _,trivial⟩
 | succ m ih=>
  intro l a ts hm h
  cases q:l.drop (Zw l) with
  | nil=>
   have hb:Zw l=l.length:=by
    have:=List.length_drop (i:=Zw l) (l:=l)
    have:=Zcs l
    rw [q] at *
    simp at *
    omega
   rw [ZcZ hb] at h
   injection h with h
   subst h
   exact ⟨by dsimp only;omega,trivial⟩
  | cons c r=>
   have hl:(c::r).length<=l.length:=by rw [<- q,List.length_drop];omega
   cases f:(ZX (c::r)).2.2 with
   | false=>rw [ZdC q f] at h;cases h
   | true=>
    have hp:=Zcc f
    rw [ZdD q f] at h
    cases hr:ZaT ((c::r).drop (ZX (c::r)).2.1) (a+Zw l+(ZX (c::r)).2.1) with
    | bad p=>rw [hr] at h;cases h
    | ok us=>
     rw [hr] at h
     injection h with h
     subst h
     have hd:((c::r).drop (ZX (c::r)).2.1).length<=m:=by rw [List.length_drop];simp at hl ⊢;omega
     exact ⟨by dsimp only;omega,ZlT _ _ _ (by dsimp only;omega) (ih _ _ us hd hr)⟩
theorem Zkr:∀ (l:List Tok) (a k:Nat),Zey a l->k<l.length->a<=(Zx l k).2.2
 | [],a,k,_,hk=>by simp at hk
 | t::r,a,0,h,_=>h.1
 | t::r,a,k+1,h,hk=>by
  have:=Zkr r _ k h.2 (by simpa using hk)
  have h1:=h.1
  show a<=(Zx r k).2.2
  omega
theorem Zks:∀ (l:List Tok) (a j k:Nat),Zey a l->j<k->k<l.length->(Zx l j).2.2<(Zx l k).2.2
 | [],a,_,k,_,_,hk=>by simp at hk
 | t::r,a,j,0,_,hj,_=>by omega
 | t::r,a,0,k+1,h,_,hk=>by
  have:=Zkr r _ k h.2 (by simpa using hk)
  show t.2.2<(Zx r k).2.2
  omega
 | t::r,a,j+1,k+1,h,hj,hk=>Zks r _ j k h.2 (by omega) (by simpa using hk)
theorem ZlI {l:List UInt8} {L:List Tok} {pl:Nat} (h:ZbY l=(L,0,pl)) (e:(ZaO L).2.err=0):ZeQ 0 (Zb7 (ZaB L) []):=by
 obtain ⟨hE,_,_,_⟩:=ZhK h rfl
 have asc:Zey 0 L:=by
  unfold ZbY at h
  by_cases h6:6000<l.length
  ·rw [if_pos h6] at h
   injection h with _ h
   injection h with h _
   cases h
  ·rw [if_neg h6] at h
   cases hx:ZaT l 0 with
   | bad a=>
    rw [hx] at h
    injection h with _ h
    injection h with h _
    cases h
   | ok ts=>
    rw [hx] at h
    injection h with h _
    subst h
    exact Zmd _ _ _ _ (Nat.le_refl _) hx
 have hx:∀ f,Onw L (Dp L (f+1)) (exP L):=fun f=>ZcG hE (f+1)
 have hgo:=Zce hE hx 200
 have hd:Dp L 201 s0P:=⟨hE.1,fun _=>⟨by decide,by decide⟩,by decide,by decide⟩
 have sp:=ZcP (ex:=exP L) hE hgo (ZhN hE hx (fun g s hs e=>ZhF hE (Zah 201) (Zbh hE 201) (ZeI hE 201) s (ZhE hs) e) 200) (L.length+1) [] s0P 0 ⟨hd,by decide⟩ (ZaM (Nat.le_refl _)) e
 have ad:=(Zbk (ex:=exP L) hE hgo (L.length+1) [] s0P ⟨hd,by decide⟩).lt hE.1
 have root:SpT L (ZaB L) 0 ((ZaO L).2.at_+1):=Zay (Za4 rfl) (Nat.succ_pos _) (Zb0 sp (Nat.le_refl _) (Nat.le_succ _))
 have:=Zk7 (K:=L.length) (fun a b hab hb=>by unfold plM;have:=Zks L 0 a b asc hab hb;omega) (ZaB L) 0 _ [] root ad
 rw [Zcr] at this
 exact this
end
end Go.Proofs.YtfdgeijnkkdplaaDoor
