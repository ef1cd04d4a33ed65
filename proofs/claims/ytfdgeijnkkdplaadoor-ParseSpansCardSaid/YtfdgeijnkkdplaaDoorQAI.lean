import Derived.Test.YtfdgeijnkkdplaaDoorQAD
set_option maxRecDepth 100000
set_option maxHeartbeats 8000000
namespace Go.Proofs.YtfdgeijnkkdplaaDoor
section
theorem ZkE:∀ (m:Nat) (l:List UInt8) (a:Nat) (ts:List Tok),l.length<=m->ZaT l a=.ok ts->ts≠[]:=by
 intro m l a ts _ h
 rw [ZaT] at h
 split at h
 ·split at h
  ·intro e
   subst e
   revert h
   generalize ZaT _ _=x
   intro h
   cases x<;>cases h
  ·cases h
 ·injection h with h
  subst h
  simp
end
section
theorem Zed (p:UInt8->Bool):∀ l:List UInt8,Zad p (l.take (Zad p l))=Zad p l
 | []=>rfl
 | c::r=>by
  rw [ZbH]
  cases h:p c with
  | false=>rfl
  | true=>
   rw [if_pos rfl,List.take_succ_cons,ZbH,if_pos h,Zed p r]
theorem Zk0 {c:UInt8} {r:List UInt8} {n:Nat} (h:ZbG (c::r)=some n):ZbG ((c::r).take n)=some n:=by
 rw [ZeM] at h
 split at h
 ·rename_i q
  injection h with h
  subst h
  cases r with
  | nil=>simp at q
  | cons d r=>
   show ZbG (c::[d])=some 2
   rw [ZeM,if_pos (by simpa using q)]
 ·split at h
  ·rename_i q
   injection h with h
   subst h
   show ZbG (c::[])=some 1
   rw [ZeM,if_neg (by simp),if_pos q]
  ·cases h
def Zek (t:Tok):Prop:=∃ c r,t.2.1=c::r/\ZX (c::r)=(t.1,(c::r).length,true)
theorem Zh8 {c:UInt8} {r:List UInt8} (h:(ZX (c::r)).2.2=true) (a:Nat):Zek ((ZX (c::r)).1,(c::r).take (ZX (c::r)).2.1,a):=by
 have hp:=Zcc h
 obtain ⟨j,hj⟩:∃ j,(ZX (c::r)).2.1=j+1:=⟨(ZX (c::r)).2.1-1,by omega⟩
 refine ⟨c,r.take j,by rw [hj];rfl,?_⟩
 have ht:(c::r).take (ZX (c::r)).2.1=c::r.take j:=by rw [hj];rfl
 have hlen:(c::r.take j).length=(ZX (c::r)).2.1:=by
  rw [<- ht,List.length_take]
  exact Nat.min_eq_left (Zfq _)
 rw [hlen]
 rw [Zbo c (r.take j)]
 rw [Zbo] at h ht ⊢
 split
 ·rename_i g
  rw [if_pos g] at ht
  rw [<- ht]
  dsimp only
  rw [Zed]
 ·rename_i g
  rw [if_neg g] at h ht
  split
  ·rename_i g2
   rw [if_pos g2] at h ht
   rw [<- ht]
   dsimp only at h ⊢
   rw [Zed,h]
  ·rename_i g2
   rw [if_neg g2] at h ht
   cases q:ZbG (c::r) with
   | none=>rw [q] at h;cases h
   | some n=>
    rw [q] at ht
    dsimp only at ht
    rw [<- ht,Zk0 q]
theorem ZkF:∀ (m:Nat) (l:List UInt8) (a:Nat) (ts:List Tok),l.length<=m->ZaT l a=.ok ts->(∀ t∈ts.dropLast,Zek t)/\∃ e,ts=ts.dropLast++[(3,[],e)]:=by
 intro m
 induction m with
 | zero=>
  intro l a ts hm h
  obtain rfl:l=[]:=List.eq_nil_of_length_eq_zero (by omega)
  rw [ZeE] at h
  injection h with h
  subst h
  exact ⟨fun t ht=>(by simp at ht),a,rfl⟩
 | succ m ih=>
  intro l a ts hm h
  have le:=Zcs l
  cases q:l.drop (Zw l) with
  | nil=>
   have h1:Zw l=l.length:=by
    have:=List.length_drop (i:=Zw l) (l:=l)
    rw [q] at this
    simp at this
    omega
   rw [ZcZ h1] at h
   injection h with h
   subst h
   exact ⟨fun t ht=>(by simp at ht),_,rfl⟩
  | cons c r=>
   have hl:(c::r).length<=l.length:=by rw [<- q,List.length_drop];omega
   cases f:(ZX (c::r)).2.2 with
   | false=>rw [ZdC q f] at h;cases h
   | true=>
    have hp:=Zcc f
    rw [ZdD q f] at h
    cases g:ZaT ((c::r).drop (ZX (c::r)).2.1) (a+Zw l+(ZX (c::r)).2.1) with
    | bad p=>rw [g] at h;cases h
    | ok us=>
     rw [g] at h
     injection h with h
     subst h
     obtain ⟨i1,e,i2⟩:=ih _ _ us (by rw [List.length_drop];simp at hl ⊢;omega) g
     have hne:us≠[]:=ZkE _ _ _ _ (Nat.le_refl _) g
     rw [List.dropLast_cons_of_ne_nil hne]
     refine ⟨fun t ht=>?_,e,by rw [List.cons_append,<- i2]⟩
     rcases List.mem_cons.1 ht with rfl | ht
     ·exact Zh8 f _
     ·exact i1 t ht
end
end Go.Proofs.YtfdgeijnkkdplaaDoor
