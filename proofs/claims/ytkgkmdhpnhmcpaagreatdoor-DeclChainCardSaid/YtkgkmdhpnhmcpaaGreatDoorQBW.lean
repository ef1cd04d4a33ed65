import Derived.Test.YtkgkmdhpnhmcpaaGreatDoorQAY
import Derived.Test.YtkgkmdhpnhmcpaaGreatDoorQBV
set_option maxRecDepth 100000
set_option maxHeartbeats 8000000
namespace Go.Proofs.YtkgkmdhpnhmcpaaGreatDoor
section
open Go.RowKit
def chS (i:Nat):List UInt8:=[115,UInt8.ofNat (97+i)]
def chK (k:Nat) (fin:Bool) (j:Nat):Nd:=
 if j<k then ⟨2,[chS j],[if fin&&decide (j+1=k) then 1 else 0],[],0⟩ else ⟨3,[[111,110],chS (j-k),[111,107],chS (j-k+1)],[],[],0⟩
def chN (k:Nat) (fin:Bool):Nat->List Nd
 | 0=>[⟨0,[],[],[1],0⟩,⟨1,[[80]],[],[],0⟩]
 | j+1=>
  let l:=chN k fin j
  let x:=Zu l 1
  l.set 1 ⟨x.kind,x.words,x.nums,x.kids++[(l.length:Int)],x.pos⟩++[chK k fin j]
theorem Zbj (k:Nat) (fin:Bool):∀ j,(chN k fin j).length=2+j
 | 0=>rfl
 | j+1=>by
  unfold chN
  simp only [List.length_append,List.length_set,List.length_cons,List.length_nil]
  rw [Zbj k fin j]
  omega
theorem Zbz (k:Nat) (fin:Bool):∀ j,(Zu (chN k fin j) 1).kids.length=j
 | 0=>rfl
 | j+1=>by
  have h:=Zbz k fin j
  have hl:=Zbj k fin j
  have e:Zu (chN k fin (j+1)) 1=⟨(Zu (chN k fin j) 1).kind,(Zu (chN k fin j) 1).words,(Zu (chN k fin j) 1).nums,(Zu (chN k fin j) 1).kids++[((chN k fin j).length:Int)],(Zu (chN k fin j) 1).pos⟩:=by
   show ((((chN k fin j).set 1 _++[_])[(1:Int).toNat]?).getD nd0)=_
   rw [show (1:Int).toNat=1 from rfl,List.getElem?_append_left (by rw [List.length_set];omega),List.getElem?_set_self (by omega)]
   rfl
  rw [e]
  simp only [List.length_append,List.length_cons,List.length_nil,h]
def chB (k:Nat) (fin:Bool):Bool:=
 let l:=chN k fin (2*k-1)
 let B:=Zah l
 ZgG l&&B.ps.all (fun p=>decide (p.name.length<=100)&&szB p&&decide (p.states.length<=80))&&decide (B.ps.length<=4) &&
  (if fin&&decide (k<=16) then decide (B.ds.length=0)&&decide ((B.ps.map fun p=>(p.name,ZaK p,decide (p.states.length<=16)))[3]? = some ([80],2 ^ (k-1),true))
   else decide ((B.ds.map (·.1))=[1])&&B.ps.all (fun p=>decide (p.name≠[80])))
theorem Zjg:∀ k<20,chB (k+1) true=true/\chB (k+1) false=true:=by decide +kernel
theorem Zev (k:Nat) (h1:1<=k) (hk:k<=20) (fin:Bool):TreeOk (chN k fin (2*k-1))/\(∀ p∈(Zah (chN k fin (2*k-1))).ps,p.name.length<=100/\SzP p/\p.states.length<=80) ∧
  (if fin=true/\k<=16 then (Zah (chN k fin (2*k-1))).ds.length=0/\∃ (i:Nat) (p:Pro),(Zah (chN k fin (2*k-1))).ps[i]? = some p/\p.name=[80]/\ZaK p=2 ^ (k-1)/\p.states.length<=16
   else (Zah (chN k fin (2*k-1))).ds.map (·.1)=[1]/\∀ p∈(Zah (chN k fin (2*k-1))).ps,p.name≠[80]):=by
 have h:chB k fin=true:=by
  have:=Zjg (k-1) (by omega)
  rw [Nat.sub_add_cancel h1] at this
  cases fin
  ·exact this.2
  ·exact this.1
 unfold chB at h
 simp only [Bool.and_eq_true,decide_eq_true_eq,List.all_eq_true] at h
 obtain ⟨⟨⟨h1,h2⟩,h3⟩,h4⟩:=h
 refine ⟨ZfW h1,fun p hp=>⟨(h2 p hp).1.1,Ziz (h2 p hp).1.2,(h2 p hp).2⟩,?_⟩
 by_cases q:fin=true/\k<=16
 ·rw [if_pos q]
  rw [if_pos (by simpa using q)] at h4
  simp only [Bool.and_eq_true,decide_eq_true_eq] at h4
  refine ⟨h4.1,?_⟩
  have h5:=h4.2
  rw [List.getElem?_map] at h5
  cases e:(Zah (chN k fin (2*k-1))).ps[3]? with
  | none=>rw [e] at h5;cases h5
  | some p=>
   rw [e] at h5
   simp only [Option.map_some,Option.some.injEq,Prod.mk.injEq] at h5
   exact ⟨_,p,e,h5.1,h5.2.1,of_decide_eq_true h5.2.2⟩
 ·rw [if_neg q]
  rw [if_neg (by simpa using q)] at h4
  simp only [Bool.and_eq_true,decide_eq_true_eq,List.all_eq_true] at h4
  exact h4
def ZgK (rs:List (NdV×Nd)) (i:Nat) (x:NdV×Nd):Prop:=∀ j z,j≠i->rs[j]? = some z->∀ b,z.1.2.2.ownBlock=some b->x.1.2.2.ownBlock≠some b
theorem RowO.kputI {w w1:World} {B g c n i o:Nat} {x:NdV×Nd} {rs:List (NdV×Nd)} {rv:Value} {ks:List Int} (h:RowO w B (.slice (some ⟨g,0,none⟩) n c) rs) (hn:n=rs.length) (hx:rs[i]? = some x) (ho:o=i*5+3) (hd:ZgK rs i x) (hg:w.grownBy w1 x.1.2.2.ownBlock) (hr:w1.ownsRow B 3 1 rv ks.length (ks.map (Value.int .i64))) :
  RowO (w1.setCell ⟨g,o,none⟩ rv) B (.slice (some ⟨g,0,none⟩) n c) (rs.set i ((x.1.1,x.1.2.1,rv),⟨x.2.kind,x.2.words,x.2.nums,ks,x.2.pos⟩)):=by
 subst hn ho
 have xk:=(h.each x (List.mem_of_getElem? hx)).ks
 have own1:=ZX h.own xk (by decide) hg
 have off:=Zaa own1 hr (by decide) g rfl
 have s:=(World.ownsRow.stored own1 (i*5+3) rv).1
 rw [<- Zbv rs i x rv ks hx] at s
 have past:∀ {e:TypeId} {n size:Nat} {v:Value} {xs:List Value},w1.ownsRow B e size v n xs->27≠e->(w1.setCell ⟨g,i*5+3,none⟩ rv).ownsRow B e size v n xs:=fun hz hne=>Zg hz (Zaa own1 hz hne g rfl)
 refine ⟨by rw [List.length_set];exact s,fun y hy=>?_⟩
 obtain ⟨j,hj⟩:=List.getElem?_of_mem hy
 by_cases e:j=i
 ·subst e
  rw [List.getElem?_set_self (List.getElem?_eq_some_iff.1 hx).1] at hj
  obtain rfl:=Option.some.inj hj
  have hx':=h.each x (List.mem_of_getElem? hx)
  exact ⟨past (ZX hx'.ws xk (by decide) hg) (by decide),past (ZX hx'.us xk (by decide) hg) (by decide),Zg hr off,hx'.wl⟩
 ·rw [List.getElem?_set_ne (fun q=>e q.symm)] at hj
  have hz:=h.each y (List.mem_of_getElem? hj)
  refine ⟨past (ZX hz.ws xk (by decide) hg) (by decide),past (ZX hz.us xk (by decide) hg) (by decide),past (hz.ks.kept hg ?_) (by decide),hz.wl⟩
  cases q:y.1.2.2.ownBlock with
  | none=>exact .inl rfl
  | some b=>exact .inr fun e'=>hd j y e hj b q e'.symm
end
end Go.Proofs.YtkgkmdhpnhmcpaaGreatDoor
