import Derived.Test.YtfdgeijnkkdplaaDoorQAE
import Derived.Test.YtfdgeijnkkdplaaDoorQAF
set_option maxRecDepth 100000
set_option maxHeartbeats 8000000
namespace Go.Proofs.YtfdgeijnkkdplaaDoor
section
open Go.RowKit
structure Nd where
 kind:Int
 words:List (List UInt8)
 nums:List Int
 kids:List Int
 pos:Int
deriving DecidableEq
def num (n:Nd) (k:Nat):Int:=(n.nums[k]?).getD 0
end
section
open Go.RowKit
def ZcB (w:World) (v:Value) (l:List Int):Prop:=∃ A c,v=.slice A l.length c/\l.length<=c/\c<=maxLen/\ZT w w.heap.size 1 A l.length (l.map (Value.int .i64))
theorem ZcB.below {w w':World} {v:Value} {l:List Int} (h:ZcB w v l) (hb:Below w.heap.size w w'):ZcB w' v l:=by
 obtain ⟨A,c,h1,h2,h3,h4⟩:=h
 exact ⟨A,c,h1,h2,h3,(h4.below hb).more hb.size⟩
theorem ZcB.nil (w:World):ZcB w (.slice none 0 0) []:=⟨none,0,rfl,Nat.le_refl _,by decide,ZT.none_⟩
theorem ZcB.len {w:World} {v:Value} {l:List Int} (h:ZcB w v l):l.length<=maxLen:=by
 obtain ⟨_,_,_,a,b,_⟩:=h
 omega
def ZcX (w:World) (v:Value) (l:List (List UInt8)):Prop:=∃ A c,v=.slice A l.length c/\l.length<=c/\c<=maxLen/\ZT w w.heap.size 1 A l.length (l.map txt)/\∀ s∈l,s.length<=maxLen
theorem ZcX.below {w w':World} {v:Value} {l:List (List UInt8)} (h:ZcX w v l) (hb:Below w.heap.size w w'):ZcX w' v l:=by
 obtain ⟨A,c,h1,h2,h3,h4,h5⟩:=h
 exact ⟨A,c,h1,h2,h3,(h4.below hb).more hb.size,h5⟩
theorem ZcX.nil (w:World):ZcX w (.slice none 0 0) []:=⟨none,0,rfl,Nat.le_refl _,by decide,ZT.none_,fun s hs=>by cases hs⟩
theorem ZcX.len {w:World} {v:Value} {l:List (List UInt8)} (h:ZcX w v l):l.length<=maxLen:=by
 obtain ⟨_,_,_,a,b,_⟩:=h
 omega
abbrev NdV:=Value×Value×Value
def ZX:List (NdV×Nd)->List Value
 | []=>[]
 | x::r=>.int .i64 x.2.kind::x.1.1::x.1.2.1::x.1.2.2::.int .i64 x.2.pos::ZX r
theorem ZcQ:∀ l,(ZX l).length=l.length*5
 | []=>rfl
 | x::r=>by
  simp only [ZX,List.length_cons,ZcQ r]
  omega
theorem ZcP:∀ (l m:List (NdV×Nd)),ZX (l++m)=ZX l++ZX m
 | [],m=>rfl
 | x::r,m=>by rw [List.cons_append,ZX,ZX,ZcP r m];rfl
theorem ZdM:∀ (l:List (NdV×Nd)) (k:Nat) (x:NdV×Nd),l[k]? = some x->(ZX l)[k*5]? = some (.int .i64 x.2.kind)/\(ZX l)[k*5+1]? = some x.1.1/\(ZX l)[k*5+2]? = some x.1.2.1/\(ZX l)[k*5+3]? = some x.1.2.2/\(ZX l)[k*5+4]? = some (.int .i64 x.2.pos)
 | [],k,x,h=>by simp at h
 | y::r,0,x,h=>by
  obtain rfl:y=x:=by simpa using h
  exact ⟨rfl,rfl,rfl,rfl,rfl⟩
 | y::r,k+1,x,h=>by
  rw [List.getElem?_cons_succ] at h
  obtain ⟨a,b,c,d,e⟩:=ZdM r k x h
  exact ⟨by rw [show (k+1)*5=k*5+1+1+1+1+1 by omega];exact a,by rw [show (k+1)*5+1=k*5+1+1+1+1+1+1 by omega];exact b,by rw [show (k+1)*5+2=k*5+2+1+1+1+1+1 by omega];exact c,by rw [show (k+1)*5+3=k*5+3+1+1+1+1+1 by omega];exact d,by rw [show (k+1)*5+4=k*5+4+1+1+1+1+1 by omega];exact e⟩
def ZhJ (w:World) (x:NdV×Nd):Prop:=ZcX w x.1.1 x.2.words/\ZcB w x.1.2.1 x.2.nums/\ZcB w x.1.2.2 x.2.kids
theorem ZhJ.below {w w':World} {x:NdV×Nd} (h:ZhJ w x) (hb:Below w.heap.size w w'):ZhJ w' x:=⟨h.1.below hb,h.2.1.below hb,h.2.2.below hb⟩
def Zdd (w:World) (v:Value) (ns:List Nd):Prop:=
 ∃ A c rs,v=.slice A ns.length c/\ns.length<=c/\c<=maxLen/\rs.map (·.2)=ns/\ZT w w.heap.size 5 A ns.length (ZX rs)/\∀ x∈rs,ZhJ w x
theorem Zdd.below {w w':World} {v:Value} {ns:List Nd} (h:Zdd w v ns) (hb:Below w.heap.size w w'):Zdd w' v ns:=by
 obtain ⟨A,c,rs,h1,h2,h3,h4,h5,h6⟩:=h
 exact ⟨A,c,rs,h1,h2,h3,h4,(h5.below hb).more hb.size,fun x hx=>(h6 x hx).below hb⟩
theorem Zdd.nil (w:World):Zdd w (.slice none 0 0) []:=⟨none,0,[],rfl,Nat.le_refl _,by decide,rfl,ZT.none_,fun x hx=>by cases hx⟩
theorem Zhi {w wr:World} {A:Option Addr} {n k:Nat} {rs:List (NdV×Nd)} {x:NdV×Nd} (h4:ZT w w.heap.size 5 A n (ZX rs)) (hb:Below w.heap.size w wr) (hx:rs[k]? = some x) (hn:0<n) :
  ∃ ad,A=some ad/\wr.cell? (ad.add (k*5))=some (.int .i64 x.2.kind)/\wr.cell? ⟨(ad.add (k*5)).block,(ad.add (k*5)).off+1,none⟩=some x.1.1/\wr.cell? ⟨(ad.add (k*5)).block,(ad.add (k*5)).off+2,none⟩=some x.1.2.1/\wr.cell? ⟨(ad.add (k*5)).block,(ad.add (k*5)).off+3,none⟩=some x.1.2.2/\wr.cell? ⟨(ad.add (k*5)).block,(ad.add (k*5)).off+4,none⟩=some (.int .i64 x.2.pos):=by
 obtain ⟨ad,e,hbk,hc⟩:=h4.2 hn
 obtain ⟨a,b,c,d,f⟩:=ZdM rs k x hx
 have d0:=(hb.cell (p:=ad.add (k*5)) (by rw [ZbB];exact hbk)).trans (hc _ _ a)
 have d1:=(hb.cell (p:=ad.add (k*5+1)) (by rw [ZbB];exact hbk)).trans (hc _ _ b)
 have d2:=(hb.cell (p:=ad.add (k*5+2)) (by rw [ZbB];exact hbk)).trans (hc _ _ c)
 have d3:=(hb.cell (p:=ad.add (k*5+3)) (by rw [ZbB];exact hbk)).trans (hc _ _ d)
 have d4:=(hb.cell (p:=ad.add (k*5+4)) (by rw [ZbB];exact hbk)).trans (hc _ _ f)
 rw [<- ZhM] at d1 d2 d3 d4
 exact ⟨ad,e,d0,d1,d2,d3,d4⟩
end
end Go.Proofs.YtfdgeijnkkdplaaDoor
