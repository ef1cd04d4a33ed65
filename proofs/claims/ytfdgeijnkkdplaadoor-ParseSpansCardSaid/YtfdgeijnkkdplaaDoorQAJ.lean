import Derived.Test.YtfdgeijnkkdplaaDoorQAG
import Derived.Test.YtfdgeijnkkdplaaDoorQAH
set_option maxRecDepth 100000
set_option maxHeartbeats 8000000
namespace Go.Proofs.YtfdgeijnkkdplaaDoor
section
open Go.RowKit
structure Nd where
 kind:Int
 words:List (List UInt8)
 nums:List Int
 kids:List Int
 pos:Int
deriving DecidableEq
def num (n:Nd) (k:Nat):Int:=(n.nums[k]?).getD 0
end
section
open Go.RowKit
def ZcL (w:World) (v:Value) (l:List Int):Prop:=∃ A c,v=.slice A l.length c/\l.length<=c/\c<=maxLen/\ZT w w.heap.size 1 A l.length (l.map (Value.int .i64))
theorem ZcL.below {w w':World} {v:Value} {l:List Int} (h:ZcL w v l) (hb:Below w.heap.size w w'):ZcL w' v l:=by
 obtain ⟨A,c,h1,h2,h3,h4⟩:=h
 exact ⟨A,c,h1,h2,h3,(h4.below hb).more hb.size⟩
theorem ZcL.nil (w:World):ZcL w (.slice none 0 0) []:=⟨none,0,rfl,Nat.le_refl _,by decide,ZT.none_⟩
theorem ZcL.len {w:World} {v:Value} {l:List Int} (h:ZcL w v l):l.length<=maxLen:=by
 obtain ⟨_,_,_,a,b,_⟩:=h
 omega
theorem ints_at {w wr:World} {A:Option Addr} {n k:Nat} {l:List Int} {x:Int} (h4:ZT w w.heap.size 1 A n (l.map (Value.int .i64))) (hb:Below w.heap.size w wr) (hx:l[k]? = some x) (hn:0<n) :
  ∃ ad,A=some ad/\wr.cell? (ad.add k)=some (.int .i64 x):=by
 obtain ⟨ad,e,hbk,hc⟩:=h4.2 hn
 exact ⟨ad,e,(hb.cell (p:=ad.add k) (by rw [Zbr];exact hbk)).trans (hc k _ (by rw [List.getElem?_map,hx];rfl))⟩
def Zc6 (w:World) (v:Value) (l:List (List UInt8)):Prop:=∃ A c,v=.slice A l.length c/\l.length<=c/\c<=maxLen/\ZT w w.heap.size 1 A l.length (l.map txt)/\∀ s∈l,s.length<=maxLen
theorem Zc6.below {w w':World} {v:Value} {l:List (List UInt8)} (h:Zc6 w v l) (hb:Below w.heap.size w w'):Zc6 w' v l:=by
 obtain ⟨A,c,h1,h2,h3,h4,h5⟩:=h
 exact ⟨A,c,h1,h2,h3,(h4.below hb).more hb.size,h5⟩
theorem Zc6.nil (w:World):Zc6 w (.slice none 0 0) []:=⟨none,0,rfl,Nat.le_refl _,by decide,ZT.none_,fun s hs=>by cases hs⟩
theorem Zc6.len {w:World} {v:Value} {l:List (List UInt8)} (h:Zc6 w v l):l.length<=maxLen:=by
 obtain ⟨_,_,_,a,b,_⟩:=h
 omega
abbrev NdV:=Value×Value×Value
def ZY:List (NdV×Nd)->List Value
 | []=>[]
 | x::r=>.int .i64 x.2.kind::x.1.1::x.1.2.1::x.1.2.2::.int .i64 x.2.pos::ZY r
theorem Zc1:∀ l,(ZY l).length=l.length*5
 | []=>rfl
 | x::r=>by
  simp only [ZY,List.length_cons,Zc1 r]
  omega
theorem Zc0:∀ (l m:List (NdV×Nd)),ZY (l++m)=ZY l++ZY m
 | [],m=>rfl
 | x::r,m=>by rw [List.cons_append,ZY,ZY,Zc0 r m];rfl
theorem Zd7:∀ (l:List (NdV×Nd)) (k:Nat) (x:NdV×Nd),l[k]? = some x->(ZY l)[k*5]? = some (.int .i64 x.2.kind)/\(ZY l)[k*5+1]? = some x.1.1/\(ZY l)[k*5+2]? = some x.1.2.1/\(ZY l)[k*5+3]? = some x.1.2.2/\(ZY l)[k*5+4]? = some (.int .i64 x.2.pos)
 | [],k,x,h=>by simp at h
 | y::r,0,x,h=>by
  obtain rfl:y=x:=by simpa using h
  exact ⟨rfl,rfl,rfl,rfl,rfl⟩
 | y::r,k+1,x,h=>by
  rw [List.getElem?_cons_succ] at h
  obtain ⟨a,b,c,d,e⟩:=Zd7 r k x h
  exact ⟨by rw [show (k+1)*5=k*5+1+1+1+1+1 by omega];exact a,by rw [show (k+1)*5+1=k*5+1+1+1+1+1+1 by omega];exact b,by rw [show (k+1)*5+2=k*5+2+1+1+1+1+1 by omega];exact c,by rw [show (k+1)*5+3=k*5+3+1+1+1+1+1 by omega];exact d,by rw [show (k+1)*5+4=k*5+4+1+1+1+1+1 by omega];exact e⟩
def ZhT (w:World) (x:NdV×Nd):Prop:=Zc6 w x.1.1 x.2.words/\ZcL w x.1.2.1 x.2.nums/\ZcL w x.1.2.2 x.2.kids
theorem ZhT.below {w w':World} {x:NdV×Nd} (h:ZhT w x) (hb:Below w.heap.size w w'):ZhT w' x:=⟨h.1.below hb,h.2.1.below hb,h.2.2.below hb⟩
def Zdm (w:World) (v:Value) (ns:List Nd):Prop:=
 ∃ A c rs,v=.slice A ns.length c/\ns.length<=c/\c<=maxLen/\rs.map (·.2)=ns/\ZT w w.heap.size 5 A ns.length (ZY rs)/\∀ x∈rs,ZhT w x
theorem Zdm.below {w w':World} {v:Value} {ns:List Nd} (h:Zdm w v ns) (hb:Below w.heap.size w w'):Zdm w' v ns:=by
 obtain ⟨A,c,rs,h1,h2,h3,h4,h5,h6⟩:=h
 exact ⟨A,c,rs,h1,h2,h3,h4,(h5.below hb).more hb.size,fun x hx=>(h6 x hx).below hb⟩
theorem Zdm.nil (w:World):Zdm w (.slice none 0 0) []:=⟨none,0,[],rfl,Nat.le_refl _,by decide,rfl,ZT.none_,fun x hx=>by cases hx⟩
theorem Zev {w wr:World} {A:Option Addr} {n k:Nat} {rs:List (NdV×Nd)} {x:NdV×Nd} (h4:ZT w w.heap.size 5 A n (ZY rs)) (hb:Below w.heap.size w wr) (hx:rs[k]? = some x) (hn:0<n) :
  ∃ ad,A=some ad/\wr.cell? (ad.add (k*5))=some (.int .i64 x.2.kind)/\wr.cell? ⟨(ad.add (k*5)).block,(ad.add (k*5)).off+1,none⟩=some x.1.1/\wr.cell? ⟨(ad.add (k*5)).block,(ad.add (k*5)).off+2,none⟩=some x.1.2.1/\wr.cell? ⟨(ad.add (k*5)).block,(ad.add (k*5)).off+3,none⟩=some x.1.2.2/\wr.cell? ⟨(ad.add (k*5)).block,(ad.add (k*5)).off+4,none⟩=some (.int .i64 x.2.pos):=by
 obtain ⟨ad,e,hbk,hc⟩:=h4.2 hn
 obtain ⟨a,b,c,d,f⟩:=Zd7 rs k x hx
 have d0:=(hb.cell (p:=ad.add (k*5)) (by rw [Zbr];exact hbk)).trans (hc _ _ a)
 have d1:=(hb.cell (p:=ad.add (k*5+1)) (by rw [Zbr];exact hbk)).trans (hc _ _ b)
 have d2:=(hb.cell (p:=ad.add (k*5+2)) (by rw [Zbr];exact hbk)).trans (hc _ _ c)
 have d3:=(hb.cell (p:=ad.add (k*5+3)) (by rw [Zbr];exact hbk)).trans (hc _ _ d)
 have d4:=(hb.cell (p:=ad.add (k*5+4)) (by rw [Zbr];exact hbk)).trans (hc _ _ f)
 rw [<- ZhW] at d1 d2 d3 d4
 exact ⟨ad,e,d0,d1,d2,d3,d4⟩
end
end Go.Proofs.YtfdgeijnkkdplaaDoor
