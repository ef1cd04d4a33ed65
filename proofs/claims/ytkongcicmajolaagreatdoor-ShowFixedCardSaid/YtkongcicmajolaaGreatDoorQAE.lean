import Derived.Lib.ItoaNum
import Derived.Lib.AppendStr
import Derived.Test.YtkongcicmajolaaGreatDoorQAA
import Derived.Test.YtkongcicmajolaaGreatDoorQAC
import Derived.Test.YtkongcicmajolaaGreatDoorQAD
set_option maxRecDepth 100000
set_option maxHeartbeats 8000000
namespace Go.Proofs.YtkongcicmajolaaGreatDoor
section
open Go.RowKit
def Zbh (w:World) (v:Value) (l:List Int):Prop:=∃ A c,v=.slice A l.length c/\l.length<=c/\c<=maxLen/\ZM w w.heap.size 1 A l.length (l.map (Value.int .i64))
theorem Zbh.below {w w':World} {v:Value} {l:List Int} (h:Zbh w v l) (hb:Below w.heap.size w w'):Zbh w' v l:=by
 obtain ⟨A,c,h1,h2,h3,h4⟩:=h
 exact ⟨A,c,h1,h2,h3,(h4.below hb).more hb.size⟩
theorem Zbh.nil (w:World):Zbh w (.slice none 0 0) []:=⟨none,0,rfl,Nat.le_refl _,by decide,ZM.none_⟩
theorem Zbh.len {w:World} {v:Value} {l:List Int} (h:Zbh w v l):l.length<=maxLen:=by
 obtain ⟨_,_,_,a,b,_⟩:=h
 omega
theorem ints_at {w wr:World} {A:Option Addr} {n k:Nat} {l:List Int} {x:Int} (h4:ZM w w.heap.size 1 A n (l.map (Value.int .i64))) (hb:Below w.heap.size w wr) (hx:l[k]? = some x) (hn:0<n) :
  ∃ ad,A=some ad/\wr.cell? (ad.add k)=some (.int .i64 x):=by
 obtain ⟨ad,e,hbk,hc⟩:=h4.2 hn
 exact ⟨ad,e,(hb.cell (p:=ad.add k) (by rw [ZbO];exact hbk)).trans (hc k _ (by rw [List.getElem?_map,hx];rfl))⟩
def ZdX (w:World) (v:Value) (l:List (List UInt8)):Prop:=∃ A c,v=.slice A l.length c/\l.length<=c/\c<=maxLen/\ZM w w.heap.size 1 A l.length (l.map txt)/\∀ s∈l,s.length<=maxLen
theorem ZdX.below {w w':World} {v:Value} {l:List (List UInt8)} (h:ZdX w v l) (hb:Below w.heap.size w w'):ZdX w' v l:=by
 obtain ⟨A,c,h1,h2,h3,h4,h5⟩:=h
 exact ⟨A,c,h1,h2,h3,(h4.below hb).more hb.size,h5⟩
theorem ZdX.nil (w:World):ZdX w (.slice none 0 0) []:=⟨none,0,rfl,Nat.le_refl _,by decide,ZM.none_,fun s hs=>by cases hs⟩
theorem ZdX.len {w:World} {v:Value} {l:List (List UInt8)} (h:ZdX w v l):l.length<=maxLen:=by
 obtain ⟨_,_,_,a,b,_⟩:=h
 omega
theorem Zcl {w wr:World} {A:Option Addr} {n k:Nat} {l:List (List UInt8)} {x:List UInt8} (h4:ZM w w.heap.size 1 A n (l.map txt)) (hb:Below w.heap.size w wr) (hx:l[k]? = some x) (hn:0<n) :
  ∃ ad,A=some ad/\wr.cell? (ad.add k)=some (txt x):=by
 obtain ⟨ad,e,hbk,hc⟩:=h4.2 hn
 exact ⟨ad,e,(hb.cell (p:=ad.add k) (by rw [ZbO];exact hbk)).trans (hc k _ (by rw [List.getElem?_map,hx];rfl))⟩
abbrev NdV:=Value×Value×Value
def ZaV:List (NdV×Nd)->List Value
 | []=>[]
 | x::r=>.int .i64 x.2.kind::x.1.1::x.1.2.1::x.1.2.2::.int .i64 x.2.pos::ZaV r
theorem Zgf:∀ l,(ZaV l).length=l.length*5
 | []=>rfl
 | x::r=>by
  simp only [ZaV,List.length_cons,Zgf r]
  omega
theorem Zge:∀ (l m:List (NdV×Nd)),ZaV (l++m)=ZaV l++ZaV m
 | [],m=>rfl
 | x::r,m=>by rw [List.cons_append,ZaV,ZaV,Zge r m];rfl
theorem Ze0:∀ (l:List (NdV×Nd)) (k:Nat) (x:NdV×Nd),l[k]? = some x->(ZaV l)[k*5]? = some (.int .i64 x.2.kind)/\(ZaV l)[k*5+1]? = some x.1.1/\(ZaV l)[k*5+2]? = some x.1.2.1/\(ZaV l)[k*5+3]? = some x.1.2.2/\(ZaV l)[k*5+4]? = some (.int .i64 x.2.pos)
 | [],k,x,h=>by simp at h
 | y::r,0,x,h=>by
  obtain rfl:y=x:=by simpa using h
  exact ⟨rfl,rfl,rfl,rfl,rfl⟩
 | y::r,k+1,x,h=>by
  rw [List.getElem?_cons_succ] at h
  obtain ⟨a,b,c,d,e⟩:=Ze0 r k x h
  exact ⟨by rw [show (k+1)*5=k*5+1+1+1+1+1 by omega];exact a,by rw [show (k+1)*5+1=k*5+1+1+1+1+1+1 by omega];exact b,by rw [show (k+1)*5+2=k*5+2+1+1+1+1+1 by omega];exact c,by rw [show (k+1)*5+3=k*5+3+1+1+1+1+1 by omega];exact d,by rw [show (k+1)*5+4=k*5+4+1+1+1+1+1 by omega];exact e⟩
def ZaW (w:World) (x:NdV×Nd):Prop:=ZdX w x.1.1 x.2.words/\Zbh w x.1.2.1 x.2.nums/\Zbh w x.1.2.2 x.2.kids
theorem ZaW.below {w w':World} {x:NdV×Nd} (h:ZaW w x) (hb:Below w.heap.size w w'):ZaW w' x:=⟨h.1.below hb,h.2.1.below hb,h.2.2.below hb⟩
def Zs (w:World) (v:Value) (ns:List Nd):Prop:=
 ∃ A c rs,v=.slice A ns.length c/\ns.length<=c/\c<=maxLen/\rs.map (·.2)=ns/\ZM w w.heap.size 5 A ns.length (ZaV rs)/\∀ x∈rs,ZaW w x
theorem Zs.below {w w':World} {v:Value} {ns:List Nd} (h:Zs w v ns) (hb:Below w.heap.size w w'):Zs w' v ns:=by
 obtain ⟨A,c,rs,h1,h2,h3,h4,h5,h6⟩:=h
 exact ⟨A,c,rs,h1,h2,h3,h4,(h5.below hb).more hb.size,fun x hx=>(h6 x hx).below hb⟩
theorem Zs.nil (w:World):Zs w (.slice none 0 0) []:=⟨none,0,[],rfl,Nat.le_refl _,by decide,rfl,ZM.none_,fun x hx=>by cases hx⟩
theorem ZbA {w wr:World} {A:Option Addr} {n k:Nat} {rs:List (NdV×Nd)} {x:NdV×Nd} (h4:ZM w w.heap.size 5 A n (ZaV rs)) (hb:Below w.heap.size w wr) (hx:rs[k]? = some x) (hn:0<n) :
  ∃ ad,A=some ad/\wr.cell? (ad.add (k*5))=some (.int .i64 x.2.kind)/\wr.cell? ⟨(ad.add (k*5)).block,(ad.add (k*5)).off+1,none⟩=some x.1.1/\wr.cell? ⟨(ad.add (k*5)).block,(ad.add (k*5)).off+2,none⟩=some x.1.2.1/\wr.cell? ⟨(ad.add (k*5)).block,(ad.add (k*5)).off+3,none⟩=some x.1.2.2/\wr.cell? ⟨(ad.add (k*5)).block,(ad.add (k*5)).off+4,none⟩=some (.int .i64 x.2.pos):=by
 obtain ⟨ad,e,hbk,hc⟩:=h4.2 hn
 obtain ⟨a,b,c,d,f⟩:=Ze0 rs k x hx
 have d0:=(hb.cell (p:=ad.add (k*5)) (by rw [ZbO];exact hbk)).trans (hc _ _ a)
 have d1:=(hb.cell (p:=ad.add (k*5+1)) (by rw [ZbO];exact hbk)).trans (hc _ _ b)
 have d2:=(hb.cell (p:=ad.add (k*5+2)) (by rw [ZbO];exact hbk)).trans (hc _ _ c)
 have d3:=(hb.cell (p:=ad.add (k*5+3)) (by rw [ZbO];exact hbk)).trans (hc _ _ d)
 have d4:=(hb.cell (p:=ad.add (k*5+4)) (by rw [ZbO];exact hbk)).trans (hc _ _ f)
 rw [<- ZgM] at d1 d2 d3 d4
 exact ⟨ad,e,d0,d1,d2,d3,d4⟩
end
section
abbrev Txt:=List UInt8
def word (n:Nd) (k:Nat):Txt:=(n.words[k]?).getD []
def Zw (ns:List Nd) (n:Nd) (k:Nat):Nd:=Za ns (atI n.kids k)
def ZbP (n:Int):Txt:=Lib.itoa n
def Zbi (k:Int):Txt:=if k=0 then [32,60,32] else if k=1 then [32,61,61,32] else if k=2 then [32,43,32] else if k=3 then [32,45,32] else if k=4 then [32,42,32] else [32,47,32]
def Zax (k:Int):Txt:=if k=0 then [117,110,105,113,117,101] else if k=1 then [102,117,108,108] else if k=2 then [115,104,97,114,101] else if k=3 then [105,109,109] else [112,117,114,101]
def Zc0 (k:Int):Txt:=if k=0 then [32,97,116,32] else if k=1 then [32,116,111,32] else [32,105,110,32]
def Zu (n:Nd):Nat:=if n.kind=22 then (if num n 0<=1 then 0 else if num n 0<=3 then 1 else 2) else 3
def Zal (by_:Txt):List Txt->Txt
 | []=>[]
 | [x]=>x
 | x::y::r=>x++by_++Zal by_ (y::r)
def Zdi (d:Nat):Txt:=List.replicate (2*d) 32
def Zbq (d:Nat) (ls:List Txt):Txt:=(ls.map fun x=>Zdi d++x++[10]).flatten
def ZI (d:Nat) (ls:List Txt):Txt:=match ls with
 | []=>[32,123,32,125]
 | _=>[32,123,10]++Zbq (d+1) ls++Zdi d++[125]
def Zx (ns:List Nd):Nat->Nd->Txt
 | 0,_=>[]
 | f+1,n=>
  let op:=fun (m:Nd) (least:Nat)=>if least<=Zu m then Zx ns f m else [40]++Zx ns f m++[41]
  if n.kind=20 then ZbP (num n 0)
  else if n.kind=21 then word n 0
  else if n.kind=23 then [45]++op (Zw ns n 0) 3
  else if n.kind=22 then op (Zw ns n 0) (max (Zu n) 1)++Zbi (num n 0)++op (Zw ns n 1) (Zu n+1)
  else []
def ZaT (n:Nd):Txt:=Zc0 (num n 0)++Zal [124] n.words
def Zdk (n d:Int):Txt:=ZbP n++[47]++ZbP d
def ZbR (ns:List Nd) (n:Nd):Txt:=
 word n 0++(if n.words.length=1 then [] else [58,32]++word n 1++[32]++Zax (num n 0)++(if 0<num n 2 then [32,108,101,97,115,116,32]++Zdk (num n 1) (num n 2) else [])++(n.kids.map fun k=>ZaT (Za ns k)).flatten)
def Za9:List Txt->List Txt
 | a::b::r=>(a++[32]++b)::Za9 r
 | _=>[]
def ZbZ (n:Nd):Txt:=
 (if n.kind=3 then [111,112,32]++word n 0++[32]++word n 1++[32,45,62,32]++Zal [44,32] (Za9 (n.words.drop 2))
  else if num n 0=0 then [115,116,97,116,101,32]++word n 0 else [102,105,110,97,108,32]++word n 0)++[59]
def Zfa (ns:List Nd) (f:Nat) (n:Nd):Txt:=word n 0++[32,61,32]++Zx ns f (Zw ns n 0)++[59]
def Zcd (ns:List Nd) (f:Nat) (n:Nd):Txt:=if n.kind=15 then [38]++word n 0 else Zx ns f n
def Zl (ns:List Nd):Nat->Nat->Nd->Txt
 | 0,_,_=>[]
 | f+1,d,n=>
  let block:=fun (e:Nat) (m:Nd)=>ZI e (m.kids.map fun k=>Zl ns f (e+1) (Za ns k))
  if n.kind=8 then [108,101,116,32]++Zfa ns f n
  else if n.kind=9 then Zfa ns f n
  else if n.kind=10 then [111,112,101,110,32]++word n 0++[32]++word n 1++Zal [32,101,108,115,101] (n.kids.map fun k=>block d (Za ns k))
  else if n.kind=11 then [100,111,32]++word n 0++[46]++word n 1++(if n.kids=[] then [59] else ZI d (n.kids.map fun k=>word (Za ns k) 0++block (d+1) (Zw ns (Za ns k) 0)))
  else if n.kind=13 then [115,112,108,105,116,32]++word n 0++[32,61,32]++word n 1++[32]++Zax (num n 0)++[32]++Zdk (num n 1) (num n 2)++((n.kids.take (n.kids.length-1)).map fun k=>ZaT (Za ns k)).flatten++block d (Zw ns n (n.kids.length-1))
  else if n.kind=14 then [99,97,108,108,32]++(if n.words.length=2 then word n 1++[32,61,32] else [])++word n 0++[40]++Zal [44,32] (n.kids.map fun k=>Zcd ns f (Za ns k))++[41,59]
  else if n.kind=16 then [105,102,32]++Zx ns f (Zw ns n 0)++Zal [32,101,108,115,101] ((n.kids.drop 1).map fun k=>block d (Za ns k))
  else if n.kind=17 then [119,104,105,108,101,32]++Zx ns f (Zw ns n 0)++block d (Zw ns n 1)
  else if n.kind=18 then [114,101,116,117,114,110,32]++Zx ns f (Zw ns n 0)++[59]
  else if n.kind=19 then [101,120,105,116,59]
  else []
def Zcn (ns:List Nd) (f:Nat) (n:Nd):Txt:=
 if n.kind=1 then [112,114,111,116,111,32]++word n 0++ZI 0 (n.kids.map fun k=>ZbZ (Za ns k))
 else [102,110,32]++word n 0++[40]++Zal [44,32] ((n.kids.take (n.kids.length-1)).map fun k=>ZbR ns (Za ns k))++[41]++ZI 0 ((Zw ns n (n.kids.length-1)).kids.map fun k=>Zl ns f 1 (Za ns k))
def ZbG (ns:List Nd):Txt:=if Zcw ns then Zbq 0 ((Za ns 0).kids.map fun k=>Zcn ns ns.length (Za ns k)) else []
end
section
open Go.RowKit
theorem Zby {w:World} {base n size:Nat} {e:TypeId} {v:Value} {xs:List Value} (h:w.ownsRow base e size v n xs):∃ A c,v=.slice A n c:=by
 rcases h.2 with ⟨rfl,rfl⟩ | ⟨g,cap,cur,rfl,_⟩
 ·exact ⟨_,_,rfl⟩
 ·exact ⟨_,_,rfl⟩
theorem ZcG {w w1:World} {base n size:Nat} {e:TypeId} {v:Value} {xs:List Value} (h:w.ownsRow base e size v n xs) (hb:Below w.heap.size w w1):w1.ownsRow base e size v n xs:=
 h.kept (row:=none) ⟨hb.os,hb.tape,hb.output,hb.size,fun k hk _=>hb.block k hk⟩ (by
  cases q:v.ownBlock with
  | none=>exact .inl rfl
  | some k=>exact .inr (by simp))
theorem Zgq {w:World} {base n size:Nat} {e:TypeId} {A:Option Addr} {c:Nat} {xs:List Value} (h:w.ownsRow base e size (.slice A n c) n xs):n<=c/\c<=maxLen/\ZM w w.heap.size size A n xs:=by
 rcases h.2 with ⟨q,rfl⟩ | ⟨g,cap,cur,q,hb,hg,hnc,hcm,hcs,ht⟩
 ·injection q with q1 q2 q3
  subst q1 q3
  exact ⟨Nat.le_refl _,by decide,⟨h.1,fun hn=>absurd hn (Nat.lt_irrefl _)⟩⟩
 ·injection q with q1 q2 q3
  subst q1 q3
  refine ⟨hnc,hcm,⟨h.1,fun _=>⟨⟨g,0,none⟩,rfl,(Array.getElem?_eq_some_iff.1 hg).1,fun j u hj=>?_⟩⟩⟩
  have hl:=(List.getElem?_eq_some_iff.1 hj).1
  rw [h.1] at hl
  have:=h.cellAt j hl
  rw [hj] at this
  rw [show (⟨g,0,none⟩:Addr).add j=⟨g,j,none⟩ by unfold Addr.add;by_cases e:j=0<;>simp [e]]
  exact this
theorem info_parts {P:Program} {t:TypeId} {z:Option Value} {s b:Nat} (h:(P.info? t).map (fun i=>(i.zero,i.size,i.bytes))=some (z,s,b)):∃ i,P.info? t=some i/\i.zero=z/\i.size=s/\i.bytes=b:=by
 cases q:P.info? t with
 | none=>rw [q] at h;cases h
 | some i=>
  rw [q] at h
  simp only [Option.map_some,Option.some.injEq,Prod.mk.injEq] at h
  exact ⟨i,rfl,h.1,h.2.1,h.2.2⟩
def Zh (w:World) (b:Nat) (ty:TypeId) (cs:Array Value):Prop:=w.heap[b]? = some (.cells cs ty (0,0))
theorem Zh.blk {w:World} {b:Nat} {ty:TypeId} {cs:Array Value} (h:Zh w b ty cs):Blk w b cs:=⟨ty,h⟩
theorem Zh.start (w:World) (cs:Array Value) (ty:TypeId):Zh (w.alloc (.cells cs ty)) w.heap.size ty cs:=heap_alloc_new _ _
theorem Zh.lt {w:World} {b:Nat} {ty:TypeId} {cs:Array Value} (h:Zh w b ty cs):b<w.heap.size:=h.blk.lt
theorem Zh.keep {w w':World} {b:Nat} {ty:TypeId} {cs:Array Value} (h:Zh w b ty cs) (hb:Below w.heap.size w w'):Zh w' b ty cs:=(hb.block b h.lt).trans h
theorem Zh.set {w:World} {b:Nat} {ty:TypeId} {cs:Array Value} (h:Zh w b ty cs) (i:Nat) (v:Value):Zh (w.setCell ⟨b,i,none⟩ v) b ty (cs.setIfInBounds i v):=by
 have hlt:=h.lt
 have h':w.heap[b]=.cells cs ty (0,0):=by
  unfold Zh at h
  simpa [Array.getElem?_eq_getElem hlt] using h
 show (w.heap.modify b _)[b]? = _
 rw [Array.getElem?_eq_getElem (by simpa using hlt),Array.getElem_modify_self,h']
 rfl
theorem Zh.off {w:World} {b base n size:Nat} {ty e:TypeId} {cs:Array Value} {v:Value} {xs:List Value} (h:Zh w b ty cs) (ho:w.ownsRow base e size v n xs) (hne:ty≠e):v.ownBlock≠some b:=by
 rcases ho.2 with ⟨rfl,_⟩ | ⟨g,cap,cur,rfl,_,hg,_⟩
 ·intro q;cases q
 ·intro q
  injection q with q
  dsimp only at q
  subst q
  unfold Zh at h
  rw [hg] at h
  injection h with h
  injection h with _ h _
  exact hne h.symm
theorem Zo3 {w:World} {base base' n n' size size':Nat} {e e':TypeId} {v v':Value} {xs xs':List Value} (h:w.ownsRow base e size v n xs) (h':w.ownsRow base' e' size' v' n' xs') (hne:e≠e'):∀ b,v.ownBlock=some b->v'.ownBlock≠some b:=by
 intro b hb
 rcases h.2 with ⟨rfl,_⟩ | ⟨g,cap,cur,rfl,_,hg,_⟩
 ·cases hb
 ·injection hb with hb
  dsimp only at hb
  subst hb
  exact Zh.off (ty:=e) (cs:=cur) hg h' hne
theorem Zh.other {w:World} {b:Nat} {ty:TypeId} {cs:Array Value} (h:Zh w b ty cs) {p:Addr} (hp:p.block≠b) (v:Value):Zh (w.setCell p v) b ty cs:=(heap_setCell_other w p b v (fun e=>hp e.symm)).trans h
theorem ZdJ {w:World} {base n size g j:Nat} {e:TypeId} {v u:Value} {xs:List Value} (h:w.ownsRow base e size v n xs) (hg:v.ownBlock≠some g):(w.setCell ⟨g,j,none⟩ u).ownsRow base e size v n xs:=
 h.kept (row:=some g) Zas (.inr hg)
theorem Zh.grown {w w':World} {b:Nat} {ty:TypeId} {cs:Array Value} {row:Option Nat} (h:Zh w b ty cs) (hg:w.grownBy w' row) (hne:row≠some b):Zh w' b ty cs:=(hg.block b h.lt (fun e=>hne e.symm)).trans h
end
section
open Go.RowKit
abbrev u8s (t:Txt):List Value:=Lib.strCells ⟨t.toArray⟩
theorem Zm3 (a b:Txt):u8s (a++b)=u8s a++u8s b:=by simp [u8s,Lib.strCells]
structure Fr (w w':World) (bp:Nat):Prop where
 size:w.heap.size<=w'.heap.size
 at_:∀ b ty cs,b≠bp->ty≠5->Zh w b ty cs->Zh w' b ty cs
theorem Fr.refl (w:World) (bp:Nat):Fr w w bp:=⟨Nat.le_refl _,fun _ _ _ _ _ h=>h⟩
theorem Fr.trans {w w1 w2:World} {bp:Nat} (h:Fr w w1 bp) (k:Fr w1 w2 bp):Fr w w2 bp:=⟨Nat.le_trans h.size k.size,fun b ty cs h1 h2 h3=>k.at_ b ty cs h1 h2 (h.at_ b ty cs h1 h2 h3)⟩
theorem Fr.of_below {w w':World} (bp:Nat) (h:Below w.heap.size w w'):Fr w w' bp:=⟨h.size,fun _ _ _ _ _ k=>k.keep h⟩
structure PrS (w0 w:World) (bp:Nat) (t:Txt) (dp:Nat) (vn:Value):Prop where
 box:∃ v,Zh w bp 47 #[v,.int .i64 (dp:Int),vn]/\w.ownsRow w0.heap.size 5 1 v t.length (u8s t)
 below:Below w0.heap.size w0 w
 ge:w0.heap.size<=bp
theorem PrS.keep {w0 w w':World} {bp:Nat} {t:Txt} {dp:Nat} {vn:Value} (h:PrS w0 w bp t dp vn) (hb:Below w.heap.size w w'):PrS w0 w' bp t dp vn:=by
 obtain ⟨v,h1,h2⟩:=h.box
 exact ⟨⟨v,h1.keep hb,ZcG h2 hb⟩,h.below.trans (hb.mono h.below.size),h.ge⟩
theorem ZhR {w:World} {b:Nat} {t1 t2:TypeId} {c1 c2:Array Value} (h1:Zh w b t1 c1) (h2:Zh w b t2 c2):t1=t2:=by
 unfold Zh at h1 h2
 rw [h1] at h2
 injection h2 with h2
 injection h2
theorem Zrx:(Tryz.prog.info? 5).map (fun i=>(i.zero,i.size,i.bytes))=some (some (.int .u8 0),1,1):=by kernel_rfl
theorem ZfQ (w0 w:World) (bp pb dp:Nat) (t:Txt) (vn:Value) (parts:List Txt) (h:PrS w0 w bp t dp vn) (hp:Zh w pb 9 (parts.map txt).toArray) (hl:(t++parts.flatten).length<=140737488355328) (hn:parts.length<=1000) :
  Calls Tryz.prog 36 #[.pointer (some ⟨bp,0,none⟩),.slice (some ⟨pb,0,none⟩) parts.length parts.length] w fun e w'=>e=.returned (.tuple #[])/\PrS w0 w' bp (t++parts.flatten) dp vn/\Fr w w' bp:=by
 obtain ⟨i0,hi,hz0,hz1,hz2⟩:=info_parts Zrx
 have S0:=zh (zi h (zi hp (zi hl hn)))
 clear h hp hl hn
 go_enter Tryz.func36,Tryz.ntmps36
 go_wp2_with fail
 go_loopg [8] parts.length (fun g v8 wr=>∃ k:Nat,v8=.int .i64 k/\k<=parts.length/\g=parts.length-k/\PrS w0 wr bp (t++(parts.take k).flatten) dp vn/\Fr w wr bp)
 case atStart=>exact ⟨0,rfl,Nat.zero_le _,rfl,by simpa using S0.out.1,Fr.refl _ _⟩
 case round=>
  obtain ⟨k,rfl,hk,hg,hS,hF⟩:=hrel
  by_cases hkn:k=parts.length
  ·have j1:decide (k<parts.length)=false:=decide_eq_false (by omega)
   have FIN:=zh (zi (show PrS w0 wr bp (t++parts.flatten) dp vn by rw [hkn,List.take_length] at hS;exact hS) hF)
   clear hk hg hS hF hkn
   go_wp2_with fail
   go_end0
   exact ⟨rfl,FIN.out⟩
  ·have hlt:k<parts.length:=by omega
   obtain ⟨x,hx⟩:∃ x,parts[k]? = some x:=⟨_,List.getElem?_eq_getElem hlt⟩
   have nx:(parts.take (k+1)).flatten=(parts.take k).flatten++x:=by rw [List.take_add_one,hx,List.flatten_append];simp
   obtain ⟨bx,hbx,hob⟩:∃ p,Zh w bp 47 p/\True:=by obtain ⟨v,h1,_⟩:=S0.out.1.box;exact ⟨_,h1,trivial⟩
   have ne:pb≠bp:=fun e=>absurd (ZhR S0.out.2.1 (e▸hbx)) (by decide)
   have hpk:=hF.at_ pb _ _ ne (by decide) S0.out.2.1
   have d0:=(hpk.blk.cell k).trans (show (parts.map txt).toArray[k]? = some (txt x) by rw [List.getElem?_toArray,List.getElem?_map,hx];rfl)
   obtain ⟨v,hv,ho⟩:=hS.box
   obtain ⟨A,c,rfl⟩:=Zby ho
   have e0:=hv.blk.cell 0
   have f0:=hv.blk.free 0
   simp only [List.getElem?_toArray,List.getElem?_cons_zero] at e0
   have off:=hv.off ho (by decide)
   have j1:(k:Int)<(parts.length:Int):=by omega
   have j2:(0:Int)<=(k:Int):=by omega
   have wk:IntKind.i64.wrap ((k:Int)+1)=(k:Int)+1:=IntWalk.i64_in _ (by have:=S0.out.2.2.2;omega)
   have LN:(t++(parts.take k).flatten).length+x.length<=140737488355328:=by
    have e:parts=parts.take (k+1)++parts.drop (k+1):=(List.take_append_drop _ _).symm
    have:=S0.out.2.2.1
    rw [e,List.flatten_append,nx] at this
    simp only [List.length_append] at this ⊢
    omega
   have HK:=zh (zi hlt (zi hg (zi nx (zi hv (zi ho (zi off (zi hF (zi hS LN))))))))
   clear hkn hlt hk hg hx nx hbx hob ne hpk hv ho off hF hS LN
   generalize hT:t++(parts.take k).flatten=T at *
   have HT:=zh hT
   clear hT
   go_wp2_with (at_builtin;(refine Lib.wpList_append_own_string _ rfl _ _ 43 9 rfl w0.heap.size 5 i0 Tryz.underlying43 Tryz.underlying9 hi hz0 hz1 hz2 _ T.length (u8s T) rfl HK.out.2.2.2.2.1 ⟨x.toArray⟩ rfl ?c1 ?c2 ?c3 ?_))
   case c1=>have:=HK.out.2.2.2.2.2.2.2.2;show T.length+x.toArray.size<=_;rw [List.size_toArray];unfold maxLen;omega
   case c2=>have:=HK.out.2.2.2.2.2.2.2.2;show T.length+x.toArray.size<=_;rw [List.size_toArray];omega
   case c3=>exact HK.out.2.2.2.2.2.2.2.1.below.size
   intro v9 w3 hown hgrow _
   have hown':w3.ownsRow w0.heap.size 5 1 v9 (T++x).length (u8s (T++x)):=by
    rw [Zm3,List.length_append]
    exact hown
   obtain ⟨A9,c9,rfl⟩:=Zby hown'
   have k1:=HK.out.2.2.2.1.grown hgrow HK.out.2.2.2.2.2.1
   have e1:=k1.blk.cell 0
   have f1:=k1.blk.free 0
   simp only [List.getElem?_toArray,List.getElem?_cons_zero] at e1
   have off9:=k1.off hown' (by decide)
   have NX:=zh (show PrS w0 (w3.setCell ⟨bp,0,none⟩ (.slice A9 (T++x).length c9)) bp (T++x) dp vn from
    ⟨⟨_,by simpa using k1.set 0 (.slice A9 (T++x).length c9),ZdJ hown' off9⟩,(HK.out.2.2.2.2.2.2.2.1.below.trans (Zjw hgrow HK.out.2.2.2.2.2.2.2.1.below.size (fun k hk=>(HK.out.2.2.2.2.1.lt k hk).1))).setCell HK.out.2.2.2.2.2.2.2.1.ge _,HK.out.2.2.2.2.2.2.2.1.ge⟩)
   have NF:=zh (show Fr w (w3.setCell ⟨bp,0,none⟩ (.slice A9 (T++x).length c9)) bp from
    HK.out.2.2.2.2.2.2.1.trans ⟨by have:=hgrow.size;simpa [World.setCell] using this,fun b ty cs h1 h2 h3=>Zh.other (Zh.grown h3 hgrow (h3.off HK.out.2.2.2.2.1 h2)) (fun e=>h1 e.symm) _⟩)
   rw [List.length_append] at NX NF
   clear hown hown' hgrow k1 off9
   go_wp2_with fail
   go_roundg (parts.length-(k+1))
   case measure=>have:=HK.out.1;have:=HK.out.2.1;omega
   case rel=>
    refine ⟨k+1,by push_cast;rfl,HK.out.1,rfl,?_,NF.out⟩
    rw [HK.out.2.2.1,<- List.append_assoc,HT.out]
    exact NX.out
end
end Go.Proofs.YtkongcicmajolaaGreatDoor
