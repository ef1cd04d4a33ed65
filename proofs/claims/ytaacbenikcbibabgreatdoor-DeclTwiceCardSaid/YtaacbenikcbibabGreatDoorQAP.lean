import Derived.Test.YtaacbenikcbibabGreatDoorQAI
import Derived.Test.YtaacbenikcbibabGreatDoorQAL
import Derived.Test.YtaacbenikcbibabGreatDoorQAO
set_option maxRecDepth 100000
set_option maxHeartbeats 8000000
namespace Go.Proofs.YtaacbenikcbibabGreatDoor
section
open Go.RowKit
def Zc2 (w:World) (a:Nat) (p:Pro):Prop:=∃ vs vm,Blk w a #[txt p.name,vs,vm]/\ProAt w vs vm p
theorem Zc2.below {w w':World} {a:Nat} {p:Pro} (h:Zc2 w a p) (hb:Below w.heap.size w w'):Zc2 w' a p:=by
 obtain ⟨vs,vm,h1,h2⟩:=h
 exact ⟨vs,vm,h1.keep hb,h2.below hb⟩
theorem ZdT (w:World) (a:Nat) (p:Pro) (h:Zc2 w a p) (hz:SzP p) :
  Calls Tryz.prog 7 #[.pointer (some ⟨a,0,none⟩)] w fun e w'=>∃ vs vm,e=.returned (ZaF vs vm p)/\ProAt w' vs vm p/\Below w.heap.size w w':=by
 obtain ⟨vs,vm,hB,hP⟩:=h
 obtain ⟨As,cs,rfl,_⟩:=hP.states.len
 obtain ⟨Am,cm,rfl,_⟩:=hP.moves.len
 have a1:=Za w (.cells #[.string ⟨#[]⟩,.slice none 0 0,.slice none 0 0] 41)
 have B1:=Ze.start w #[.string ⟨#[]⟩,.slice none 0 0,.slice none 0 0] 41
 have B2:=hB.keep a1
 have c0:=B2.cell 0
 have c1:=B2.cell 1
 have c2:=B2.cell 2
 simp only [List.getElem?_toArray,List.getElem?_cons_zero,List.getElem?_cons_succ] at c0 c1 c2
 have CP:=Lib.hid (Zc6 _ _ _ p (hP.below a1) hz)
 have HA:=Lib.hid (And.intro a1 (And.intro B1 hz.len))
 clear hB hP hz a1 B1 B2
 go_enter Tryz.func7,Tryz.ntmps7
 go_wp2_with (go_at_call 17;(with_reducible refine CP.out.mono ?_);rintro e w2 ⟨vs',vm',rfl,ho,hb⟩;obtain ⟨rs,hm,s1,s2,s3⟩:=ho;obtain ⟨A5,c5,e5⟩:=Zm s1;obtain ⟨A6,c6,e6⟩:=Zm s2;subst e5 e6;have ho:=Lib.hid (show ZM w2 _ _ _ p from ⟨rs,hm,s1,s2,s3⟩);clear hm s1 s2 s3;have T2:=HA.out.2.1.keep hb;have y0:=T2.blk.cell 0;have y1:=T2.blk.cell 1;have y2:=T2.blk.cell 2;have f0:=T2.blk.free 0;have f1:=T2.blk.free 1;have f2:=T2.blk.free 2;simp only [List.getElem?_toArray,List.getElem?_cons_zero,List.getElem?_cons_succ] at y0 y1 y2;rw [World.size_alloc] at ho;have H2:=Lib.hid (And.intro ho.out (And.intro hb T2));clear ho hb T2)
 have lt:w.heap.size<w.heap.size+1:=Nat.lt_succ_self _
 have HF:=Lib.hid ((((H2.out.1.set (i:=0) (u:=txt p.name) lt).set (i:=1) (u:=.slice A5 p.states.length c5) lt).set (i:=2) (u:=.slice A6 rs.length c6) lt).pro HA.out.2.2)
 have HT:Ze _ _ _ _:=((H2.out.2.2.set 0 (txt p.name)).set 1 (.slice A5 p.states.length c5)).set 2 (.slice A6 rs.length c6)
 have HB:=Lib.hid ((((HA.out.1.trans (H2.out.2.1.mono HA.out.1.size)).setCell (p:=⟨w.heap.size,0,none⟩) (Nat.le_refl _) (txt p.name)).setCell (p:=⟨w.heap.size,1,none⟩) (Nat.le_refl _) (.slice A5 p.states.length c5)).setCell (p:=⟨w.heap.size,2,none⟩) (Nat.le_refl _) (.slice A6 rs.length c6))
 refine bodyPost_ret (results_cell_row (P:=Tryz.prog) rfl _ _ w.heap.size 41 #[txt p.name,.slice A5 p.states.length c5,.slice A6 rs.length c6] (0,0) _ rfl (by unfold Ze at HT;simpa using HT) Tryz.underlying41 rfl (by obtain ⟨i,hi,_,hs,_⟩:=ZG Zdf;rw [hi];show some i.size=_;rw [hs];rfl)) rfl ?_
 exact ⟨_,_,rfl,HF.out,HB.out⟩
end
section
open Go.RowKit
def Zef (s:List UInt8) (p:Int×Int) (x:Sta):Int×Int:=(p.1+1,if x.name=s then p.1 else p.2)
def ZF (l:List Sta) (s:List UInt8):Int:=(l.foldl (Zef s) (0,-1)).2
theorem ZeC (s:List UInt8):∀ (l:List Sta) (p:Int×Int),(l.foldl (Zef s) p).1=p.1+l.length
 | [],p=>by simp
 | x::r,p=>by
  rw [List.foldl_cons,ZeC s r,List.length_cons]
  simp only [Zef]
  omega
theorem ZdP (s:List UInt8):ZF [] s=-1:=rfl
theorem Zdj (l:List Sta) (x:Sta) (s:List UInt8):ZF (l++[x]) s=if x.name=s then (l.length:Int) else ZF l s:=by
 unfold ZF
 rw [List.foldl_append]
 simp only [List.foldl_cons,List.foldl_nil,Zef]
 rw [ZeC]
 simp
theorem ZeB (s:List UInt8) (l:List Sta):-1<=ZF l s/\ZF l s<l.length:=by
 generalize hn:l.length=n
 induction n generalizing l with
 | zero=>rw [List.length_eq_zero_iff.1 hn];simp [ZdP]
 | succ n ih=>
  have hne:l≠[]:=fun e=>by rw [e] at hn;simp at hn
  have e:=(List.dropLast_concat_getLast hne).symm
  have hl:l.dropLast.length=n:=by rw [List.length_dropLast];omega
  have:=ih l.dropLast hl
  rw [e,Zdj]
  split<;>omega
def wdK (l:List (List UInt8)) (k:Nat):List UInt8:=(l[k]?).getD []
def Zah (ss:List Sta):List (List UInt8)->List Ou
 | a::b::r=>⟨a,ZF ss b⟩::Zah ss r
 | _=>[]
def Zeg (ss:List Sta) (ws:List (List UInt8)):Mov:=⟨wdK ws 0,ZF ss (wdK ws 1),Zah ss (ws.drop 2)⟩
def ZR (ns:List Nd) (ks:List Int) (k:Int):List Nd:=(ks.map (ZB ns)).filter fun m=>m.kind==k
def stD (m:Nd):Sta:=⟨wdK m.words 0,decide ((m.nums[0]?).getD 0=1)⟩
structure Dcl where
 pro:Pro
 at_:Int
 sts:List Int
 ops:List Int
def ZaM (ns:List Nd) (n:Nd):Dcl:=
 ⟨⟨wdK n.words 0,(ZR ns n.kids 2).map stD,(ZR ns n.kids 3).map fun m=>Zeg ((ZR ns n.kids 2).map stD) m.words⟩,n.pos,(ZR ns n.kids 2).map (·.pos),(ZR ns n.kids 3).map (·.pos)⟩
def Zb3 (o:Ou):Bool:=decide (o.to=-1)
def ZbK (m:Mov):Bool:=decide (m.at_=-1)||m.outs.any Zb3
def ZaG (used:Bool) (d:Dcl):Int×Int:=
 if used then (2,d.at_)
 else if 0<=ZX ZbK d.pro.moves then (3,(d.ops[(ZX ZbK d.pro.moves).toNat]?).getD 0)
 else if (Zy d.pro).1=0 then (0,0)
 else if d.pro.states.length=0 then (1,d.at_)
 else if (Zy d.pro).1=1\/(Zy d.pro).1=5 then (1,(d.sts[(Zy d.pro).2.toNat]?).getD 0)
 else (1,(d.ops[(Zy d.pro).2.toNat]?).getD 0)
structure Bk where
 ps:List Pro
 taken:List (List UInt8)
 ds:List (Int×Int×List UInt8)
def ZaU (ns:List Nd) (b:Bk) (n:Nd):Bk:=
 let d:=ZaM ns n
 let c:=ZaG (b.taken.contains d.pro.name) d
 if c.1=0 then { ps:=b.ps++[d.pro],taken:=d.pro.name::b.taken,ds:=b.ds }
 else { ps:=b.ps,taken:=d.pro.name::b.taken,ds:=b.ds++[(c.1,c.2,d.pro.name)] }
theorem Zf7 (ns:List Nd) (j:Int) (ks:List Int) (k:Int):ZR ns (j::ks) k=if (ZB ns j).kind=k then ZB ns j::ZR ns ks k else ZR ns ks k:=by
 unfold ZR
 rw [List.map_cons,List.filter_cons]
 by_cases h:(ZB ns j).kind=k
 ·rw [if_pos h,if_pos (by simpa using h)]
 ·rw [if_neg h,if_neg (by simpa using h)]
theorem Zez (ns:List Nd) (a b:List Int) (k:Int):ZR ns (a++b) k=ZR ns a k++ZR ns b k:=by
 unfold ZR
 rw [List.map_append,List.filter_append]
theorem Zcd (ns:List Nd) (ks:List Int) (k:Int) (i:Nat) (j:Int) (h:ks[i]? = some j):ZR ns (ks.take (i+1)) k=ZR ns (ks.take i) k++(if (ZB ns j).kind=k then [ZB ns j] else []):=by
 rw [List.take_add_one,h,Zez]
 congr 1
 show ZR ns [j] k=_
 rw [Zf7]
 split<;>rfl
end
end Go.Proofs.YtaacbenikcbibabGreatDoor
