import Derived.OneCell
import Derived.StillTailTactics
import Derived.BigRegion
import Derived.Deep.RegionHeld3
import Derived.Deep.Cut
import Derived.Test.YtfdgeijnkkdplaaDoorQAD
set_option maxRecDepth 100000
set_option maxHeartbeats 8000000
namespace Go.Proofs.YtfdgeijnkkdplaaDoor
section
open Go.RowKit
theorem Zaf.grown {w w':World} {g:Nat} {l:List (List UInt8)} {row:Option Nat} (h:Zaf w g l) (hg:w.grownBy w' row) (hne:row≠some g):Zaf w' g l:=by
 obtain ⟨t,fr,e⟩:=h
 exact ⟨t,fr,(hg.block g (lt_of_block e) (fun q=>hne q.symm)).trans e⟩
theorem Zdl {w w':World} {row:Option Nat} (h:w.grownBy w' row):w.grownBy w'.drew row:=⟨h.os,h.tape,h.output,h.size,h.block⟩
theorem Zct {a b c:World} {row:Option Nat} (h:a.grownBy b row) (k:b.grownBy c row):a.grownBy c row:=
 ⟨k.os.trans h.os,k.tape.trans h.tape,k.output.trans h.output,Nat.le_trans h.size k.size,fun i hi hne=>(k.block i (Nat.lt_of_lt_of_le hi h.size) hne).trans (h.block i hi hne)⟩
theorem Zf2 {w w3:World} {row:Option Nat} (h:w.grownBy w3 row) (x y z:Value):w.grownBy (((w3.setCell ⟨w.heap.size,0,none⟩ x).setCell ⟨w.heap.size,1,none⟩ y).setCell ⟨w.heap.size,2,none⟩ z) row:=by
 refine ⟨h.os,h.tape,h.output,by simpa [World.setCell] using h.size,fun k hk hne=>?_⟩
 rw [Below.heap_setCell _ _ _ _ (by show k≠w.heap.size;omega),Below.heap_setCell _ _ _ _ (by show k≠w.heap.size;omega),Below.heap_setCell _ _ _ _ (by show k≠w.heap.size;omega)]
 exact h.block k hk hne
structure ReadAns where
 kind:Nat
 lo:Nat
 size:Nat
 ok:Bool
def Zam (l:List UInt8) (a:Nat):ReadAns:=
 let b:=Zt (l.drop a)
 let f:=ZY (l.drop (a+b))
 ⟨f.1,a+b,f.2.1,f.2.2⟩
theorem Zgk (l:List UInt8) (a:Nat) (h:a<=l.length):(Zam l a).lo<=l.length/\(Zam l a).lo+(Zam l a).size<=l.length/\a<=(Zam l a).lo:=by
 have h1:=ZcC (l.drop a)
 rw [List.length_drop] at h1
 have h2:=Ze9 (l.drop (a+Zt (l.drop a)))
 rw [List.length_drop] at h2
 unfold Zam
 dsimp only
 omega
def Zhu (w:World) (ba:Nat) (s:ByteArray) (r:ReadAns) (e:Ending) (w':World):Prop:=
 e=.returned (.tuple #[.agg #[.int .i64 r.kind,.string (s.extract r.lo (r.lo+r.size)),.int .i64 r.lo],.bool r.ok])/\w.grownBy w' (some ba)/\Blk w' ba #[.int .i64 ((r.lo+r.size:Nat):Int)]
theorem Zls (w:World) (ba bs:Nat) (s:ByteArray) (a:Nat) (hs:s.size<=maxLen) (ha:a<=s.size) (ht:Zaf w 0 Zp) (hA:Blk w ba #[.int .i64 a]) (hS:Blk w bs #[.string s]) (hne:ba≠bs) (hg:0≠ba) :
  Calls Tryd.prog 15 #[.pointer (some ⟨ba,0,none⟩),.pointer (some ⟨bs,0,none⟩)] w (Zhu w ba s (Zam s.data.toList a)):=by
 have hle:=Zgk s.data.toList a (by rw [Zbi];exact ha)
 have hx:=fun k=>Lib.extract_to_end s k
 have bl:=fun w=>ZhP (s.extract a s.size) w (by rw [ByteArray.size_extract];omega)
 rw [hx a] at bl
 have fi:=fun w (h:Zaf w 0 Zp)=>Zkl (s.extract (a+Zt (s.data.toList.drop a)) s.size) w (by rw [ByteArray.size_extract];omega) h
 rw [hx] at fi
 rw [Zbi] at hle
 unfold Zam at hle ⊢
 dsimp only at hle ⊢
 generalize ZY (s.data.toList.drop (a+Zt (s.data.toList.drop a)))=f at *
 generalize Zt (s.data.toList.drop a)=b at *
 obtain ⟨f1,f2,f3⟩:=f
 unfold Zb7 at fi
 dsimp only at *
 unfold maxLen at hs
 have BL:=zh bl
 have FI:=zh fi
 have HL:=zh hle
 have HT:=zh ht
 clear bl fi hx hle ht
 have a0:=below_alloc1 w (.cells #[.int .i64 0,.string ⟨#[]⟩,.int .i64 0] 47)
 have LA:=hA.lt
 have LS:=hS.lt
 have R0:=zh (Blk.start w #[.int .i64 0,.string ⟨#[]⟩,.int .i64 0] 47)
 have GA:=zh (zi (hA.keep a0) (zi (hS.keep a0) (zi (HT.out.below a0) (ZbD a0 (some ba)))))
 have g0:=GA.out.1.cell 0
 have g1:=GA.out.2.1.cell 0
 have g2:=GA.out.1.free 0
 have LZ:=a0.size
 clear hA hS a0
 go_enter Tryd.func15,Tryd.ntmps15
 go_wp2_with fail
 generalize w.alloc (.cells #[.int .i64 0,.string ⟨#[]⟩,.int .i64 0] 47)=w1 at *
 have wb:IntKind.i64.wrap ((a:Int)+(b:Int))=(a:Int)+(b:Int):=IntWalk.i64_in _ (by have:=HL.out;omega)
 have i0:(0:Int)<=(a:Int):=by omega
 have i1:(a:Int)<=(s.size:Int):=by omega
 refine wp_region_still_tail 6 (by kernel_rfl) (by kernel_rfl) ?_
 simp only [List.take_succ_cons,List.take_zero,List.drop_succ_cons,List.drop_zero]
 iterate 4 still_step
 still_call ((BL.out _).mono fun _ _ h=>⟨h.1,h.2.symm⟩)
 still_step
 refine wpStill_nil ?_
 change wpList _ _ _ _ _ w1.drew
 go_upto_region 2 with fail
 have H2:Blk (w1.setCell ⟨ba,0,none⟩ (.int .i64 ((a:Int)+(b:Int)))).drew ba #[.int .i64 ((a:Int)+(b:Int))]/\Blk (w1.setCell ⟨ba,0,none⟩ (.int .i64 ((a:Int)+(b:Int)))).drew bs #[.string s]/\Zaf (w1.setCell ⟨ba,0,none⟩ (.int .i64 ((a:Int)+(b:Int)))).drew 0 Zp/\w.grownBy (w1.setCell ⟨ba,0,none⟩ (.int .i64 ((a:Int)+(b:Int)))).drew (some ba)/\Blk (w1.setCell ⟨ba,0,none⟩ (.int .i64 ((a:Int)+(b:Int)))).drew w.heap.size #[.int .i64 0,.string ⟨#[]⟩,.int .i64 0]:=
  ⟨(GA.out.1.set 0 _).drew,(GA.out.2.1.other hne _).drew,GA.out.2.2.1.grown (Zdl ZbH) (fun e=>hg (Option.some.inj e).symm),Zct GA.out.2.2.2 (Zdl ZbH),(R0.out.other (Nat.ne_of_lt LA) _).drew⟩
 have GA:=zh H2
 clear H2 R0 g0 g1 g2 wb
 generalize (w1.setCell ⟨ba,0,none⟩ (.int .i64 ((a:Int)+(b:Int)))).drew=w2 at *
 have g0:=GA.out.1.cell 0
 have g1:=GA.out.2.1.cell 0
 have LA2:=GA.out.1.lt
 have LS2:=GA.out.2.1.lt
 have i0:(0:Int)<=(a:Int)+(b:Int):=by omega
 have i1:(a:Int)+(b:Int)<=(s.size:Int):=by have:=HL.out;omega
 have en:((a:Int)+(b:Int)).toNat=a+b:=by omega
 go_upto_region 3 with (go_at_call 17;(with_reducible refine (FI.out _ GA.out.2.2.1).mono ?_);rintro e w1 ⟨rfl,rfl⟩)
 have wc:IntKind.i64.wrap ((a:Int)+(b:Int)+(f2:Int))=(a:Int)+(b:Int)+(f2:Int):=IntWalk.i64_in _ (by have:=HL.out;omega)
 have i2:(a:Int)+(b:Int)<=(a:Int)+(b:Int)+(f2:Int):=by omega
 have i3:(a:Int)+(b:Int)+(f2:Int)<=(s.size:Int):=by have:=HL.out;omega
 have em:((a:Int)+(b:Int)+(f2:Int)).toNat=a+b+f2:=by omega
 refine wp_region_noPanic ?_
 refine wp_region_held_drew (S:=fun w'=>(w'.cell? ⟨ba,0,none⟩=some (.int .i64 ((a:Int)+(b:Int)))/\w'.cell? ⟨bs,0,none⟩=some (.string s))/\(w2.heap.size<=w'.heap.size)) (by kernel_rfl) ⟨⟨g0,g1⟩,Nat.le_refl _⟩ (fun hHeld=>?_)
 refine wpAnyH_take (i:=0) (oi:=_) (v:=?_) rfl (by kernel_rfl) (by kernel_rfl) (by kernel_rfl) (fun _ _ _ h=>h) (Or.inl ⟨by rfl,?_⟩) (by assumption) ?_
 rotate_left
 ·intro ww hSw
  (try dsimp only at hSw)
  go_simp<;>with_reducible rfl
 (try simp only [List.getElem_toArray,List.getElem_cons_zero,Act.put,List.setIfInBounds_toArray,List.set_cons_zero,List.set_cons_succ])
 refine wpAnyH_take (i:=1) (oi:=_) (v:=?_) rfl (by kernel_rfl) (by kernel_rfl) (by kernel_rfl) (fun _ _ _ h=>h) (Or.inl ⟨by rfl,?_⟩) (by assumption) ?_
 rotate_left
 ·intro ww hSw
  (try dsimp only at hSw)
  go_simp<;>with_reducible rfl
 (try simp only [List.getElem_toArray,List.getElem_cons_succ,List.getElem_cons_zero,Act.put,List.setIfInBounds_toArray,List.set_cons_zero,List.set_cons_succ])
 refine wpAnyH_take (i:=2) (oi:=_) (v:=?_) rfl (by kernel_rfl) (by kernel_rfl) (by kernel_rfl) (fun _ _ _ h=>h) (Or.inl ⟨by rfl,?_⟩) (by assumption) ?_
 rotate_left
 ·intro ww hSw
  (try dsimp only at hSw)
  go_simp<;>with_reducible rfl
 (try simp only [List.getElem_toArray,List.getElem_cons_succ,List.getElem_cons_zero,Act.put,List.setIfInBounds_toArray,List.set_cons_zero,List.set_cons_succ])
 refine wpAnyH_take (i:=3) (oi:=_) (v:=?_) rfl (by kernel_rfl) (by kernel_rfl) (by kernel_rfl) (fun _ _ _ h=>h) (Or.inl ⟨by rfl,?_⟩) (by assumption) ?_
 rotate_left
 ·intro ww hSw
  (try dsimp only at hSw)
  go_simp<;>with_reducible rfl
 (try simp only [List.getElem_toArray,List.getElem_cons_succ,List.getElem_cons_zero,Act.put,List.setIfInBounds_toArray,List.set_cons_zero,List.set_cons_succ])
 refine wpAnyH_take (i:=4) (oi:=_) (v:=?_) rfl (by kernel_rfl) (by kernel_rfl) (by kernel_rfl) (fun _ _ _ h=>h) (Or.inl ⟨by rfl,?_⟩) (by assumption) ?_
 rotate_left
 ·intro ww hSw
  (try dsimp only at hSw)
  go_simp<;>with_reducible rfl
 (try simp only [List.getElem_toArray,List.getElem_cons_succ,List.getElem_cons_zero,Act.put,List.setIfInBounds_toArray,List.set_cons_zero,List.set_cons_succ])
 refine wpAnyH_take (i:=5) (oi:=_) (v:=?_) rfl (by kernel_rfl) (by kernel_rfl) (by kernel_rfl) (fun _ _ _ h=>h) (Or.inl ⟨by rfl,?_⟩) (by assumption) ?_
 rotate_left
 ·intro ww hSw
  (try dsimp only at hSw)
  go_simp<;>with_reducible rfl
 (try simp only [List.getElem_toArray,List.getElem_cons_succ,List.getElem_cons_zero,Act.put,List.setIfInBounds_toArray,List.set_cons_zero,List.set_cons_succ])
 refine wpAnyH_take (i:=6) (oi:=_) (v:=?_) rfl (by kernel_rfl) (by kernel_rfl) (by kernel_rfl) (fun _ _ _ h=>h) (Or.inl ⟨by rfl,?_⟩) (by assumption) ?_
 rotate_left
 ·intro ww hSw
  (try dsimp only at hSw)
  go_simp<;>with_reducible rfl
 (try simp only [List.getElem_toArray,List.getElem_cons_succ,List.getElem_cons_zero,Act.put,List.setIfInBounds_toArray,List.set_cons_zero,List.set_cons_succ])
 refine wpAnyH_take (i:=7) (oi:=_) (v:=?_) rfl (by kernel_rfl) (by kernel_rfl) (by kernel_rfl) (fun _ _ _ h=>h) (Or.inl ⟨by rfl,?_⟩) (by assumption) ?_
 rotate_left
 ·intro ww hSw
  (try dsimp only at hSw)
  go_simp<;>with_reducible rfl
 (try simp only [List.getElem_toArray,List.getElem_cons_succ,List.getElem_cons_zero,Act.put,List.setIfInBounds_toArray,List.set_cons_zero,List.set_cons_succ])
 refine wpAnyH_take (i:=8) (oi:=_) (v:=?_) rfl (by kernel_rfl) (by kernel_rfl) (by kernel_rfl) (fun _ _ _ h=>h) (Or.inl ⟨by rfl,?_⟩) (by assumption) ?_
 rotate_left
 ·intro ww hSw
  (try dsimp only at hSw)
  go_simp<;>with_reducible rfl
 (try simp only [List.getElem_toArray,List.getElem_cons_succ,List.getElem_cons_zero,Act.put,List.setIfInBounds_toArray,List.set_cons_zero,List.set_cons_succ])
 refine wpAnyH_ready (rs:=[9]) (by kernel_rfl) (by simp) ?_
 refine AllReadyH.cons (o:=_) rfl (fun K hK=>?_) AllReadyH.nil
 go_simp
 refine hK.out _ _ ?_ (fun hH2=>?_)
 ·exact ⟨⟨by go_simp,by go_simp⟩,by simp⟩
 clear hK K hHeld
 have hHeld:=hH2
 clear hH2
 (try simp only [List.getElem_toArray,List.getElem_cons_succ,List.getElem_cons_zero,Act.put,List.setIfInBounds_toArray,List.set_cons_zero,List.set_cons_succ])
 refine wpAnyH_ready (rs:=[10]) (by kernel_rfl) (by simp) ?_
 refine AllReadyH.cons (o:=_) rfl (fun K hK=>?_) AllReadyH.nil
 go_simp
 refine hK.out _ _ ?_ (fun hH2=>?_)
 ·exact ⟨⟨by go_simp,by go_simp⟩,by simp⟩
 clear hK K hHeld
 have hHeld:=hH2
 clear hH2
 (try simp only [List.getElem_toArray,List.getElem_cons_succ,List.getElem_cons_zero,Act.put,List.setIfInBounds_toArray,List.set_cons_zero,List.set_cons_succ])
 refine wpAnyH_done (by kernel_rfl) ?_ _
 refine NoPanic.normal ?_
 go_upto_region 4 with fail
 have H3:Blk (w2.alloc (.cells #[.int .i64 f1,.string (s.extract (a+b) (a+b+f2)),.int .i64 ((a:Int)+(b:Int))] 47)).drew ba #[.int .i64 ((a:Int)+(b:Int))]/\w.grownBy (w2.alloc (.cells #[.int .i64 f1,.string (s.extract (a+b) (a+b+f2)),.int .i64 ((a:Int)+(b:Int))] 47)).drew (some ba)/\Blk (w2.alloc (.cells #[.int .i64 f1,.string (s.extract (a+b) (a+b+f2)),.int .i64 ((a:Int)+(b:Int))] 47)).drew w.heap.size #[.int .i64 0,.string ⟨#[]⟩,.int .i64 0]/\Blk (w2.alloc (.cells #[.int .i64 f1,.string (s.extract (a+b) (a+b+f2)),.int .i64 ((a:Int)+(b:Int))] 47)).drew w2.heap.size #[.int .i64 f1,.string (s.extract (a+b) (a+b+f2)),.int .i64 ((a:Int)+(b:Int))]:=
  ⟨(GA.out.1.keep (below_alloc1 _ _)).drew,Zct GA.out.2.2.2.1 (Zdl (ZbD (below_alloc1 _ _) _)),(GA.out.2.2.2.2.keep (below_alloc1 _ _)).drew,(Blk.start _ _ _).drew⟩
 have L2:=GA.out.2.2.2.2.lt
 have G3:=zh H3
 clear H3 g0 g1 GA hHeld wc i2 i3 em en i0 i1
 generalize (w2.alloc (.cells #[.int .i64 f1,.string (s.extract (a+b) (a+b+f2)),.int .i64 ((a:Int)+(b:Int))] 47)).drew=w3 at *
 have d0:=G3.out.1.cell 0
 have d1:=G3.out.1.free 0
 have t0:=G3.out.2.2.2.cell 0
 have t1:=G3.out.2.2.2.cell 1
 have t2:=G3.out.2.2.2.cell 2
 have r0:=G3.out.2.2.1.cell 0
 have r1:=G3.out.2.2.1.cell 1
 have r2:=G3.out.2.2.1.cell 2
 have q0:=G3.out.2.2.1.free 0
 have q1:=G3.out.2.2.1.free 1
 have q2:=G3.out.2.2.1.free 2
 have n1:w2.heap.size≠ba:=by omega
 have n2:w.heap.size≠ba:=by omega
 have n3:w.heap.size≠w2.heap.size:=by omega
 have wd:IntKind.i64.wrap ((a:Int)+(b:Int)+(f2:Int))=(a:Int)+(b:Int)+(f2:Int):=IntWalk.i64_in _ (by have:=HL.out;omega)
 go_wp2_with fail
 have B4:=(G3.out.2.2.1.other (p:=⟨ba,0,none⟩) (fun e=>n2 e.symm) (.int .i64 ((a:Int)+(b:Int)+(f2:Int))))
 have B5:=((B4.set 0 (.int .i64 f1)).set 1 (.string (s.extract (a+b) (a+b+f2)))).set 2 (.int .i64 ((a:Int)+(b:Int)))
 have BA:=(((G3.out.1.set 0 (.int .i64 ((a:Int)+(b:Int)+(f2:Int)))).other (p:=⟨w.heap.size,0,none⟩) n2 (.int .i64 f1)).other (p:=⟨w.heap.size,1,none⟩) n2 (.string (s.extract (a+b) (a+b+f2)))).other (p:=⟨w.heap.size,2,none⟩) n2 (.int .i64 ((a:Int)+(b:Int)))
 have GW:=Zct G3.out.2.1 (ZbH (g:=ba) (j:=0) (u:=(.int .i64 ((a:Int)+(b:Int)+(f2:Int)))))
 have GZ:=Zf2 GW (.int .i64 f1) (.string (s.extract (a+b) (a+b+f2))) (.int .i64 ((a:Int)+(b:Int)))
 have c0:=B5.cell 0
 have c1:=B5.cell 1
 have c2:=B5.cell 2
 exact bodyPost_ret (v:=.tuple #[.agg #[.int .i64 f1,.string (s.extract (a+b) (a+b+f2)),.int .i64 ((a:Int)+(b:Int))],.bool f3]) (by simp [results,Tryd.results15,go_sem,c0,c1,c2]) rfl ⟨by push_cast;rfl,GZ,by push_cast;exact BA⟩
end
section
open Go.RowKit
def Za0:List Tok->List Value
 | []=>[]
 | t::r=>.int .i64 t.1::txt t.2.1::.int .i64 t.2.2::Za0 r
theorem Zc9:∀ (l m:List Tok),Za0 (l++m)=Za0 l++Za0 m
 | [],m=>rfl
 | x::r,m=>by rw [List.cons_append,Za0,Za0,Zc9 r m];rfl
def ZaJ (w:World) (v:Value) (l:List Tok):Prop:=∃ A c,v=.slice A l.length c/\l.length<=c/\c<=maxLen/\ZT w w.heap.size 3 A l.length (Za0 l)
theorem ZaJ.below {w w':World} {v:Value} {l:List Tok} (h:ZaJ w v l) (hb:Below w.heap.size w w'):ZaJ w' v l:=by
 obtain ⟨A,c,h1,h2,h3,h4⟩:=h
 exact ⟨A,c,h1,h2,h3,(h4.below hb).more hb.size⟩
theorem ZaJ.nil (w:World):ZaJ w (.slice none 0 0) []:=⟨none,0,rfl,Nat.le_refl _,by decide,ZT.none_⟩
theorem ZaJ.own {w:World} {base:Nat} {v:Value} {ts:List Tok} (h:w.ownsRow base 47 3 v ts.length (Za0 ts)):ZaJ w v ts:=by
 have h0:=h
 rcases h.2 with ⟨rfl,hn⟩ | ⟨g,cap,cur,rfl,_,hh,hnc,hrest⟩
 ·have hts:ts=[]:=List.eq_nil_of_length_eq_zero hn
  subst hts
  exact ZaJ.nil w
 ·exact ⟨some _,cap,rfl,hnc,hrest.1,ZT.of_own h0⟩
theorem ZlS:(Tryd.prog.info? 47).map (fun i=>(i.zero,i.size,i.bytes))=some (some (.agg #[.int .i64 0,.string ⟨#[]⟩,.int .i64 0]),3,32):=by kernel_rfl
theorem Zla (l:List UInt8) (a:Nat) :
  ((Zam l a).ok=false->Zat (l.drop a) a=.bad (Zam l a).lo) ∧
  ((Zam l a).ok=true->(Zam l a).kind=3->Zat (l.drop a) a=.ok [(3,(l.drop (Zam l a).lo).take (Zam l a).size,(Zam l a).lo)]) ∧
  ((Zam l a).ok=true->¬ (Zam l a).kind=3->Zat (l.drop a) a=(Zat (l.drop ((Zam l a).lo+(Zam l a).size)) ((Zam l a).lo+(Zam l a).size)).push ((Zam l a).kind,(l.drop (Zam l a).lo).take (Zam l a).size,(Zam l a).lo)/\1<=(Zam l a).size):=by
 unfold Zam
 dsimp only
 have e:(l.drop a).drop (Zt (l.drop a))=l.drop (a+Zt (l.drop a)):=List.drop_drop
 generalize hb:Zt (l.drop a)=b at *
 cases q:l.drop (a+b) with
 | nil=>
  refine ⟨fun h=>Bool.noConfusion h,fun _ _=>?_,fun _ h=>absurd rfl h⟩
  rw [q] at e
  have hl:Zt (l.drop a)=(l.drop a).length:=by
   have h1:=ZcC (l.drop a)
   have h2:=List.length_drop (i:=b) (l:=l.drop a)
   rw [e] at h2
   simp only [List.length_nil] at h2
   omega
  rw [Zdq hl,<- hl,hb]
  rfl
 | cons c r=>
  rw [q] at e
  have kind:(ZY (c::r)).2.2=true->(ZY (c::r)).1≠3:=by
   rw [Zbf]
   split
   ·exact fun _=>(by simp)
   ·split
    ·exact fun _=>(by simp)
    ·split
     ·exact fun _=>(by simp)
     ·exact fun _=>(by simp)
  refine ⟨fun h=>?_,fun h h3=>absurd h3 (kind h),fun h _=>⟨?_,Zch h⟩⟩
  ·rw [Zek (by rw [hb];exact e) h,hb]
  ·rw [ZcO (by rw [hb];exact e) h,hb,<- q,List.drop_drop]
def Zke (w:World):LexAns->Ending->World->Prop
 | .bad a,e,w'=>e=.returned (.tuple #[.slice none 0 0,.agg #[.int .i64 10,.int .i64 a]])/\Below w.heap.size w w'
 | .ok ts,e,w'=>∃ A c,e=.returned (.tuple #[.slice A ts.length c,.agg #[.int .i64 0,.int .i64 0]])/\ZaJ w' (.slice A ts.length c) ts/\Below w.heap.size w w'
structure TokS (W wr:World) (bs:Nat) (s:ByteArray) (a:Nat) (v:Value) (ts:List Tok):Prop where
 A:Blk wr (bs+1) #[.int .i64 a]
 S:Blk wr bs #[.string s]
 F:Blk wr W.heap.size #[.int .i64 0,.int .i64 0]
 own:wr.ownsRow (bs+2) 47 3 v ts.length (Za0 ts)
 T:Zaf wr 0 Zp
 below:Below W.heap.size W wr
 lt:W.heap.size<bs
 sg:0<W.heap.size
section
variable {W wr w':World} {bs a:Nat} {s:ByteArray} {v:Value} {ts:List Tok}
theorem TokS.keep (h:TokS W wr bs s a v ts) (hb:Below wr.heap.size wr w'):TokS W w' bs s a v ts:=
 ⟨h.A.keep hb,h.S.keep hb,h.F.keep hb,h.own.kept (ZbD hb none) (by cases hv:v.ownBlock<;>simp),h.T.below hb,h.below.trans (hb.mono h.below.size),h.lt,h.sg⟩
theorem TokS.read {a':Nat} (h:TokS W wr bs s a v ts) (hg:wr.grownBy w' (some (bs+1))) (hA:Blk w' (bs+1) #[.int .i64 a']):TokS W w' bs s a' v ts:=by
 have hl:=h.lt
 have hs:=h.sg
 refine ⟨hA,h.S.grown hg (fun e=>by have:=Option.some.inj e;omega),h.F.grown hg (fun e=>by have:=Option.some.inj e;omega),h.own.kept hg (.inr fun e=>?_),h.T.grown hg (fun e=>by have:=Option.some.inj e;omega),h.below.grown hg h.below.size (fun k hk=>by have:=Option.some.inj hk;omega),hl,hs⟩
 have:=(h.own.lt _ e).1
 omega
theorem TokS.push {t:Tok} {v':Value} (h:TokS W wr bs s a v ts) (hown:w'.ownsRow (bs+2) 47 3 v' (ts.length+1) (Za0 ts++[.int .i64 t.1,txt t.2.1,.int .i64 t.2.2])) (hg:wr.grownBy w' v.ownBlock):TokS W w' bs s a v' (ts++[t]):=by
 have hl:=h.lt
 have hs:=h.sg
 have ne:∀ b,b<bs+2->v.ownBlock≠some b:=fun b hb e=>by have:=(h.own.lt _ e).1;omega
 refine ⟨h.A.grown hg (ne _ (by omega)),h.S.grown hg (ne _ (by omega)),h.F.grown hg (ne _ (by omega)),?_,h.T.grown hg (ne _ (by omega)),h.below.grown hg h.below.size (fun k hk=>by have:=(h.own.lt _ hk).1;omega),hl,hs⟩
 rw [List.length_append,Zc9]
 exact hown
end
theorem Zmx (k a:Int) (s:List UInt8):∀ u∈[Value.int .i64 k,txt s,.int .i64 a],u.oneCell'=true:=fun u hu=>by
 simp at hu
 rcases hu with rfl | rfl | rfl<;>rfl
theorem ZkX {s:ByteArray} {l:List UInt8} (h:s.data.toList=l):Value.string s=txt l:=by
 subst h
 rfl
end
end Go.Proofs.YtfdgeijnkkdplaaDoor
