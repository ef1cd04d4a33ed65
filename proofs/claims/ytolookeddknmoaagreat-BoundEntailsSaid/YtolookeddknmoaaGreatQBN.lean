import Derived.Test.YtolookeddknmoaaGreatQBM
set_option maxRecDepth 100000
set_option maxHeartbeats 8000000
namespace Go.Proofs.YtolookeddknmoaaGreat
section
open Go.RowKit
def Zg0:Rw:=(2,[(1,1)],(0,1))
def ZiI:Rw:=(1,[(-1,1)],(1,1))
def Znf:Rw:=(1,[(-1,1)],(0,1))
def Zhy:List (Int×Int):=(1,2)::List.replicate 7 (0,1)
theorem Zrq:ZbV [Zg0,ZiI]=(Zhy,0):=by decide +kernel
theorem Zrr:ZbV [Zg0,Znf]=([],1):=by decide +kernel
theorem Zrs:Zed [Zg0,ZiI] Zhy=true:=by decide +kernel
theorem Zgj {w:World} {b:Nat} {cs:Array Value} {ty:TypeId} {rs:List (Value×Rw)} {ts:List Rw} {n:Nat} (h:w.heap[b]? = some (.cells cs ty (0,0))) (e:cs.toList=Zt rs) (hn:ts.length=n) (hl:n<=maxLen) (hm:rs.map (·.2)=ts) (hr:∀ x∈rs,Zb w x.1 x.2.2.1):ZD w (.slice (some ⟨b,0,none⟩) n n) ts:=by
 subst hn
 have el:rs.length=ts.length:=by rw [<- hm,List.length_map]
 refine ⟨some ⟨b,0,none⟩,ts.length,rs,rfl,Nat.le_refl _,hl,hm,⟨by rw [ZdG,el],fun _=>⟨_,rfl,(Array.getElem?_eq_some_iff.1 h).1,fun j u hu=>?_⟩⟩,hr⟩
 rw [Addr.add_lit,Nat.zero_add,cell_of_row w b j cs ty (0,0) h]
 rw [<- e] at hu
 simpa using hu
theorem Zjt {w:World} {v:Value} {l:List Rw} {res:List (Int×Int)} {z:Int} {n:Nat} (h:ZD w v l) (hw:∀ r∈l,ZX r) (e:ZbV l=(res,z)) (hn:res.length=n) :
  Calls Tryz.prog 9 #[v] w fun r w'=>∃ A c,r=.returned (.tuple #[.slice A n c,.int .i64 z])/\Zb w' (.slice A n c) res/\ZF res/\Below w.heap.size w w':=by
 have:=ZfY w v l h hw
 rw [e] at this
 subst hn
 exact this
structure AwS (w wr:World) (b:Nat):Prop where
 r3:Blk wr (b+1+1+1) #[.int .i64 2,.slice (some ⟨b+1+1,0,none⟩) 1 1,.int .i64 0,.int .i64 1]
 r5:Blk wr (b+1+1+1+1+1) #[.int .i64 1,.slice (some ⟨b+1+1+1+1,0,none⟩) 1 1,.int .i64 1,.int .i64 1]
 r7:Blk wr (b+1+1+1+1+1+1+1) #[.int .i64 1,.slice (some ⟨b+1+1+1+1+1+1,0,none⟩) 1 1,.int .i64 0,.int .i64 1]
 l2:Zb wr (.slice (some ⟨b+1+1,0,none⟩) 1 1) [(1,1)]
 l4:Zb wr (.slice (some ⟨b+1+1+1+1,0,none⟩) 1 1) [(-1,1)]
 l6:Zb wr (.slice (some ⟨b+1+1+1+1+1+1,0,none⟩) 1 1) [(-1,1)]
 below:Below w.heap.size w wr
theorem AwS.keep {w wr w2:World} {b:Nat} (h:AwS w wr b) (hb:Below wr.heap.size wr w2):AwS w w2 b:=
 ⟨h.r3.keep hb,h.r5.keep hb,h.r7.keep hb,h.l2.below hb,h.l4.below hb,h.l6.below hb,h.below.trans (hb.mono h.below.size)⟩
theorem AwS.one {w wr:World} {b:Nat} (h:AwS w wr b):ZD (wr.alloc (.cells #[.int .i64 2,.slice (some ⟨b+1+1,0,none⟩) 1 1,.int .i64 0,.int .i64 1,.int .i64 1,.slice (some ⟨b+1+1+1+1,0,none⟩) 1 1,.int .i64 1,.int .i64 1] 29)) (.slice (some ⟨wr.heap.size,0,none⟩) 2 2) [Zg0,ZiI]:=by
 have a:=Za wr (.cells #[.int .i64 2,.slice (some ⟨b+1+1,0,none⟩) 1 1,.int .i64 0,.int .i64 1,.int .i64 1,.slice (some ⟨b+1+1+1+1,0,none⟩) 1 1,.int .i64 1,.int .i64 1] 29)
 refine Zgj (rs:=[(.slice (some ⟨b+1+1,0,none⟩) 1 1,Zg0),(.slice (some ⟨b+1+1+1+1,0,none⟩) 1 1,ZiI)]) (heap_alloc_new wr _) rfl rfl (by decide) rfl (fun x hx=>?_)
 simp only [List.mem_cons,List.not_mem_nil,or_false] at hx
 rcases hx with rfl | rfl
 ·exact h.l2.below a
 ·exact h.l4.below a
theorem AwS.two {w wr:World} {b:Nat} (h:AwS w wr b):ZD (wr.alloc (.cells #[.int .i64 2,.slice (some ⟨b+1+1,0,none⟩) 1 1,.int .i64 0,.int .i64 1,.int .i64 1,.slice (some ⟨b+1+1+1+1+1+1,0,none⟩) 1 1,.int .i64 0,.int .i64 1] 29)) (.slice (some ⟨wr.heap.size,0,none⟩) 2 2) [Zg0,Znf]:=by
 have a:=Za wr (.cells #[.int .i64 2,.slice (some ⟨b+1+1,0,none⟩) 1 1,.int .i64 0,.int .i64 1,.int .i64 1,.slice (some ⟨b+1+1+1+1+1+1,0,none⟩) 1 1,.int .i64 0,.int .i64 1] 29)
 refine Zgj (rs:=[(.slice (some ⟨b+1+1,0,none⟩) 1 1,Zg0),(.slice (some ⟨b+1+1+1+1+1+1,0,none⟩) 1 1,Znf)]) (heap_alloc_new wr _) rfl rfl (by decide) rfl (fun x hx=>?_)
 simp only [List.mem_cons,List.not_mem_nil,or_false] at hx
 rcases hx with rfl | rfl
 ·exact h.l2.below a
 ·exact h.l6.below a
theorem Zpa (w:World):∃ W,W=(((((((w.alloc (.cells #[.int .i64 1,.int .i64 1] 25)).alloc (.cells #[.int .i64 (-1),.int .i64 1] 25)).alloc (.cells #[.int .i64 1,.int .i64 1] 25)).alloc (.cells #[.int .i64 2,.slice (some ⟨w.heap.size+1+1,0,none⟩) 1 1,.int .i64 0,.int .i64 1] 29)).alloc (.cells #[.int .i64 (-1),.int .i64 1] 25)).alloc (.cells #[.int .i64 1,.slice (some ⟨w.heap.size+1+1+1+1,0,none⟩) 1 1,.int .i64 1,.int .i64 1] 29)).alloc (.cells #[.int .i64 (-1),.int .i64 1] 25)).alloc (.cells #[.int .i64 1,.slice (some ⟨w.heap.size+1+1+1+1+1+1,0,none⟩) 1 1,.int .i64 0,.int .i64 1] 29)/\AwS w W w.heap.size:=by
 refine ⟨_,rfl,?_,?_,?_,?_,?_,?_,?_⟩
 ·exact ⟨_,Zb9 (Zb9 (Zb9 (Zb9 (ZeL (by simp)))))⟩
 ·exact ⟨_,Zb9 (Zb9 (ZeL (by simp)))⟩
 ·exact ⟨_,ZeL (by simp)⟩
 ·exact Zgg (l:=[(1,1)]) (Zb9 (Zb9 (Zb9 (Zb9 (Zb9 (ZeL (by simp))))))) rfl (by decide)
 ·exact Zgg (l:=[(-1,1)]) (Zb9 (Zb9 (Zb9 (ZeL (by simp))))) rfl (by decide)
 ·exact Zgg (l:=[(-1,1)]) (Zb9 (ZeL (by simp))) rfl (by decide)
 ·exact ((((((((Below.refl _ w).alloc (Nat.le_refl _) _).alloc (by simp) _).alloc (by simp;omega) _).alloc (by simp;omega) _).alloc (by simp;omega) _).alloc (by simp;omega) _).alloc (by simp;omega) _).alloc (by simp;omega) _
theorem Ziq {ts:List Rw} (h:ts.all (fun t=>t.2.1.all (fun x=>decide (Bd x))&&decide (Bd t.2.2)&&decide (-9223372036854775808<=t.1/\t.1<=9223372036854775807))=true):∀ t∈ts,ZX t:=by
 intro t ht
 have:=List.all_eq_true.1 h t ht
 rw [Bool.and_eq_true,Bool.and_eq_true] at this
 exact ⟨fun x hx=>of_decide_eq_true (List.all_eq_true.1 this.1.1 x hx),of_decide_eq_true this.1.2,of_decide_eq_true this.2⟩
theorem Zqm:ZF Zhy:=fun x hx=>by
 unfold Zhy at hx
 rw [List.mem_cons] at hx
 rcases hx with rfl | hx
 ·exact Zgb
 ·rw [List.eq_of_mem_replicate hx];exact Zah
theorem ZfV (w:World):Calls Tryz.prog 4 #[] w fun e w'=>e=.returned (.bool true)/\Below w.heap.size w w':=by
 obtain ⟨W8,hW,A8⟩:=Zpa w
 have HW:=Lib.hid hW
 have DD:=Lib.hid A8
 have S1:=Lib.hid (fun (w':World) (h:AwS w w' w.heap.size)=>Zjt h.one (Ziq (by decide)) Zrq (n:=8) rfl)
 have S2:=Lib.hid (fun (w':World) (h:AwS w w' w.heap.size)=>Zjt h.two (Ziq (by decide)) Zrr (n:=0) rfl)
 have HO:=Lib.hid (fun (w':World) (h:AwS w w' w.heap.size) (v:Value) (hv:Zb w' v Zhy)=>ZgV _ _ v [Zg0,ZiI] Zhy h.one (Ziq (by decide)) (hv.below (Za _ _)) Zqm.wide)
 clear A8 hW
 go_enter Tryz.func4,Tryz.ntmps4
 go_upto_region 5 with fail
 rw [<- HW.out]
 generalize hb:w.heap.size=b at *
 have l0:=DD.out.r3.cell 0;have l1:=DD.out.r3.cell 1;have l2:=DD.out.r3.cell 2;have l3:=DD.out.r3.cell 3
 have k0:=DD.out.r5.cell 0;have k1:=DD.out.r5.cell 1;have k2:=DD.out.r5.cell 2;have k3:=DD.out.r5.cell 3
 go_upto_region 6 with (go_at_call 9;(with_reducible refine (S1.out _ DD.out).mono ?_);rintro e1 w1 ⟨A,c,rfl,hr1,_,hb1⟩)
 have DD:=Lib.hid ((DD.out.keep (Za _ _)).keep hb1)
 clear l0 l1 l2 l3 k0 k1 k2 k3 hb1
 have l0:=DD.out.r3.cell 0;have l1:=DD.out.r3.cell 1;have l2:=DD.out.r3.cell 2;have l3:=DD.out.r3.cell 3
 have k0:=DD.out.r7.cell 0;have k1:=DD.out.r7.cell 1;have k2:=DD.out.r7.cell 2;have k3:=DD.out.r7.cell 3
 have HR:=Lib.hid hr1
 clear hr1
 go_upto_region 7 with (go_at_call 9;(with_reducible refine (S2.out _ DD.out).mono ?_);rintro e2 w2 ⟨A2,c2,rfl,_,_,hb2⟩)
 have DD:=Lib.hid ((DD.out.keep (Za _ _)).keep hb2)
 have hr:=(HR.out.below (Za _ _)).below hb2
 clear l0 l1 l2 l3 k0 k1 k2 k3 hb2
 have HR:=Lib.hid hr
 obtain ⟨A',c',e,_,_,h4⟩:=hr
 have e1:A'=A:=by injection e with a;exact a.symm
 subst e1
 clear e
 obtain ⟨ad,rfl,d0,d1⟩:=Za8 (k:=0) (x:=(1,2)) h4 (Below.refl _ _) rfl (by decide)
 rw [show ad.add (0*2)=ad by unfold Addr.add;simp] at d0 d1
 have l0:=DD.out.r3.cell 0;have l1:=DD.out.r3.cell 1;have l2:=DD.out.r3.cell 2;have l3:=DD.out.r3.cell 3
 have k0:=DD.out.r5.cell 0;have k1:=DD.out.r5.cell 1;have k2:=DD.out.r5.cell 2;have k3:=DD.out.r5.cell 3
 have HO:=Lib.hid (HO.out _ DD.out _ HR.out)
 rw [Zrs] at HO
 clear h4 HR S1 S2 HW
 go_wp2_with (go_at_call 10;(with_reducible refine HO.out.mono ?_);rintro e3 w3 ⟨rfl,hb3⟩)
 go_ret
 exact ⟨rfl,by rw [hb];exact (DD.out.keep (Za _ _)).keep hb3 |>.below |> fun q=>by rw [hb] at q;exact q⟩
end
end Go.Proofs.YtolookeddknmoaaGreat
