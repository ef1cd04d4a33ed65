import Derived.Test.YtenbomphkihmlaaGreatDoorQBO
set_option maxRecDepth 100000
set_option maxHeartbeats 8000000
namespace Go.Proofs.YtenbomphkihmlaaGreatDoor
section
open Go.RowKit
theorem Zbg {f:FuncId} {fn:Func} {c:Code} (hf:Tryz.prog.funcs[f]? = some fn) (hname:(fn.name=="runtime.NumGoroutine")=false) (hb:fn.body=some c):Zbb f:=fun args w=>by
 have h1:fn.name≠"runtime.NumGoroutine":=by simpa using hname
 simp [callFunc,hf,h1,hb,go_sem]
theorem Zal {w0 w:World} {bp dp b:Nat} {t:Txt} {vn:Value} {cs:Array Value} {ty:TypeId} (h:PrS w0 w bp t dp vn) (k:Zm w b ty cs) (hty:ty≠39):b≠bp:=by
 obtain ⟨v,h1,_⟩:=h.box
 intro e
 subst e
 exact absurd (Zdw k h1) hty
theorem ZZ {w:World} {b:Nat} {ty:TypeId} {v:Value} (h:Zm w b ty #[v]):w.cell? ⟨b,0,none⟩=some v:=by
 have c:=h.blk.cell 0
 simpa using c
abbrev ZW (b:Nat):Value:=.pointer (some ⟨b,0,none⟩)
theorem ZhO (F:Nat) (hF:Zbb F) (w0 w:World) (bp dp b1 b2 b3:Nat) (t:Txt) (vn:Value) (ns:List Nd) (A:Option Addr) (c:Nat) (ks:List Int) (Ok:Nd->Prop) (T:Nd->Txt) (k:Nat) (y:Int) (h:PrS w0 w bp t dp vn) (hN:Zf w0 vn ns)
  (hB1:Zm w b1 41 #[.func (.func F) #[ZW bp] #[]]) (hB2:Zm w b2 34 #[ZW bp]) (hB3:Zm w b3 25 #[.slice A ks.length c])
  (hK:ZB w0 w0.heap.size 1 A ks.length (ks.map (Value.int .i64))) (hok:ZM ns ks Ok) (hE:Za4 F w0 ns dp Ok T) (hy:ks[k]? = some y) (hl:t.length+(T (Ze ns y)).length+10000<=140737488355328) :
  Calls Tryz.prog 44 #[.int .i64 (k:Int),ZW b1,ZW b2,ZW b3] w fun e w'=>e=.returned (.tuple #[])/\PrS w0 w' bp (t++T (Ze ns y)) dp vn/\Fr w w' bp:=by
 obtain ⟨An,cn,rs,rfl,_,hcn,hm,hR,hNd⟩:=id hN
 have hkl:=(List.getElem?_eq_some_iff.1 hy).1
 obtain ⟨hy0,hyn,hyo⟩:=hok y (List.mem_of_getElem? hy)
 obtain ⟨n,rfl⟩:=Int.eq_ofNat_of_zero_le hy0
 have hnl:n<ns.length:=by omega
 obtain ⟨r,hr⟩:∃ r,rs[n]? = some r:=⟨_,List.getElem?_eq_getElem (by rw [<- hm,List.length_map] at hnl;exact hnl)⟩
 have hrn:ns[n]? = some r.2:=by rw [<- hm,List.getElem?_map,hr];rfl
 rw [Zat hrn] at hyo hl ⊢
 obtain ⟨ak,rfl,q0⟩:=Zp hK h.below hy (by omega)
 obtain ⟨an,rfl,n0,n1,n2,n3,n4⟩:=ZK hR h.below hr (by omega)
 have j1:(k:Int)<(ks.length:Int):=by omega
 have j0:(0:Int)<=(k:Int):=by omega
 have i0:(0:Int)<=(n:Int):=by omega
 have i1:(n:Int)<(ns.length:Int):=by omega
 have e1:=ZZ hB1
 have e2:=ZZ hB2
 have e3:=ZZ hB3
 have c2:=h.cells.2.2
 have hb:=Zh w
 have EC:=Lib.hid (hE w.drew bp t _ r (h.keep hb) hN (hNd r (List.mem_of_getElem? hr)) hyo hl)
 have HB:=Lib.hid (Fr.of_below bp hb)
 have hr2:=hNd r (List.mem_of_getElem? hr)
 clear h hN hB1 hB2 hB3 hK hok hE hy hl hm hR hNd hkl hy0 hyn hyo hnl hr hrn hb
 obtain ⟨⟨yw,yu,yk⟩,kd2,ws2,nums2,ks2,ps2⟩:=r
 obtain ⟨h61,h62,h63⟩:=hr2
 dsimp only at h61 h62 h63
 obtain ⟨Bw,dw,rfl,_⟩:=h61
 obtain ⟨Bu,du,rfl,_⟩:=h62
 obtain ⟨Bk,dk,rfl,_⟩:=h63
 unfold ndX at EC
 dsimp only at n0 n1 n2 n3 n4 EC
 have door:=hF
 unfold Zbb at door
 clear hF
 go_enter Tryz.func44,Tryz.ntmps44
 go_upto_region 0 with fail
 refine wp_region_still_tail 11 (by kernel_rfl) (by kernel_rfl) ?_
 simp only [List.take_succ_cons,List.take_zero,List.drop_succ_cons,List.drop_zero]
 iterate 11 still_step
 refine wpStill_nil ?_
 change wpList _ _ _ _ _ w.drew
 go_wp2_with (with_reducible refine EC.out.mono ?_;rintro e w2 ⟨rfl,hp,hf⟩;have H2:=Lib.hid (And.intro hp hf);clear hp hf)
 go_end0
 exact ⟨rfl,H2.out.1,HB.out.trans H2.out.2⟩
theorem Zcu (F:Nat) (hF:Zbb F) (w0 w:World) (bp dp:Nat) (t:Txt) (vn:Value) (ns:List Nd) (A:Option Addr) (c:Nat) (ks:List Int) (Ok:Nd->Prop) (T:Nd->Txt) (h:PrS w0 w bp t dp vn) (hN:Zf w0 vn ns)
  (hK:ZB w0 w0.heap.size 1 A ks.length (ks.map (Value.int .i64))) (hkl:ks.length<=maxLen) (hok:ZM ns ks Ok) (hE:Za4 F w0 ns dp Ok T) (hl:t.length+(ZS [44,32] (ks.map fun k=>T (Ze ns k))).length+10002<=140737488355328) :
  Calls Tryz.prog 29 #[ZW bp,.slice A ks.length c,.func (.func F) #[ZW bp] #[]] w fun e w'=>e=.returned (.tuple #[])/\PrS w0 w' bp (t++([40]++ZS [44,32] (ks.map fun k=>T (Ze ns k))++[41])) dp vn/\Fr w w' bp:=by
 have a1:=Zb w (.cells #[ZW bp] 34)
 have B2:Zm _ _ _ _:=Zm.start w #[ZW bp] 34
 generalize hw1:w.alloc (.cells #[ZW bp] 34)=w1 at *
 have z1:w1.heap.size=w.heap.size+1:=by rw [<- hw1,World.size_alloc]
 have a2:=Zb w1 (.cells #[.slice A ks.length c] 25)
 have B3:Zm _ _ _ _:=Zm.start w1 #[.slice A ks.length c] 25
 generalize hw2:w1.alloc (.cells #[.slice A ks.length c] 25)=w2 at *
 have z2:w2.heap.size=w.heap.size+2:=by rw [<- hw2,World.size_alloc,z1]
 have a3:=Zb w2 (.cells #[.func (.func F) #[ZW bp] #[]] 41)
 have B1:Zm _ _ _ _:=Zm.start w2 #[.func (.func F) #[ZW bp] #[]] 41
 generalize hw3:w2.alloc (.cells #[.func (.func F) #[ZW bp] #[]] 41)=w3 at *
 have B2':=(B2.keep a2).keep a3
 have B3':=B3.keep a3
 have p3:=((h.keep a1).keep a2).keep a3
 have F3:=((Fr.of_below bp a1).trans (Fr.of_below bp a2)).trans (Fr.of_below bp a3)
 have c1:=ZZ B1
 have c2:=ZZ B2'
 have c3:=ZZ B3'
 have AD:=Lib.hid (ZH w0 w3 bp dp t vn [40] p3 (by simp only [List.length_cons,List.length_nil];omega))
 have HX:=Lib.hid (And.intro p3 (And.intro B1 (And.intro B2' (And.intro B3' (And.intro F3 hl)))))
 have HY:=Lib.hid (And.intro hN (And.intro hK (And.intro hkl (And.intro hok hE))))
 have HF:=Lib.hid hF
 have HZ:=Lib.hid (And.intro z1 z2)
 clear a1 a2 a3 B1 B2 B3 B2' B3' p3 F3 h hN hK hkl hok hE hl hF z1 z2
 go_enter Tryz.func29,Tryz.ntmps29
 go_upto_region 2 with (go_at_call 26;(refine AD.out.mono ?_);rintro e w4 ⟨rfl,hp,hf⟩;have H4:=Lib.hid (And.intro hp hf);clear hp hf)
 have T1:=H4.out.2.at_ _ _ _ (Zal HX.out.1 HX.out.2.1 (by decide)) (by decide) HX.out.2.1
 have T2:=H4.out.2.at_ _ _ _ (Zal HX.out.1 HX.out.2.2.1 (by decide)) (by decide) HX.out.2.2.1
 have T3:=H4.out.2.at_ _ _ _ (Zal HX.out.1 HX.out.2.2.2.1 (by decide)) (by decide) HX.out.2.2.2.1
 have d1:=ZZ T1
 have d2:=ZZ T2
 have d3:=ZZ T3
 have e1:=ZZ (T1.keep (Zh w4))
 have e2:=ZZ (T2.keep (Zh w4))
 have e3:=ZZ (T3.keep (Zh w4))
 have SP:=Lib.hid (Zce 44 #[ZW w2.heap.size,ZW w.heap.size,ZW w1.heap.size] (Zbg Tryz.func44 (by kernel_rfl) rfl) w0 w4.drew bp dp _ [44,32] vn (ks.map fun k=>T (Ze ns k)) (H4.out.1.keep (Zh w4)) (fun k x w' t' hx hp hf hl'=>by
  rw [List.getElem?_map] at hx
  cases hy:ks[k]? with
  | none=>rw [hy] at hx;cases hx
  | some y=>
   rw [hy] at hx
   obtain rfl:=Option.some.inj hx
   exact ZhO F HF.out w0 w' bp dp _ _ _ t' vn ns A c ks Ok T k y hp HY.out.1
    (hf.at_ _ _ _ (Zal HX.out.1 HX.out.2.1 (by decide)) (by decide) (T1.keep (Zh w4)))
    (hf.at_ _ _ _ (Zal HX.out.1 HX.out.2.2.1 (by decide)) (by decide) (T2.keep (Zh w4)))
    (hf.at_ _ _ _ (Zal HX.out.1 HX.out.2.2.2.1 (by decide)) (by decide) (T3.keep (Zh w4)))
    HY.out.2.1 HY.out.2.2.2.1 HY.out.2.2.2.2 hy hl') (by rw [List.length_map];exact HY.out.2.2.1) (by have:=HX.out.2.2.2.2.2;simp only [List.length_append,List.length_cons,List.length_nil];omega))
 rw [List.length_map] at SP
 clear T1 T2 T3
 go_region_with (go_at_call 42;(refine SP.out.mono ?_);rintro e w5 ⟨rfl,hp,hf⟩;have H5:=Lib.hid (And.intro hp hf);clear hp hf)
 all_goals
  have AE:=Lib.hid (ZH w0 w5 bp dp _ vn [41] H5.out.1 (by have:=HX.out.2.2.2.2.2;simp only [List.length_append,List.length_cons,List.length_nil];omega))
  have T2:=H4.out.2.at_ _ _ _ (Zal HX.out.1 HX.out.2.2.1 (by decide)) (by decide) HX.out.2.2.1
  have g2:=ZZ (H5.out.2.at_ _ _ _ (Zal HX.out.1 HX.out.2.2.1 (by decide)) (by decide) (T2.keep (Zh w4)))
  go_wp2_with (go_at_call 26;(refine AE.out.mono ?_);rintro e w6 ⟨rfl,hp,hf⟩;have H6:=Lib.hid (And.intro hp hf);clear hp hf)
  go_end0
  refine ⟨rfl,?_,(((HX.out.2.2.2.2.1.trans H4.out.2).trans (Fr.of_below bp (Zh w4))).trans H5.out.2).trans H6.out.2⟩
  have:=H6.out.1
  simp only [List.append_assoc] at this ⊢
  exact this
end
end Go.Proofs.YtenbomphkihmlaaGreatDoor
