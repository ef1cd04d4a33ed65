import Derived.Test.YtenbomphkihmlaaGreatDoorQBR
set_option maxRecDepth 100000
set_option maxHeartbeats 8000000
namespace Go.Proofs.YtenbomphkihmlaaGreatDoor
section
open Go.RowKit
theorem ZjF (w0:World) (ns:List Nd) (dp:Nat) (S:Nd->Prop) (T:Nd->Txt) (hd:dp<4000) (hS:Za4 89 w0 ns (dp+1) S T):Za4 66 w0 ns dp (fun n=>(∃ a b,n.words=[a,b])/\ZM ns n.kids S)
  (fun n=>[100,111,32]++ZD n 0++[46]++ZD n 1++(if n.kids=[] then [59] else ZA dp (n.kids.map fun k=>T (Ze ns k)))):=by
 intro w bp t vn x h hN hx hok hl
 obtain ⟨⟨a,b,hn⟩,hok⟩:=hok
 have hq:=hx
 obtain ⟨⟨vw,vu,vk⟩,kd,ws,nums,ks,ps⟩:=x
 obtain ⟨hw,hu,hkk⟩:=hx
 dsimp only at hn hok hw hu hkk hl ⊢
 obtain ⟨Aw,cw,rfl,hwl,hwm,hW,hWl⟩:=hw
 obtain ⟨Au,cu,rfl,hul,hum,hU⟩:=hu
 obtain ⟨Ak,ck,rfl,hkl,hkm,hK⟩:=hkk
 have e0:ZD ⟨kd,ws,nums,ks,ps⟩ 0=a:=by unfold ZD;dsimp only;rw [hn];rfl
 have e1:ZD ⟨kd,ws,nums,ks,ps⟩ 1=b:=by unfold ZD;dsimp only;rw [hn];rfl
 rw [e0,e1] at hl ⊢
 clear e0 e1
 obtain ⟨Z,hZ⟩:∃ Z,Z=(if ks=[] then [59] else ZA dp (ks.map fun k=>T (Ze ns k))):=⟨_,rfl⟩
 rw [<- hZ] at hl ⊢
 simp only [List.length_append,List.length_cons,List.length_nil] at hl
 have N1:=Nw.start (w:=w) #[.int .i64 kd,.slice Aw ws.length cw,.slice Au nums.length cu,.slice Ak ks.length ck,.int .i64 ps] h
 generalize hw1:w.alloc (.cells #[.int .i64 kd,.slice Aw ws.length cw,.slice Au nums.length cu,.slice Ak ks.length ck,.int .i64 ps] 29)=w1 at *
 obtain ⟨aw,rfl,_⟩:=ZaH (k:=0) (x:=a) hW N1.p.below (by rw [hn];rfl) (by rw [hn];exact Nat.succ_pos _)
 have lw0:0<ws.length:=by rw [hn];exact Nat.succ_pos _
 have lw1:1<ws.length:=by rw [hn];simp only [List.length_cons];omega
 have SW:=Lib.hid (And.intro hW hn)
 have H1:=Lib.hid N1
 have HN:=Lib.hid (And.intro hN (And.intro hq (And.intro hK (And.intro hkm hkl))))
 have HL:=Lib.hid hl
 have HO:=Lib.hid (And.intro hok (And.intro hS hd))
 have HZ:=Lib.hid hZ
 clear N1 hq hwl hwm hW hWl hul hum hU hkl hkm hK h hN hl hok hS hd hn hZ
 have D1:=Lib.hid H1.out.drew
 obtain ⟨c0,c1,c2,c3,c4⟩:=Zg (x:=((.slice (some aw) ws.length cw,.slice Au nums.length cu,.slice Ak ks.length ck),⟨kd,ws,nums,ks,ps⟩)) H1.out.k
 dsimp only at c0 c1 c2 c3 c4
 have cw0:=Zs (k:=0) (x:=a) SW.out.1 H1.out.p.below (by rw [SW.out.2];rfl) lw0
 have cv0:w1.cell? aw=some (txt a):=cw0
 have cw1:=Zs (k:=1) (x:=b) SW.out.1 H1.out.p.below (by rw [SW.out.2];rfl) lw1
 have cv1:w1.cell? ⟨aw.block,aw.off+1,none⟩=some (txt b):=cw1
 obtain ⟨d0,d1,d2,d3,d4⟩:=Zg (x:=((.slice (some aw) ws.length cw,.slice Au nums.length cu,.slice Ak ks.length ck),⟨kd,ws,nums,ks,ps⟩)) D1.out.k
 dsimp only at d0 d1 d2 d3 d4
 have dw0:=Zs (k:=0) (x:=a) SW.out.1 D1.out.p.below (by rw [SW.out.2];rfl) lw0
 have dv0:w1.drew.cell? aw=some (txt a):=dw0
 have dw1:=Zs (k:=1) (x:=b) SW.out.1 D1.out.p.below (by rw [SW.out.2];rfl) lw1
 have dv1:w1.drew.cell? ⟨aw.block,aw.off+1,none⟩=some (txt b):=dw1
 have AD:=Lib.hid (ZdJ w0 w1.drew bp dp t vn [100,111,32] a [46] b D1.out.p (by have:=HL.out;simp only [List.length_cons,List.length_nil];omega))
 go_enter Tryz.func66,Tryz.ntmps66
 go_upto_region 1 with fail
 go_region_with (go_at_call 26;(refine AD.out.mono ?_);rintro e w2 ⟨rfl,hp,hf⟩;have H2:=Lib.hid (D1.out.next hp hf);clear hp hf)
 all_goals
  clear c0 c1 c2 c3 c4 cw0 cw1 cv0 cv1 d0 d1 d2 d3 d4 dw0 dw1 dv0 dv1
  obtain ⟨c0,c1,c2,c3,c4⟩:=Zg (x:=((.slice (some aw) ws.length cw,.slice Au nums.length cu,.slice Ak ks.length ck),⟨kd,ws,nums,ks,ps⟩)) H2.out.k
  dsimp only at c0 c1 c2 c3 c4
  have cw0:=Zs (k:=0) (x:=a) SW.out.1 H2.out.p.below (by rw [SW.out.2];rfl) lw0
  have cv0:w2.cell? aw=some (txt a):=cw0
  have cw1:=Zs (k:=1) (x:=b) SW.out.1 H2.out.p.below (by rw [SW.out.2];rfl) lw1
  have cv1:w2.cell? ⟨aw.block,aw.off+1,none⟩=some (txt b):=cw1
  by_cases hz:ks=[]
  ·have ez:=HZ.out
   rw [if_pos hz] at ez
   have hz2:((ks.length:Int)==0)=true:=by rw [hz];rfl
   have HE:=Lib.hid ez
   clear ez hz
   have AE:=Lib.hid (ZH w0 w2 bp dp _ vn [59] H2.out.p (by have:=HL.out;rw [HE.out] at this;simp only [List.length_append,List.length_cons,List.length_nil] at this ⊢;omega))
   go_wp2_with (go_at_call 26;(refine AE.out.mono ?_);rintro e w3 ⟨rfl,hp,hf⟩;have H3:=Lib.hid (H2.out.next hp hf);clear hp hf)
   refine bodyPost_ret (v:=.tuple #[]) (results_none (by kernel_rfl) _ _ _) rfl ⟨rfl,?_,H3.out.f⟩
   have:=H3.out.p
   rw [<- HE.out] at this
   simp only [List.append_assoc] at this ⊢
   exact this
  ·have ez:=HZ.out
   rw [if_neg hz] at ez
   have hz2:((ks.length:Int)==0)=false:=by
    rw [beq_eq_false_iff_ne]
    cases ks with
    | nil=>exact absurd rfl hz
    | cons p q=>simp only [List.length_cons];omega
   have HE:=Lib.hid ez
   clear ez hz
   have BR:=Lib.hid (ZcT _ Zeu w0 w2 bp dp _ vn ns Ak ck ks S T H2.out.p HN.out.1 HO.out.2.2 HN.out.2.2.1 (by have:=HN.out.2.2.2;omega) HO.out.1 HO.out.2.1 (by have:=HL.out;rw [HE.out] at this;simp only [List.length_append,List.length_cons,List.length_nil];omega))
   go_wp2_with (go_at_call 27;(refine BR.out.mono ?_);rintro e w3 ⟨rfl,hp,hf⟩;have H3:=Lib.hid (H2.out.next hp hf);clear hp hf)
   go_end0
   refine ⟨rfl,?_,H3.out.f⟩
   have:=H3.out.p
   rw [<- HE.out] at this
   simp only [List.append_assoc] at this ⊢
   exact this
end
end Go.Proofs.YtenbomphkihmlaaGreatDoor
