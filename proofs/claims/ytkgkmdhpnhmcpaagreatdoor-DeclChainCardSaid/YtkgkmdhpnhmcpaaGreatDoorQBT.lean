import Derived.Test.YtkgkmdhpnhmcpaaGreatDoorQBI
import Derived.Test.YtkgkmdhpnhmcpaaGreatDoorQBJ
import Derived.Test.YtkgkmdhpnhmcpaaGreatDoorQBK
import Derived.Test.YtkgkmdhpnhmcpaaGreatDoorQBL
import Derived.Test.YtkgkmdhpnhmcpaaGreatDoorQBM
import Derived.Test.YtkgkmdhpnhmcpaaGreatDoorQBN
import Derived.Test.YtkgkmdhpnhmcpaaGreatDoorQBO
import Derived.Test.YtkgkmdhpnhmcpaaGreatDoorQBP
import Derived.Test.YtkgkmdhpnhmcpaaGreatDoorQBS
set_option maxRecDepth 100000
set_option maxHeartbeats 8000000
namespace Go.Proofs.YtkgkmdhpnhmcpaaGreatDoor
section
open Go.RowKit
theorem ZeL (w:World) (v:Value) (ns:List Nd) (va vb vc:Value) (ws:List (List UInt8)) (nums ks:List Int) (ps:Int) (hN:Zn w v ns) (hx:ZJ w ((va,vb,vc),⟨7,ws,nums,ks,ps⟩)) (hk:ZA ks ns.length) :
  Calls Tryz.prog 72 #[v,ndV ((va,vb,vc),⟨7,ws,nums,ks,ps⟩)] w fun e w'=>e=.returned (.bool (Zm ns ⟨7,ws,nums,ks,ps⟩))/\Below w.heap.size w w':=by
 rw [show Zm ns ⟨7,ws,nums,ks,ps⟩=(Zj ⟨7,ws,nums,ks,ps⟩ 0 0&&Zax ns ks ZbU) from rfl]
 obtain ⟨h1,h2,h3⟩:=id hx
 dsimp only at h1 h2 h3
 have AR:=zh (fun (wr:World) (hb:Below w.heap.size w wr) (vf:Value) (ts:List Tst) (hF:ZU wr vf ts)=>ZC wr v vc vf ns ks ts (hN.below hb) (h3.below hb) hF hk)
 have ALL:=zh (fun (wr:World) (hb:Below w.heap.size w wr) (u:Value) (t:Tst) (hu:Zp wr t u)=>ZB wr v vc u ns ks t (hN.below hb) (h3.below hb) hu hk)
 have HS0:=zh (fun (wr:World) (hb:Below w.heap.size w wr) (a b:Nat)=>ZG wr _ a b (hx.below hb))
 obtain ⟨A1,c1,rfl,_⟩:=h1
 obtain ⟨A2,c2,rfl,_,_,R2'⟩:=h2
 have R2:=zh R2'
 clear R2'
 obtain ⟨A3,c3,rfl,_⟩:=h3
 unfold ndV at HS0 ⊢
 dsimp only at HS0 ⊢
 clear hx hN hk
 have STB:=zh (show Stb (fun w'=>(w'.cell? ⟨w.heap.size,0,none⟩=some (.int .i64 7)/\w'.cell? ⟨w.heap.size,1,none⟩=some (.slice A1 ws.length c1)/\w'.cell? ⟨w.heap.size,2,none⟩=some (.slice A2 nums.length c2)/\w'.cell? ⟨w.heap.size,3,none⟩=some (.slice A3 ks.length c3)/\w'.cell? ⟨w.heap.size,4,none⟩=some (.int .i64 ps))/\Below w.heap.size w w') from Zc (Zc (Zb _ _) (Zc (Zb _ _) (Zc (Zb _ _) (Zc (Zb _ _) (Zb _ _))))) (Zq w))
 go_enter Tryz.func72,Tryz.ntmps72
 go_upto_region 1 with fail
 have HS1:((w.alloc (.cells #[.int .i64 7,.slice A1 ws.length c1,.slice A2 nums.length c2,.slice A3 ks.length c3,.int .i64 ps] 27)).cell? ⟨w.heap.size,0,none⟩=some (.int .i64 7)/\(w.alloc (.cells #[.int .i64 7,.slice A1 ws.length c1,.slice A2 nums.length c2,.slice A3 ks.length c3,.int .i64 ps] 27)).cell? ⟨w.heap.size,1,none⟩=some (.slice A1 ws.length c1)/\(w.alloc (.cells #[.int .i64 7,.slice A1 ws.length c1,.slice A2 nums.length c2,.slice A3 ks.length c3,.int .i64 ps] 27)).cell? ⟨w.heap.size,2,none⟩=some (.slice A2 nums.length c2)/\(w.alloc (.cells #[.int .i64 7,.slice A1 ws.length c1,.slice A2 nums.length c2,.slice A3 ks.length c3,.int .i64 ps] 27)).cell? ⟨w.heap.size,3,none⟩=some (.slice A3 ks.length c3)/\(w.alloc (.cells #[.int .i64 7,.slice A1 ws.length c1,.slice A2 nums.length c2,.slice A3 ks.length c3,.int .i64 ps] 27)).cell? ⟨w.heap.size,4,none⟩=some (.int .i64 ps))/\Below w.heap.size w (w.alloc (.cells #[.int .i64 7,.slice A1 ws.length c1,.slice A2 nums.length c2,.slice A3 ks.length c3,.int .i64 ps] 27)):=⟨⟨(Blk.start w _ _).cell 0,(Blk.start w _ _).cell 1,(Blk.start w _ _).cell 2,(Blk.start w _ _).cell 3,(Blk.start w _ _).cell 4⟩,below_alloc1 w _⟩
 generalize (w.alloc (.cells #[.int .i64 7,.slice A1 ws.length c1,.slice A2 nums.length c2,.slice A3 ks.length c3,.int .i64 ps] 27))=w1 at *
 have HS:(w1.drew.cell? ⟨w.heap.size,0,none⟩=some (.int .i64 7)/\w1.drew.cell? ⟨w.heap.size,1,none⟩=some (.slice A1 ws.length c1)/\w1.drew.cell? ⟨w.heap.size,2,none⟩=some (.slice A2 nums.length c2)/\w1.drew.cell? ⟨w.heap.size,3,none⟩=some (.slice A3 ks.length c3)/\w1.drew.cell? ⟨w.heap.size,4,none⟩=some (.int .i64 ps))/\Below w.heap.size w w1.drew:=⟨HS1.1,HS1.2.drew⟩
 clear HS1
 refine wp_region_noPanic ?_
 refine wp_region_held_drew (S:=(fun w'=>(w'.cell? ⟨w.heap.size,0,none⟩=some (.int .i64 7)/\w'.cell? ⟨w.heap.size,1,none⟩=some (.slice A1 ws.length c1)/\w'.cell? ⟨w.heap.size,2,none⟩=some (.slice A2 nums.length c2)/\w'.cell? ⟨w.heap.size,3,none⟩=some (.slice A3 ks.length c3)/\w'.cell? ⟨w.heap.size,4,none⟩=some (.int .i64 ps))/\Below w.heap.size w w')) (by kernel_rfl) HS (fun hHeld=>?_)
 clear HS
 refine tk 0 rfl ?_
 refine tk 1 rfl ?_
 refine tk 2 rfl ?_
 (try simp only [cl,Act.put])
 refine rd 3 rfl fun K hK=>?_
 go_simp
 refine hK.out _ _ ?_ (fun hH2=>?_)
 ·exact STB.out _ _ (below_alloc1 _ _) (by with_reducible assumption)
 clear hK K hHeld;have hHeld:=hH2;clear hH2
 (try simp only [cl,Act.put])
 refine rd 4 rfl fun K hK=>?_
 go_simp
 (go_at_call 94;(with_reducible refine (Zf _ _ _).mono ?_);rintro e5 w5 ⟨⟨u,rfl,hT⟩,hb⟩;obtain ⟨bu,Au,cu,rfl,_,_⟩:=id hT)
 go_wp2_with fail
 refine hK.out _ _ (STB.out _ _ hb (by with_reducible assumption)) (fun hH2=>?_)
 clear hK K hHeld hb;have hHeld:=hH2;clear hH2
 (try simp only [cl,Act.put])
 refine tk 5 rfl ?_
 refine tk 6 rfl ?_
 (try simp only [cl,Act.put])
 refine wpAnyH_done (by kernel_rfl) ?_ _
 refine NoPanic.normal ?_
 have T3:=zh hT
 have H3:=zh (Za hHeld)
 have HH:=zh hHeld
 clear hT
 obtain ⟨⟨g0,g1,g2,g3,g4⟩,_⟩:=hHeld
 have HA1:=zh (show ∀ wr:World,Below w.heap.size w wr->Calls Tryz.prog 95 #[.agg #[.int .i64 7,.slice A1 ws.length c1,.slice A2 nums.length c2,.slice A3 ks.length c3,.int .i64 ps],.int .i64 0,.int .i64 0] wr fun e w'=>e=.returned (.bool (Zj ⟨7,ws,nums,ks,ps⟩ 0 0))/\Below wr.heap.size wr w' from fun wr hb=>HS0.out wr hb 0 0)
 generalize hq:Zj ⟨7,ws,nums,ks,ps⟩ 0 0=H at HA1
 have HQ:=zh hq
 clear hq
 cases H
 ·go_wp2_with (go_at_call 95;(with_reducible refine (HA1.out _ H3.out).mono ?_);rintro e6 w6 ⟨rfl,hb6⟩;have K6:=zh (STB.out _ _ hb6 HH.out);have B6:=zh (Za K6.out);clear hb6)
  go_ret
  exact ⟨by rw [HQ.out];rfl,B6.out⟩
 ·go_wp2_with (first
   | (go_at_call 95;(with_reducible refine (HA1.out _ H3.out).mono ?_);rintro e6 w6 ⟨rfl,hb6⟩;have K6:=zh (STB.out _ _ hb6 HH.out);have T6:=zh (T3.out.below hb6);have B6:=zh (Za K6.out);obtain ⟨⟨k60,k61,k62,k63,k64⟩,_⟩:=id K6.out;have A6:=zh (ALL.out w6 B6.out (.func (.func 99) #[] #[]) .stmt rfl);clear hb6)
   | (go_at_call 96;(with_reducible refine (A6.out).mono ?_);rintro e7 w7 ⟨rfl,hb7⟩;have B7:=zh (B6.out.trans (hb7.mono B6.out.size));clear hb7))
  go_ret
  exact ⟨by rw [HQ.out];rfl,B7.out⟩
end
section
open Go.RowKit
theorem Zgi (w:World) (v:Value) (ns:List Nd) (x:NdV×Nd) (hN:Zn w v ns) (hx:ZJ w x) (hk:ZA x.2.kids ns.length) :
  Calls Tryz.prog 72 #[v,ndV x] w fun e w'=>e=.returned (.bool (Zm ns x.2))/\Below w.heap.size w w':=by
 obtain ⟨⟨va,vb,vc⟩,kd,ws,nums,ks,ps⟩:=x
 by_cases q0:kd=0
 ·subst q0
  exact ZdK w v ns va vb vc ws nums ks ps hN hx hk
 by_cases q1:kd=1
 ·subst q1
  exact ZeP w v ns va vb vc ws nums ks ps hN hx hk
 by_cases q2:kd=2
 ·subst q2
  exact ZeR w v ns va vb vc ws nums ks ps hN hx hk
 by_cases q3:kd=3
 ·subst q3
  exact Zhb w v ns va vb vc ws nums ks ps hN hx hk
 by_cases q4:kd=4
 ·subst q4
  exact Zg9 w v ns va vb vc ws nums ks ps hN hx hk
 by_cases q5:kd=5
 ·subst q5
  exact ZeO w v ns va vb vc ws nums ks ps hN hx hk
 by_cases q6:kd=6
 ·subst q6
  exact ZeM w v ns va vb vc ws nums ks ps hN hx hk
 by_cases q7:kd=7
 ·subst q7
  exact ZeL w v ns va vb vc ws nums ks ps hN hx hk
 by_cases q8:kd=8
 ·subst q8
  exact Zgk w v ns va vb vc ws nums ks ps hN hx hk
 by_cases q9:kd=9
 ·subst q9
  exact Zgn w v ns va vb vc ws nums ks ps hN hx hk
 by_cases q10:kd=10
 ·subst q10
  exact Zfq w v ns va vb vc ws nums ks ps hN hx hk
 by_cases q11:kd=11
 ·subst q11
  exact Zg8 w v ns va vb vc ws nums ks ps hN hx hk
 by_cases q12:kd=12
 ·subst q12
  exact Zfo w v ns va vb vc ws nums ks ps hN hx hk
 by_cases q13:kd=13
 ·subst q13
  exact ZeQ w v ns va vb vc ws nums ks ps hN hx hk
 by_cases q14:kd=14
 ·subst q14
  exact Zfn w v ns va vb vc ws nums ks ps hN hx hk
 by_cases q15:kd=15
 ·subst q15
  exact Zea w v ns va vb vc ws nums ks ps hN hx hk
 by_cases q16:kd=16
 ·subst q16
  exact Zha w v ns va vb vc ws nums ks ps hN hx hk
 by_cases q17:kd=17
 ·subst q17
  exact ZeS w v ns va vb vc ws nums ks ps hN hx hk
 by_cases q18:kd=18
 ·subst q18
  exact Zeb w v ns va vb vc ws nums ks ps hN hx hk
 by_cases q19:kd=19
 ·subst q19
  exact Zfp w v ns va vb vc ws nums ks ps hN hx hk
 by_cases q20:kd=20
 ·subst q20
  exact Zgm w v ns va vb vc ws nums ks ps hN hx hk
 by_cases q21:kd=21
 ·subst q21
  exact Zgo w v ns va vb vc ws nums ks ps hN hx hk
 by_cases q22:kd=22
 ·subst q22
  exact Zgj w v ns va vb vc ws nums ks ps hN hx hk
 by_cases q23:kd=23
 ·subst q23
  exact Zgl w v ns va vb vc ws nums ks ps hN hx hk
 exact ZeN w v ns va vb vc kd ws nums ks ps hN hx hk (by simpa using q0) (by simpa using q1) (by simpa using q2) (by simpa using q3) (by simpa using q4) (by simpa using q5) (by simpa using q6) (by simpa using q7) (by simpa using q8) (by simpa using q9) (by simpa using q10) (by simpa using q11) (by simpa using q12) (by simpa using q13) (by simpa using q14) (by simpa using q15) (by simpa using q16) (by simpa using q17) (by simpa using q18) (by simpa using q19) (by simpa using q20) (by simpa using q21) (by simpa using q22) (by simpa using q23)
theorem Zhw:Zc9:=by
 intro w v ns x ht hN hx hk
 have nm:=ZdW
 have LI:=zh (fun (wr:World) (hb:Below w.heap.size w wr)=>Zgi wr v ns x (hN.below hb) (hx.below hb) hk)
 have NA:=zh (fun (wr:World) (hb:Below w.heap.size w wr)=>ZdW wr x.1.1 x.2.words (hx.1.below hb) (ht.below hb))
 have NU:=zh (fun (wr:World) (hb:Below w.heap.size w wr)=>Zft wr x.1.2.1 x.2.nums (hx.2.1.below hb))
 unfold Zbi
 obtain ⟨h1,h2,h3⟩:=id hx
 obtain ⟨⟨va,vb,vc⟩,kd,ws,nums,ks,ps⟩:=x
 dsimp only at h1 h2 h3 NA NU hk
 obtain ⟨A1,c1,rfl,_⟩:=h1
 obtain ⟨A2,c2,rfl,_⟩:=h2
 obtain ⟨A3,c3,rfl,_⟩:=h3
 unfold ndV at LI ⊢
 dsimp only at LI ⊢
 generalize Zb4 ws=X at *
 generalize ZaM nums=Y at *
 generalize Zm ns ⟨kd,ws,nums,ks,ps⟩=Z at *
 have HB:=zh (below_alloc1 w (.cells #[.int .i64 kd,.slice A1 ws.length c1,.slice A2 nums.length c2,.slice A3 ks.length c3,.int .i64 ps] 27))
 clear ht hN hx hk nm
 have g0:=(Blk.start w #[.int .i64 kd,.slice A1 ws.length c1,.slice A2 nums.length c2,.slice A3 ks.length c3,.int .i64 ps] 27).cell 0
 cases X
 ·go_enter Tryz.func40,Tryz.ntmps40
  go_wp2_with (go_at_call 70;(with_reducible refine (NA.out _ HB.out).mono ?_);rintro e6 w6 ⟨rfl,rfl⟩)
  go_ret
  exact ⟨rfl,HB.out⟩
 ·cases Y
  ·go_enter Tryz.func40,Tryz.ntmps40
   go_wp2_with (first
    | (go_at_call 70;(with_reducible refine (NA.out _ HB.out).mono ?_);rintro e6 w6 ⟨rfl,rfl⟩)
    | (go_at_call 71;(with_reducible refine (NU.out _ HB.out).mono ?_);rintro e7 w7 ⟨rfl,rfl⟩))
   go_ret
   exact ⟨rfl,HB.out⟩
  ·go_enter Tryz.func40,Tryz.ntmps40
   go_wp2_with (first
    | (go_at_call 70;(with_reducible refine (NA.out _ HB.out).mono ?_);rintro e6 w6 ⟨rfl,rfl⟩)
    | (go_at_call 71;(with_reducible refine (NU.out _ HB.out).mono ?_);rintro e7 w7 ⟨rfl,rfl⟩)
    | (go_at_call 72;(with_reducible refine (LI.out _ HB.out).mono ?_);rintro e8 w8 ⟨rfl,hb8⟩;have B8:=zh (HB.out.trans (hb8.mono HB.out.size));clear hb8))
   go_ret
   exact ⟨rfl,B8.out⟩
end
section
open Go.RowKit
def up (p:List Int):Nat->Int->Int
 | 0,x=>x
 | j+1,x=>up p j (atI p x)
section
variable {ns:List Nd} {p:List Int}
end
end
section
open Go.RowKit
theorem ZiY {W:World} (h:laidMetH Tryz.prog [("ballcock/lex.keywords",Rows.laid_ballcock_lex_keywords)] W):ZZ W 0 Zh:=by
 rw [MakeChecks.laidMetH_plain _ _ _ (by kernel_rfl)] at h
 exact Ze9 (zs:=Zh) (rest:=[]) Tryz.gKeys Tryz.gKeysType Tryz.underlying162 Tryz.underlying9 Tryz.cellsS (by kernel_rfl) h
end
end Go.Proofs.YtkgkmdhpnhmcpaaGreatDoor
