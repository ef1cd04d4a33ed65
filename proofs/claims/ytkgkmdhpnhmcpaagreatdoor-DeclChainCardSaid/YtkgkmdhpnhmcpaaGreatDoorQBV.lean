import Derived.Test.YtkgkmdhpnhmcpaaGreatDoorQBU
set_option maxRecDepth 100000
set_option maxHeartbeats 8000000
namespace Go.Proofs.YtkgkmdhpnhmcpaaGreatDoor
section
open Go.RowKit
theorem ZiP {w W:World} {k1 wp kp wa ua wz uz wo v:Value} {c5 c4 cz1 cz cw1 cw ck cp c1:List Value}
  (h:AccR w W [⟨27,5,v,5,c5⟩,⟨9,1,wo,4,c4⟩,⟨2,1,uz,1,cz1⟩,⟨9,1,wz,1,cz⟩,⟨2,1,ua,1,cw1⟩,⟨9,1,wa,1,cw⟩,⟨3,1,kp,3,ck⟩,⟨9,1,wp,1,cp⟩,⟨3,1,k1,1,c1⟩])
  (h5:c5=[.int .i64 0,.slice none 0 0,.slice none 0 0,k1,.int .i64 0,.int .i64 1,wp,.slice none 0 0,kp,.int .i64 0,.int .i64 2,wa,ua,.slice none 0 0,.int .i64 0,.int .i64 2,wz,uz,.slice none 0 0,.int .i64 0,.int .i64 3,wo,.slice none 0 0,.slice none 0 0,.int .i64 0])
  (h4:c4=[txt [101,110,100],txt [65],txt [111,107],txt [90]]) (hz1:cz1=[.int .i64 1]) (hz:cz=[txt [90]]) (hw1:cw1=[.int .i64 0]) (hw:cw=[txt [65]]) (hk:ck=[.int .i64 2,.int .i64 3,.int .i64 4]) (hp:cp=[txt [80]]) (h1:c1=[.int .i64 1]):Zn W v exT:=by
 subst h5 h4 hz1 hz hw1 hw hk hp h1
 have n0:∀ (e:TypeId) (s:Nat),W.ownsRow w.heap.size e s (.slice none 0 0) 0 []:=fun e s=>World.ownsRow_nil _ _ _ _
 have R:RowO W w.heap.size v [((.slice none 0 0,.slice none 0 0,k1),⟨0,[],[],[1],0⟩),((wp,.slice none 0 0,kp),⟨1,[[80]],[],[2,3,4],0⟩),((wa,ua,.slice none 0 0),⟨2,[[65]],[0],[],0⟩),((wz,uz,.slice none 0 0),⟨2,[[90]],[1],[],0⟩),((wo,.slice none 0 0,.slice none 0 0),⟨3,[[101,110,100],[65],[111,107],[90]],[],[],0⟩)]:=by
  have r0:=h.all _ (.head _)
  have r1:=h.all _ (.tail _ (.head _))
  have r2:=h.all _ (.tail _ (.tail _ (.head _)))
  have r3:=h.all _ (.tail _ (.tail _ (.tail _ (.head _))))
  have r4:=h.all _ (.tail _ (.tail _ (.tail _ (.tail _ (.head _)))))
  have r5:=h.all _ (.tail _ (.tail _ (.tail _ (.tail _ (.tail _ (.head _))))))
  have r6:=h.all _ (.tail _ (.tail _ (.tail _ (.tail _ (.tail _ (.tail _ (.head _)))))))
  have r7:=h.all _ (.tail _ (.tail _ (.tail _ (.tail _ (.tail _ (.tail _ (.tail _ (.head _))))))))
  have r8:=h.all _ (.tail _ (.tail _ (.tail _ (.tail _ (.tail _ (.tail _ (.tail _ (.tail _ (.head _)))))))))
  refine ⟨r0,?_⟩
  refine List.forall_mem_cons.2 ⟨⟨n0 _ _,n0 _ _,r8,by dsimp only;decide⟩,List.forall_mem_cons.2 ⟨⟨r7,n0 _ _,r6,by dsimp only;decide⟩,List.forall_mem_cons.2 ⟨⟨r5,r4,n0 _ _,by dsimp only;decide⟩,List.forall_mem_cons.2 ⟨⟨r3,r2,n0 _ _,by dsimp only;decide⟩,List.forall_mem_cons.2 ⟨⟨r1,n0 _ _,n0 _ _,by dsimp only;decide⟩,fun x hx=>by cases hx⟩⟩⟩⟩⟩
 exact R.nodes
def exW (w:World):World:=(((((((((w.alloc (.cells #[.int .i64 1] 3)).alloc (.cells #[txt [80]] 9)).alloc (.cells #[.int .i64 2,.int .i64 3,.int .i64 4] 3)).alloc (.cells #[txt [65]] 9)).alloc (.cells #[.int .i64 0] 2)).alloc (.cells #[txt [90]] 9)).alloc (.cells #[.int .i64 1] 2)).alloc (.cells #[txt [101,110,100],txt [65],txt [111,107],txt [90]] 9)).alloc (.cells #[.int .i64 0,.slice none 0 0,.slice none 0 0,.slice (some ⟨w.heap.size,0,none⟩) 1 1,.int .i64 0,.int .i64 1,.slice (some ⟨w.heap.size+1,0,none⟩) 1 1,.slice none 0 0,.slice (some ⟨w.heap.size+1+1,0,none⟩) 3 3,.int .i64 0,.int .i64 2,.slice (some ⟨w.heap.size+1+1+1,0,none⟩) 1 1,.slice (some ⟨w.heap.size+1+1+1+1,0,none⟩) 1 1,.slice none 0 0,.int .i64 0,.int .i64 2,.slice (some ⟨w.heap.size+1+1+1+1+1,0,none⟩) 1 1,.slice (some ⟨w.heap.size+1+1+1+1+1+1,0,none⟩) 1 1,.slice none 0 0,.int .i64 0,.int .i64 3,.slice (some ⟨w.heap.size+1+1+1+1+1+1+1,0,none⟩) 4 4,.slice none 0 0,.slice none 0 0,.int .i64 0] 27))
theorem Zji (w:World):Zn (exW w) (.slice (some ⟨w.heap.size+1+1+1+1+1+1+1+1,0,none⟩) 5 5) exT/\Below w.heap.size w (exW w):=by
 have h:=(((((((((AccR.start w).push 3 1 1 #[.int .i64 1] (by omega) rfl).push 9 1 1 #[txt [80]] (by omega) rfl).push 3 1 3 #[.int .i64 2,.int .i64 3,.int .i64 4] (by omega) rfl).push 9 1 1 #[txt [65]] (by omega) rfl).push 2 1 1 #[.int .i64 0] (by omega) rfl).push 9 1 1 #[txt [90]] (by omega) rfl).push 2 1 1 #[.int .i64 1] (by omega) rfl).push 9 1 4 #[txt [101,110,100],txt [65],txt [111,107],txt [90]] (by omega) rfl).push 27 5 5 #[.int .i64 0,.slice none 0 0,.slice none 0 0,.slice (some ⟨w.heap.size,0,none⟩) 1 1,.int .i64 0,.int .i64 1,.slice (some ⟨w.heap.size+1,0,none⟩) 1 1,.slice none 0 0,.slice (some ⟨w.heap.size+1+1,0,none⟩) 3 3,.int .i64 0,.int .i64 2,.slice (some ⟨w.heap.size+1+1+1,0,none⟩) 1 1,.slice (some ⟨w.heap.size+1+1+1+1,0,none⟩) 1 1,.slice none 0 0,.int .i64 0,.int .i64 2,.slice (some ⟨w.heap.size+1+1+1+1+1,0,none⟩) 1 1,.slice (some ⟨w.heap.size+1+1+1+1+1+1,0,none⟩) 1 1,.slice none 0 0,.int .i64 0,.int .i64 3,.slice (some ⟨w.heap.size+1+1+1+1+1+1+1,0,none⟩) 4 4,.slice none 0 0,.slice none 0 0,.int .i64 0] (by omega) rfl
 simp only [World.size_alloc] at h
 exact ⟨ZiP h rfl rfl rfl rfl rfl rfl rfl rfl rfl,h.below⟩
theorem ZfJ (w:World) (ht:ZZ w 0 Zh) :
  Calls Tryz.prog 5 #[] w fun e w'=>e=.returned (.bool true)/\Below w.heap.size w w':=by
 have X:=Zji w
 have H0:=zh (zi X (ht.below X.2))
 clear X ht
 have hb0:(Zah exT).ps.length=4:=by
  have:=congrArg List.length ZcZ.1
  rw [List.length_map] at this
  exact this
 have hd0:(Zah exT).ds.length=0:=by rw [ZcZ.2];rfl
 have EB:=zh (zi hb0 hd0)
 clear hb0 hd0
 go_enter Tryz.func5,Tryz.ntmps5
 go_upto_region 2 with fail
 (show Code.wp _ _ _ _ (exW w))
 generalize exW w=W at *
 go_upto_region 3 with (go_at_call 8;(refine (ZcY _ _ exT H0.out.1.1 H0.out.2 Zjh).mono ?_);rintro e w1 ⟨bk,bm,al,vd,rfl,hB,hD,hb1⟩;have H1:=zh (zi hB (H0.out.1.2.trans (hb1.mono H0.out.1.2.size)));have HD:=zh hD;clear hB hb1 hD)
 have hD:=HD.out
 rw [EB.out.2] at hD
 obtain ⟨Ad,cd,rfl⟩:=Zl hD
 clear hD HD
 go_upto_region 6 with (go_at_call 17;(refine (Zf2 _ _ _ _ _ _ H1.out.1 (by rw [EB.out.1];decide) (by rw [EB.out.1];decide)).mono ?_);rintro e w2 ⟨vn,rfl,ho,hb2⟩;have H2:=zh (zi ho (H1.out.2.trans (hb2.mono H1.out.2.size)));clear ho hb2)
 have hn:=H2.out.1
 rw [EB.out.1,show (Zah exT).ps.map (fun p=>txt p.name)=[txt ZL.name,txt Zw.name,txt ZO.name,txt [80]] from (show _=[ZL.name,Zw.name,ZO.name,[80]].map txt from by rw [<- ZcZ.1,List.map_map];rfl)] at hn
 obtain ⟨An,cn,rfl⟩:=Zl hn
 obtain ⟨r1,r2,r3⟩:=Zac hn
 obtain ⟨ad,rfl,hb,hc⟩:=r3.2 (by decide)
 have q0:=hc 0 (txt [70,105,108,101]) rfl
 have q3:w2.cell? ⟨ad.block,ad.off+3,none⟩=some (txt [80]):=hc 3 (txt [80]) rfl
 rw [show ad.add 0=ad from by simp [Addr.add]] at q0
 clear hn r3 hc
 go_wp2_with fail
 exact bodyPost_ret (v:=.bool true) (by simp [results,Tryz.results5,go_sem]) rfl ⟨rfl,H2.out.2⟩
end
section
open Go.RowKit
theorem Zcl {w:World} {base n size:Nat} {e:TypeId} {v:Value} {xs:List Value} (h:w.ownsRow base e size v n xs) (hn:0<n):∃ g c cur,v=.slice (some ⟨g,0,none⟩) n c/\Zd w g e cur/\cur.size=c*size/\n<=c/\base<=g:=by
 rcases h.2 with ⟨_,rfl⟩ | ⟨g,cap,cur,rfl,hb,hg,hnc,_,hcs,_⟩
 ·omega
 ·exact ⟨g,cap,cur,rfl,hg,hcs,hnc,hb⟩
theorem NdO.less {w:World} {B B':Nat} {x:NdV×Nd} (h:NdO w B x) (hb:B'<=B):NdO w B' x:=⟨Zab h.ws hb,Zab h.us hb,Zab h.ks hb,h.wl⟩
end
end Go.Proofs.YtkgkmdhpnhmcpaaGreatDoor
