import Derived.Test.YtaacbenikcbibabGreatDoorQBW
set_option maxRecDepth 100000
set_option maxHeartbeats 8000000
namespace Go.Proofs.YtaacbenikcbibabGreatDoor
section
open Go.RowKit
theorem Ziv {w W:World} {k1 wp kp wa ua wz uz wo v:Value} {c5 c4 cz1 cz cw1 cw ck cp c1:List Value}
  (h:AccR w W [⟨27,5,v,5,c5⟩,⟨9,1,wo,4,c4⟩,⟨2,1,uz,1,cz1⟩,⟨9,1,wz,1,cz⟩,⟨2,1,ua,1,cw1⟩,⟨9,1,wa,1,cw⟩,⟨3,1,kp,3,ck⟩,⟨9,1,wp,1,cp⟩,⟨3,1,k1,1,c1⟩])
  (h5:c5=[.int .i64 0,.slice none 0 0,.slice none 0 0,k1,.int .i64 0,.int .i64 1,wp,.slice none 0 0,kp,.int .i64 0,.int .i64 2,wa,ua,.slice none 0 0,.int .i64 0,.int .i64 2,wz,uz,.slice none 0 0,.int .i64 0,.int .i64 3,wo,.slice none 0 0,.slice none 0 0,.int .i64 0])
  (h4:c4=[txt [101,110,100],txt [65],txt [111,107],txt [90]]) (hz1:cz1=[.int .i64 1]) (hz:cz=[txt [90]]) (hw1:cw1=[.int .i64 0]) (hw:cw=[txt [65]]) (hk:ck=[.int .i64 2,.int .i64 3,.int .i64 4]) (hp:cp=[txt [80]]) (h1:c1=[.int .i64 1]):Zo W v exT:=by
 subst h5 h4 hz1 hz hw1 hw hk hp h1
 have n0:∀ (e:TypeId) (s:Nat),W.ownsRow w.heap.size e s (.slice none 0 0) 0 []:=fun e s=>World.ownsRow_nil _ _ _ _
 have R:RowO W w.heap.size v [((.slice none 0 0,.slice none 0 0,k1),⟨0,[],[],[1],0⟩),((wp,.slice none 0 0,kp),⟨1,[[80]],[],[2,3,4],0⟩),((wa,ua,.slice none 0 0),⟨2,[[65]],[0],[],0⟩),((wz,uz,.slice none 0 0),⟨2,[[90]],[1],[],0⟩),((wo,.slice none 0 0,.slice none 0 0),⟨3,[[101,110,100],[65],[111,107],[90]],[],[],0⟩)]:=by
  have r0:=h.all _ (.head _)
  have r1:=h.all _ (.tail _ (.head _))
  have r2:=h.all _ (.tail _ (.tail _ (.head _)))
  have r3:=h.all _ (.tail _ (.tail _ (.tail _ (.head _))))
  have r4:=h.all _ (.tail _ (.tail _ (.tail _ (.tail _ (.head _)))))
  have r5:=h.all _ (.tail _ (.tail _ (.tail _ (.tail _ (.tail _ (.head _))))))
  have r6:=h.all _ (.tail _ (.tail _ (.tail _ (.tail _ (.tail _ (.tail _ (.head _)))))))
  have r7:=h.all _ (.tail _ (.tail _ (.tail _ (.tail _ (.tail _ (.tail _ (.tail _ (.head _))))))))
  have r8:=h.all _ (.tail _ (.tail _ (.tail _ (.tail _ (.tail _ (.tail _ (.tail _ (.tail _ (.head _)))))))))
  refine ⟨r0,?_⟩
  refine List.forall_mem_cons.2 ⟨⟨n0 _ _,n0 _ _,r8,by dsimp only;decide⟩,List.forall_mem_cons.2 ⟨⟨r7,n0 _ _,r6,by dsimp only;decide⟩,List.forall_mem_cons.2 ⟨⟨r5,r4,n0 _ _,by dsimp only;decide⟩,List.forall_mem_cons.2 ⟨⟨r3,r2,n0 _ _,by dsimp only;decide⟩,List.forall_mem_cons.2 ⟨⟨r1,n0 _ _,n0 _ _,by dsimp only;decide⟩,fun x hx=>by cases hx⟩⟩⟩⟩⟩
 exact R.nodes
def exW (w:World):World:=(((((((((w.alloc (.cells #[.int .i64 1] 3)).alloc (.cells #[txt [80]] 9)).alloc (.cells #[.int .i64 2,.int .i64 3,.int .i64 4] 3)).alloc (.cells #[txt [65]] 9)).alloc (.cells #[.int .i64 0] 2)).alloc (.cells #[txt [90]] 9)).alloc (.cells #[.int .i64 1] 2)).alloc (.cells #[txt [101,110,100],txt [65],txt [111,107],txt [90]] 9)).alloc (.cells #[.int .i64 0,.slice none 0 0,.slice none 0 0,.slice (some ⟨w.heap.size,0,none⟩) 1 1,.int .i64 0,.int .i64 1,.slice (some ⟨w.heap.size+1,0,none⟩) 1 1,.slice none 0 0,.slice (some ⟨w.heap.size+1+1,0,none⟩) 3 3,.int .i64 0,.int .i64 2,.slice (some ⟨w.heap.size+1+1+1,0,none⟩) 1 1,.slice (some ⟨w.heap.size+1+1+1+1,0,none⟩) 1 1,.slice none 0 0,.int .i64 0,.int .i64 2,.slice (some ⟨w.heap.size+1+1+1+1+1,0,none⟩) 1 1,.slice (some ⟨w.heap.size+1+1+1+1+1+1,0,none⟩) 1 1,.slice none 0 0,.int .i64 0,.int .i64 3,.slice (some ⟨w.heap.size+1+1+1+1+1+1+1,0,none⟩) 4 4,.slice none 0 0,.slice none 0 0,.int .i64 0] 27))
theorem ZiX (w:World):Zo (exW w) (.slice (some ⟨w.heap.size+1+1+1+1+1+1+1+1,0,none⟩) 5 5) exT/\Below w.heap.size w (exW w):=by
 have h:=(((((((((AccR.start w).push 3 1 1 #[.int .i64 1] (by omega) rfl).push 9 1 1 #[txt [80]] (by omega) rfl).push 3 1 3 #[.int .i64 2,.int .i64 3,.int .i64 4] (by omega) rfl).push 9 1 1 #[txt [65]] (by omega) rfl).push 2 1 1 #[.int .i64 0] (by omega) rfl).push 9 1 1 #[txt [90]] (by omega) rfl).push 2 1 1 #[.int .i64 1] (by omega) rfl).push 9 1 4 #[txt [101,110,100],txt [65],txt [111,107],txt [90]] (by omega) rfl).push 27 5 5 #[.int .i64 0,.slice none 0 0,.slice none 0 0,.slice (some ⟨w.heap.size,0,none⟩) 1 1,.int .i64 0,.int .i64 1,.slice (some ⟨w.heap.size+1,0,none⟩) 1 1,.slice none 0 0,.slice (some ⟨w.heap.size+1+1,0,none⟩) 3 3,.int .i64 0,.int .i64 2,.slice (some ⟨w.heap.size+1+1+1,0,none⟩) 1 1,.slice (some ⟨w.heap.size+1+1+1+1,0,none⟩) 1 1,.slice none 0 0,.int .i64 0,.int .i64 2,.slice (some ⟨w.heap.size+1+1+1+1+1,0,none⟩) 1 1,.slice (some ⟨w.heap.size+1+1+1+1+1+1,0,none⟩) 1 1,.slice none 0 0,.int .i64 0,.int .i64 3,.slice (some ⟨w.heap.size+1+1+1+1+1+1+1,0,none⟩) 4 4,.slice none 0 0,.slice none 0 0,.int .i64 0] (by omega) rfl
 simp only [World.size_alloc] at h
 exact ⟨Ziv h rfl rfl rfl rfl rfl rfl rfl rfl rfl,h.below⟩
theorem ZfC (w:World) (ht:Zad w 0 Zh) :
  Calls Tryz.prog 4 #[] w fun e w'=>e=.returned (.bool true)/\Below w.heap.size w w':=by
 have X:=ZiX w
 have H0:=Lib.hid (And.intro X (ht.below X.2))
 clear X ht
 have hb0:(Zap exT).ps.length=4:=by
  have:=congrArg List.length ZcT.1
  rw [List.length_map] at this
  exact this
 have hd0:(Zap exT).ds.length=0:=by rw [ZcT.2];rfl
 have EB:=Lib.hid (And.intro hb0 hd0)
 clear hb0 hd0
 go_enter Tryz.func4,Tryz.ntmps4
 go_upto_region 2 with fail
 (show Code.wp _ _ _ _ (exW w))
 generalize exW w=W at *
 go_upto_region 3 with (go_at_call 5;(refine (ZcS _ _ exT H0.out.1.1 H0.out.2 ZiW).mono ?_);rintro e w1 ⟨bk,bm,al,vd,rfl,hB,hD,hb1⟩;have H1:=Lib.hid (And.intro hB (H0.out.1.2.trans (hb1.mono H0.out.1.2.size)));have HD:=Lib.hid hD;clear hB hb1 hD)
 have hD:=HD.out
 rw [EB.out.2] at hD
 obtain ⟨Ad,cd,rfl⟩:=Zm hD
 clear hD HD
 go_upto_region 6 with (go_at_call 8;(refine (ZfW _ _ _ _ _ _ H1.out.1 (by rw [EB.out.1];decide) (by rw [EB.out.1];decide)).mono ?_);rintro e w2 ⟨vn,rfl,ho,hb2⟩;have H2:=Lib.hid (And.intro ho (H1.out.2.trans (hb2.mono H1.out.2.size)));clear ho hb2)
 have hn:=H2.out.1
 rw [EB.out.1,show (Zap exT).ps.map (fun p=>txt p.name)=[txt ZQ.name,txt Zw.name,txt ZS.name,txt [80]] from (show _=[ZQ.name,Zw.name,ZS.name,[80]].map txt from by rw [<- ZcT.1,List.map_map];rfl)] at hn
 obtain ⟨An,cn,rfl⟩:=Zm hn
 obtain ⟨r1,r2,r3⟩:=Zab hn
 obtain ⟨ad,rfl,hb,hc⟩:=r3.2 (by decide)
 have q0:=hc 0 (txt [70,105,108,101]) rfl
 have q3:w2.cell? ⟨ad.block,ad.off+3,none⟩=some (txt [80]):=hc 3 (txt [80]) rfl
 rw [show ad.add 0=ad from by simp [Addr.add]] at q0
 clear hn r3 hc
 go_wp2_with fail
 exact bodyPost_ret (v:=.bool true) (by simp [results,Tryz.results4,go_sem]) rfl ⟨rfl,H2.out.2⟩
end
section
open Go.RowKit
def twN (nm:List UInt8):Nat->List Nd
 | 0=>[⟨0,[],[],[],0⟩]
 | j+1=>
  let l:=twN nm j
  let x:=ZB l 0
  l.set 0 ⟨x.kind,x.words,x.nums,x.kids++[(l.length:Int)],x.pos⟩++[⟨1,[nm],[],[(l.length:Int)+1],(l.length:Int)⟩,⟨2,[[122]],[1],[],0⟩]
theorem ZcI (nm:List UInt8):∀ j,(twN nm j).length=1+2*j
 | 0=>rfl
 | j+1=>by
  unfold twN
  simp only [List.length_append,List.length_set,List.length_cons,List.length_nil]
  rw [ZcI nm j]
  omega
def nmT (b:Bool):List UInt8:=if b then [73,116,101,114] else [81]
def twB (k:Nat) (b:Bool):Bool:=
 let B:=Zap (twN (nmT b) (k+1))
 Zgx (twN (nmT b) (k+1))&&decide (B.ds.length=k+(if b then 1 else 0))&&B.ds.all (fun d=>decide (d.1=2)&&decide (d.2.2=nmT b))&&decide ((B.ps.map fun p=>(p.name,p.states.length))[if b then 2 else 3]? = some (nmT b,if b then 2 else 1))&&B.ps.all (fun p=>decide (p.name.length<=100)&&szB p&&decide (p.states.length<=80))&&decide (B.ps.length<=4)
theorem Zhl:∀ k<9,twB k true=true/\twB k false=true:=by decide +kernel
theorem Ze7 (k:Nat) (hk:k<9) (b:Bool):TreeOk (twN (nmT b) (k+1))/\(Zap (twN (nmT b) (k+1))).ds.length=k+(if b then 1 else 0)/\(∀ d∈(Zap (twN (nmT b) (k+1))).ds,d.1=2/\d.2.2=nmT b)/\∃ (i:Nat) (p:Pro),(Zap (twN (nmT b) (k+1))).ps[i]? = some p/\p.name=nmT b/\p.states.length=(if b then 2 else 1)/\SzP p:=by
 have h:twB k b=true:=by
  cases b
  ·exact (Zhl k hk).2
  ·exact (Zhl k hk).1
 unfold twB at h
 simp only [Bool.and_eq_true,decide_eq_true_eq,List.all_eq_true] at h
 obtain ⟨⟨⟨⟨⟨h1,h2⟩,h3⟩,h4⟩,h5⟩,h6⟩:=h
 refine ⟨ZfO h1,h2,h3,?_⟩
 rw [List.getElem?_map] at h4
 cases q:(Zap (twN (nmT b) (k+1))).ps[if b=true then 2 else 3]? with
 | none=>rw [q] at h4;cases h4
 | some p=>
  rw [q] at h4
  simp only [Option.map_some,Option.some.injEq,Prod.mk.injEq] at h4
  exact ⟨_,p,q,h4.1,h4.2,Zig (h5 p (List.mem_of_getElem? q)).1.2⟩
theorem RowO.push2 {w w':World} {B:Nat} {v v':Value} {rs:List (NdV×Nd)} {x y:NdV×Nd} (h:RowO w B v rs) (hx:NdO w B x) (hy:NdO w B y) (hown:w'.ownsRow B 27 5 v' (rs.length+2) (Zu rs++Zu [x,y])) (hg:w.grownBy w' v.ownBlock):RowO w' B v' (rs++[x,y]):=by
 refine ⟨by rw [List.length_append,Za4];exact hown,fun z hz=>?_⟩
 rcases List.mem_append.mp hz with hz | hz
 ·exact (h.each z hz).grown h.own (by decide) (by decide) (by decide) hg
 ·rcases List.mem_cons.1 hz with rfl | hz
  ·exact hx.grown h.own (by decide) (by decide) (by decide) hg
  ·rw [List.mem_singleton] at hz
   subst hz
   exact hy.grown h.own (by decide) (by decide) (by decide) hg
theorem ZaS {w:World} {base n size:Nat} {e:TypeId} {v:Value} {xs:List Value} (h:w.ownsRow base e size v n xs) (hn:0<n):∃ g c cur,v=.slice (some ⟨g,0,none⟩) n c/\Ze w g e cur/\cur.size=c*size/\n<=c/\base<=g:=by
 rcases h.2 with ⟨_,rfl⟩ | ⟨g,cap,cur,rfl,hb,hg,hnc,_,hcs,_⟩
 ·omega
 ·exact ⟨g,cap,cur,rfl,hg,hcs,hnc,hb⟩
def ZbC (x:NdV×Nd) (rt:List (NdV×Nd)):Prop:=∀ z∈rt,∀ b,z.1.2.2.ownBlock=some b->x.1.2.2.ownBlock≠some b
theorem RowO.kput {w w1:World} {B g c n:Nat} {x:NdV×Nd} {rt:List (NdV×Nd)} {rv:Value} {ks:List Int} (h:RowO w B (.slice (some ⟨g,0,none⟩) n c) (x::rt)) (hn:n=(x::rt).length) (hd:ZbC x rt) (hg:w.grownBy w1 x.1.2.2.ownBlock) (hr:w1.ownsRow B 3 1 rv ks.length (ks.map (Value.int .i64))) :
  RowO (w1.setCell ⟨g,3,none⟩ rv) B (.slice (some ⟨g,0,none⟩) n c) (((x.1.1,x.1.2.1,rv),⟨x.2.kind,x.2.words,x.2.nums,ks,x.2.pos⟩)::rt):=by
 subst hn
 have xk:=(h.each x (.head _)).ks
 have own1:=Zaa h.own xk (by decide) hg
 have off:=Zar own1 hr (by decide) g rfl
 have s:=(World.ownsRow.stored own1 (0*5+3) rv).1
 rw [<- Zbv (x::rt) 0 x rv ks rfl,List.set_cons_zero] at s
 have past:∀ {e:TypeId} {n size:Nat} {v:Value} {xs:List Value},w1.ownsRow B e size v n xs->27≠e->(w1.setCell ⟨g,3,none⟩ rv).ownsRow B e size v n xs:=fun hz hne=>Zk hz (Zar own1 hz hne g rfl)
 refine ⟨by simpa using s,fun y hy=>?_⟩
 rcases List.mem_cons.1 hy with rfl | hy
 ·have hx:=h.each x (.head _)
  exact ⟨past (Zaa hx.ws xk (by decide) hg) (by decide),past (Zaa hx.us xk (by decide) hg) (by decide),Zk hr off,hx.wl⟩
 ·have hz:=h.each y (.tail _ hy)
  refine ⟨past (Zaa hz.ws xk (by decide) hg) (by decide),past (Zaa hz.us xk (by decide) hg) (by decide),past (hz.ks.kept hg ?_) (by decide),hz.wl⟩
  cases q:y.1.2.2.ownBlock with
  | none=>exact .inl rfl
  | some b=>exact .inr fun e=>hd y hy b q e.symm
theorem Zgo (w:World) (us:List Value) (ty:TypeId) (n size:Nat) (h:us.length=n*size):Zs (w.alloc (.cells us.toArray ty)) (w.alloc (.cells us.toArray ty)).heap.size size (some ⟨w.heap.size,0,none⟩) n us:=
 ⟨h,fun _=>⟨_,rfl,(Blk.start w us.toArray ty).lt,fun j u hj=>Zeo w us.toArray ty j u (by simpa using hj)⟩⟩
def twW (w:World) (nm:List UInt8) (b a:Int):World:=(((((w.alloc (.cells #[txt nm] 9)).alloc (.cells #[.int .i64 b] 3)).alloc (.cells #[txt [122]] 9)).alloc (.cells #[.int .i64 1] 2)).alloc (.cells #[.int .i64 1,.slice (some ⟨w.heap.size,0,none⟩) 1 1,.slice none 0 0,.slice (some ⟨w.heap.size+1,0,none⟩) 1 1,.int .i64 a,.int .i64 2,.slice (some ⟨w.heap.size+1+1,0,none⟩) 1 1,.slice (some ⟨w.heap.size+1+1+1,0,none⟩) 1 1,.slice none 0 0,.int .i64 0] 27))
def twP (w:World) (nm:List UInt8) (b a:Int):NdV×Nd:=((.slice (some ⟨w.heap.size,0,none⟩) 1 1,.slice none 0 0,.slice (some ⟨w.heap.size+1,0,none⟩) 1 1),⟨1,[nm],[],[b],a⟩)
def twQ (w:World):NdV×Nd:=((.slice (some ⟨w.heap.size+1+1,0,none⟩) 1 1,.slice (some ⟨w.heap.size+1+1+1,0,none⟩) 1 1,.slice none 0 0),⟨2,[[122]],[1],[],0⟩)
theorem Zhk (w:World) (nm:List UInt8) (b a:Int) (hl:nm.length<=maxLen):Below w.heap.size w (twW w nm b a)/\NdO (twW w nm b a) w.heap.size (twP w nm b a)/\NdO (twW w nm b a) w.heap.size (twQ w)/\Zs (twW w nm b a) (twW w nm b a).heap.size 5 (some ⟨w.heap.size+1+1+1+1,0,none⟩) 2 (Zu [twP w nm b a,twQ w]):=by
 have h:=(((((AccR.start w).push 9 1 1 #[txt nm] (by omega) rfl).push 3 1 1 #[.int .i64 b] (by omega) rfl).push 9 1 1 #[txt [122]] (by omega) rfl).push 2 1 1 #[.int .i64 1] (by omega) rfl).push 27 5 2 #[.int .i64 1,.slice (some ⟨w.heap.size,0,none⟩) 1 1,.slice none 0 0,.slice (some ⟨w.heap.size+1,0,none⟩) 1 1,.int .i64 a,.int .i64 2,.slice (some ⟨w.heap.size+1+1,0,none⟩) 1 1,.slice (some ⟨w.heap.size+1+1+1,0,none⟩) 1 1,.slice none 0 0,.int .i64 0] (by omega) rfl
 have rd:=Zgo ((((w.alloc (.cells #[txt nm] 9)).alloc (.cells #[.int .i64 b] 3)).alloc (.cells #[txt [122]] 9)).alloc (.cells #[.int .i64 1] 2)) (Zu [twP w nm b a,twQ w]) 27 2 5 rfl
 simp only [World.size_alloc] at h
 have n0:∀ (W:World) (e:TypeId) (s:Nat),W.ownsRow w.heap.size e s (.slice none 0 0) 0 []:=fun W e s=>World.ownsRow_nil _ _ _ _
 refine ⟨h.below,⟨h.all _ (.tail _ (.tail _ (.tail _ (.tail _ (.head _))))),n0 _ _ _,h.all _ (.tail _ (.tail _ (.tail _ (.head _)))),fun s hs=>?_⟩,⟨h.all _ (.tail _ (.tail _ (.head _))),h.all _ (.tail _ (.head _)),n0 _ _ _,fun s hs=>?_⟩,?_⟩
 ·rw [List.mem_singleton.1 hs];exact hl
 ·rw [List.mem_singleton.1 hs];decide
 ·rw [show (⟨w.heap.size+1+1+1+1,0,none⟩:Addr)=⟨((((w.alloc (.cells #[txt nm] 9)).alloc (.cells #[.int .i64 b] 3)).alloc (.cells #[txt [122]] 9)).alloc (.cells #[.int .i64 1] 2)).heap.size,0,none⟩ from by simp only [World.size_alloc]]
  exact rd
theorem NdO.less {w:World} {B B':Nat} {x:NdV×Nd} (h:NdO w B x) (hb:B'<=B):NdO w B' x:=⟨Zaz h.ws hb,Zaz h.us hb,Zaz h.ks hb,h.wl⟩
theorem Ze6 (w:World) (nm:List UInt8) (b a:Int):∀ u∈Zu [twP w nm b a,twQ w],u.oneCell'=true:=fun u hu=>by
 simp only [Zu,twP,twQ,List.mem_cons,List.not_mem_nil,or_false] at hu
 rcases hu with h | h | h | h | h | h | h | h | h | h<;>rw [h]<;>rfl
theorem ZfQ {nm:List UInt8} {j:Nat} {x:NdV×Nd} {rt:List (NdV×Nd)} (h:(x::rt).map (·.2)=twN nm j) (_hl:(x::rt).length=1+2*j) (w:World) (rv:Value) :
  ((((x.1.1,x.1.2.1,rv),(⟨x.2.kind,x.2.words,x.2.nums,x.2.kids++[1+2*(j:Int)],x.2.pos⟩:Nd))::rt)++[twP w nm (1+2*(j:Int)+1) (1+2*(j:Int)),twQ w]).map (·.2)=twN nm (j+1):=by
 unfold twN
 have e:((twN nm j).length:Int)=1+2*(j:Int):=by rw [ZcI];push_cast;rfl
 dsimp only
 rw [e,<- h]
 simp only [List.map_append,List.map_cons,List.set_cons_zero,List.map_nil]
 rfl
end
end Go.Proofs.YtaacbenikcbibabGreatDoor
