import Derived.Test.YtkgkmdhpnhmcpaaGreatDoorQBW
import Derived.Test.YtkgkmdhpnhmcpaaGreatDoorQBX
set_option maxRecDepth 100000
set_option maxHeartbeats 8000000
namespace Go.Proofs.YtkgkmdhpnhmcpaaGreatDoor
section
open Go.RowKit
theorem ZhI (k:Nat) (h:k<40):(UInt8.ofNat (97+k)).toNat=97+k:=by
 rw [UInt8.toNat_ofNat']
 omega
theorem ZaP (k:Nat) (hk:k<40) (w:World):Calls Tryz.prog 6 #[.int .i64 k] w fun e w'=>e=.returned (txt (chS k))/\Below w.heap.size w w':=by
 have w1:IntKind.i64.wrap (97+(k:Int))=97+k:=IntWalk.i64_in _ (by omega)
 have w2:IntKind.u8.wrap (97+(k:Int))=97+k:=IntWalk.u8_in _ (by omega)
 have hc:(convert 29 9 (.slice (some ⟨w.heap.size,0,none⟩) 1 1)).run Tryz.prog (w.alloc (.cells #[.int .u8 (97+(k:Int))] 5))=.ok (.string ⟨#[UInt8.ofNat (97+k)]⟩) (w.alloc (.cells #[.int .u8 (97+(k:Int))] 5)):=
  run_convert_bytes_back _ _ _ 5 _ 1 [UInt8.ofNat (97+k)] Tryz.underlying29 Tryz.underlying5 Tryz.underlying9 (fun j hj=>by
   obtain rfl:j=0:=by simpa using hj
   rw [List.getElem_cons_zero,ZhI k hk]
   simp [Addr.add])
 have e:chS k=[115,UInt8.ofNat (97+k)]:=rfl
 rw [e]
 clear e
 generalize UInt8.ofNat (97+k)=bt at *
 clear hk
 go_enter Tryz.func6,Tryz.ntmps6
 go_wp2_with fail
 go_ret
 exact ⟨rfl,below_alloc1 _ _⟩
structure ChAt (w:World) (B bl:Nat) (ns:List Nd) (v:Value):Prop where
 box:Zd w bl 28 #[v]
 row:∃ rs x,RowO w B v rs/\rs.map (·.2)=ns/\rs[1]? = some x/\ZgK rs 1 x
theorem ChAt.keep {w w':World} {B bl:Nat} {ns:List Nd} {v:Value} (h:ChAt w B bl ns v) (hb:Below w.heap.size w w'):ChAt w' B bl ns v:=by
 obtain ⟨rs,x,h1,h2,h3,h4⟩:=h.row
 exact ⟨h.box.keep hb,rs,x,h1.keep hb,h2,h3,h4⟩
def Zbo (ns:List Nd) (y:Nd):List Nd:=(let x:=Zu ns 1;ns.set 1 ⟨x.kind,x.words,x.nums,x.kids++[(ns.length:Int)],x.pos⟩)++[y]
theorem ZbD (k:Nat) (fin:Bool) (j:Nat):chN k fin (j+1)=Zbo (chN k fin j) (chK k fin j):=rfl
theorem RowO.other {w:World} {B b j:Nat} {v u:Value} {cs:Array Value} {rs:List (NdV×Nd)} (h:RowO w B v rs) (hb:Zd w b 28 cs):RowO (w.setCell ⟨b,j,none⟩ u) B v rs:=
 ⟨Zg h.own (hb.off h.own (by decide)),fun x hx=>⟨Zg (h.each x hx).ws (hb.off (h.each x hx).ws (by decide)),Zg (h.each x hx).us (hb.off (h.each x hx).us (by decide)),Zg (h.each x hx).ks (hb.off (h.each x hx).ks (by decide)),(h.each x hx).wl⟩⟩
theorem ZhH {w:World} {B:Nat} {x:NdV×Nd} (h:NdO w B x):∀ u∈Zs [x],u.oneCell'=true:=fun u hu=>by
 obtain ⟨A1,c1,e1⟩:=Zl h.ws
 obtain ⟨A2,c2,e2⟩:=Zl h.us
 obtain ⟨A3,c3,e3⟩:=Zl h.ks
 simp only [Zs,List.mem_cons,List.not_mem_nil,or_false] at hu
 rcases hu with h | h | h | h | h<;>rw [h]<;>first | rfl | (rw [e1];rfl) | (rw [e2];rfl) | (rw [e3];rfl)
def chR (g n c:Nat) (KV:Value):Nat->Value->World->Prop
 | 0,v,_=>v=.slice (some ⟨g,0,none⟩) n c
 | 1,v,_=>v=.slice (some ⟨g,0,none⟩) n c
 | 2,v,_=>v=.pointer (some ⟨g,5,none⟩)
 | 3,v,_=>v=.pointer (some ⟨g,8,none⟩)
 | 4,v,_=>v=KV
 | 5,v,_=>v=.slice (some ⟨g,0,none⟩) n c
 | 6,v,_=>v=.int .i64 n
 | 7,v,w=>∃ h,v=.slice (some ⟨h,0,none⟩) 1 1/\Blk w h #[.int .i64 n]
 | 8,_,_=>True
 | 9,v,_=>v=.pointer (some ⟨g,5,none⟩)
 | 10,v,_=>v=.pointer (some ⟨g,8,none⟩)
 | _,_,_=>True
theorem ZhF (g n c:Nat) (KV:Value):∀ j v w1 w2,Below w1.heap.size w1 w2->chR g n c KV j v w1->chR g n c KV j v w2
 | 0,_,_,_,_,h=>h
 | 1,_,_,_,_,h=>h
 | 2,_,_,_,_,h=>h
 | 3,_,_,_,_,h=>h
 | 4,_,_,_,_,h=>h
 | 5,_,_,_,_,h=>h
 | 6,_,_,_,_,h=>h
 | 7,_,_,_,hb,h=>by obtain ⟨g,e,B⟩:=h;exact ⟨g,e,B.keep hb⟩
 | 8,_,_,_,_,h=>h
 | 9,_,_,_,_,h=>h
 | 10,_,_,_,_,h=>h
 | _+11,_,_,_,_,_=>trivial
theorem ZhG (g n c:Nat) (KV:Value):∀ j v w1 w2,decide (1<=j/\j<=7)=false->chR g n c KV j v w1->chR g n c KV j v w2
 | 0,_,_,_,_,h=>h
 | 1,_,_,_,q,_=>by cases q
 | 2,_,_,_,q,_=>by cases q
 | 3,_,_,_,q,_=>by cases q
 | 4,_,_,_,q,_=>by cases q
 | 5,_,_,_,q,_=>by cases q
 | 6,_,_,_,q,_=>by cases q
 | 7,_,_,_,q,_=>by cases q
 | 8,_,_,_,_,_=>trivial
 | 9,_,_,_,_,h=>h
 | 10,_,_,_,_,h=>h
 | _+11,_,_,_,_,_=>trivial
theorem Zds {w:World} {g n size:Nat} {us:List Value} (hB:Blk w g us.toArray) (h:us.length=n*size):Zr w w.heap.size size (some ⟨g,0,none⟩) n us:=
 ⟨h,fun _=>⟨_,rfl,hB.lt,fun j u hu=>by rw [Addr.add_lit,Nat.zero_add,hB.cell j];simpa using hu⟩⟩
theorem Zbp (w:World) (B bl:Nat) (V:Value) (nl:List Nd) (h:ChAt w B bl nl V) (xw xu:Value) (xk xp:Int) (xwl:List (List UInt8)) (xul:List Int) (hx:NdO w B ((xw,xu,.slice none 0 0),⟨xk,xwl,xul,[],xp⟩)) (hB:B<=w.heap.size) (hbl:B<=bl) (hn:nl.length<=100) (hkn:(Zu nl 1).kids.length<=100) :
  Calls Tryz.prog 7 #[.agg #[.int .i64 xk,xw,xu,.slice none 0 0,.int .i64 xp],.pointer (some ⟨bl,0,none⟩)] w fun e w'=>e=.returned (.tuple #[])/\∃ V',ChAt w' B bl (Zbo nl ⟨xk,xwl,xul,[],xp⟩) V'/\Below B w w':=by
 obtain ⟨iN,hiN,zN0,zN1,zN2⟩:=info_parts Zjt
 obtain ⟨iI,hiI,zI0,zI1,zI2⟩:=info_parts Zgd
 have a1:=below_alloc1 w (.cells #[.int .i64 xk,xw,xu,.slice none 0 0,.int .i64 xp] 27)
 have TX0:=Zd.start w #[.int .i64 xk,xw,xu,.slice none 0 0,.int .i64 xp] 27
 have h1:=h.keep a1
 have x2:=hx.keep a1
 have hbx:bl<w.heap.size:=h.box.lt
 have WB:=zh (show Below B w (w.alloc (.cells #[.int .i64 xk,xw,xu,.slice none 0 0,.int .i64 xp] 27))/\B<=(w.alloc (.cells #[.int .i64 xk,xw,xu,.slice none 0 0,.int .i64 xp] 27)).heap.size from ⟨a1.mono hB,by rw [World.size_alloc];omega⟩)
 have HBw:=zh hB
 obtain ⟨bx,hbxe⟩:∃ bx,w.heap.size=bx:=⟨_,rfl⟩
 rw [hbxe] at TX0 hbx hB
 have gx:∀ rs':List (NdV×Nd),∀ V' g' n' c',V'=.slice (some ⟨g',0,none⟩) n' c'->RowO w B V' rs'->0<rs'.length->g'<bx:=fun rs' V' g' n' c' e hR hl=>by
  subst e
  have:=(hR.own.lt g' rfl).2
  omega
 obtain ⟨rs,x1,RO0,hm,hx1,hA⟩:=h.row
 have hg0:=gx rs V
 have RO:=RO0.keep a1
 clear gx hx a1
 have BX0:=h1.box
 clear h1 h
 go_enter Tryz.func7,Tryz.ntmps7
 go_upto_region 1 with fail
 try rw [hbxe]
 generalize hW:w.alloc (.cells #[.int .i64 xk,xw,xu,.slice none 0 0,.int .i64 xp] 27)=W at *
 have hlen:rs.length=nl.length:=by rw [<- hm,List.length_map]
 have h1l:1<rs.length:=(List.getElem?_eq_some_iff.1 hx1).1
 obtain ⟨g,c,cur,rfl,hcur,hcz,hcn,hg⟩:=Zcl RO.own (by omega)
 have hgx:=hg0 g _ _ rfl RO0 (by omega)
 have KO0:=(RO.each x1 (List.mem_of_getElem? hx1)).ks
 have hnd:Zu nl 1=x1.2:=by rw [<- hm];unfold Zu;simp [List.getElem?_map,hx1]
 rw [hnd] at hkn
 have e8:W.cell? ⟨g,8,none⟩=some x1.1.2.2:=by
  obtain ⟨_,_,r3⟩:=Zac RO.own
  obtain ⟨ad,e,_,hc⟩:=r3.2 (by omega)
  injection e with e
  subst e
  have:=hc 8 x1.1.2.2 (ZbH rs 1 x1 hx1).2.2.2.1
  rw [Addr.add_lit] at this
  simpa using this
 obtain ⟨u8,hu8⟩:∃ u8,cur[8]? = some u8:=⟨_,Array.getElem?_eq_getElem (by omega)⟩
 obtain ⟨n,hnn⟩:∃ n,rs.length=n:=⟨_,rfl⟩
 have NK:=zh (fun (w':World) (hb:Below W.heap.size W w')=>(hb.cell (p:=⟨g,8,none⟩) hcur.lt).trans e8)
 have HR:=zh (zi hnn (zi hx1 hA))
 rw [hnn] at BX0 RO hcn h1l hlen
 have i1:(1:Int)<(n:Int):=by omega
 have i1':1<n:=h1l
 have HN:=zh (show x1.1.2.2.ownBlock≠some bl/\x1.2.kids.length<=100/\B<=W.heap.size/\x1.1.2.2.ownBlock≠some g/\cur[8]? = some u8/\g≠bl/\x1.1.2.2.ownBlock≠some bx/\g≠bx/\B<=g from ⟨BX0.off KO0 (by decide),hkn,WB.out.2,hcur.off KO0 (by decide),hu8,fun e=>BX0.off RO.own (by decide) (by rw [e];rfl),TX0.off KO0 (by decide),by omega,hg⟩)
 have HM:=zh (show n<=100/\1<n/\B<=bl/\B<=W.heap.size/\rs.map (·.2)=nl/\Zu nl 1=x1.2 from ⟨by omega,h1l,hbl,WB.out.2,hm,hnd⟩)
 have BX:=zh (fun (w':World) (hb:Below W.heap.size W w')=>BX0.keep hb)
 have TX:=zh (fun (w':World) (hb:Below W.heap.size W w')=>TX0.keep hb)
 have TG:=zh (fun (w':World) (hb:Below W.heap.size W w')=>hcur.keep hb)
 have KO:=zh KO0
 have XO:=zh x2
 have ROH:=zh RO
 clear RO
 have RO:=ROH
 clear ROH BX0 TX0 hcur KO0 x2 e8 hu8 hcz hcn hg hgx hg0 hnd hm hx1 hA hlen hkn hn hbl hB hbx hnn hW h1l hbxe RO0
 refine Zei 8 11 (fun j=>decide (1<=j/\j<=7)) (fun x=>{ tmps:=#[.agg #[.int .i64 xk,xw,xu,.slice none 0 0,.int .i64 xp],.pointer (some ⟨bl,0,none⟩),.pointer (some ⟨bx,0,none⟩),x 0,x 1,x 2,x 3,x 4,x 5,x 6,x 7,x 8,x 9,x 10,undef,undef,undef,undef],defers:=[] }) (fun _=>undef) (chR g n c x1.1.2.2) (fun v w2=>∃ w1,Below W.heap.size W w1/\w1.grownBy w2 x1.1.2.2.ownBlock/\w2.ownsRow B 3 1 v (x1.2.kids.length+1) (x1.2.kids.map (Value.int .i64)++[.int .i64 n])/\(v.ownBlock=x1.1.2.2.ownBlock\/v.ownBlock=some w1.heap.size)) (fun w3=>∃ w1 w2 v,Below W.heap.size W w1/\w1.grownBy w2 x1.1.2.2.ownBlock/\w2.ownsRow B 3 1 v (x1.2.kids.length+1) (x1.2.kids.map (Value.int .i64)++[.int .i64 n])/\(v.ownBlock=x1.1.2.2.ownBlock\/v.ownBlock=some w1.heap.size)/\w3=w2.setCell ⟨g,8,none⟩ v) (by decide) rfl (by kernel_rfl) (by kernel_rfl) (fun i hi=>by have:=of_decide_eq_true hi;omega) (by kernel_rfl) (by kernel_rfl) (by rfl) ?_ (fun o ho=>by have e:=Option.some.inj ho;subst e;rfl) (ZhF g n c x1.1.2.2) (ZhG g n c x1.1.2.2) ?_ ?_ ?_ ?_ ?_
 ·intro i o ho hi x v
  have hc:i=0\/i=1\/i=2\/i=3\/i=4\/i=5\/i=6\/i=7\/i=8\/i=9\/i=10:=by omega
  rcases hc with rfl | rfl | rfl | rfl | rfl | rfl | rfl | rfl | rfl | rfl | rfl <;>
  ·have e:=Option.some.inj ho
   subst e
   rfl
 ·intro i o hi ho x w1 hb hd K' hK
  have hi:=of_decide_eq_true hi
  have hc:i=1\/i=2\/i=3\/i=4\/i=5\/i=6\/i=7:=by omega
  rcases hc with rfl | rfl | rfl | rfl | rfl | rfl | rfl<;>(have e:=Option.some.inj ho;subst e)
  ·clear hi
   have q0:w1.cell? ⟨bl,0,none⟩=some (.slice (some ⟨g,0,none⟩) n c):=(BX.out w1 hb).blk.cell 0
   go_simp
   exact hK.out _ _ (Below.refl _ _) rfl
  ·clear hi
   have d1:=hd ⟨1,.data⟩ (by simp) rfl
   dsimp only [chR] at d1
   generalize x 1=z1 at *
   subst d1
   go_simp
   exact hK.out _ _ (Below.refl _ _) rfl
  ·clear hi
   have d2:=hd ⟨2,.data⟩ (by simp) rfl
   dsimp only [chR] at d2
   generalize x 2=z2 at *
   subst d2
   go_simp
   exact hK.out _ _ (Below.refl _ _) rfl
  ·clear hi
   have d3:=hd ⟨3,.data⟩ (by simp) rfl
   dsimp only [chR] at d3
   generalize x 3=z3 at *
   subst d3
   have q0:=NK.out w1 hb
   go_simp
   exact hK.out _ _ (Below.refl _ _) rfl
  ·clear hi
   have q0:w1.cell? ⟨bl,0,none⟩=some (.slice (some ⟨g,0,none⟩) n c):=(BX.out w1 hb).blk.cell 0
   go_simp
   exact hK.out _ _ (Below.refl _ _) rfl
  ·clear hi
   have d5:=hd ⟨5,.data⟩ (by simp) rfl
   dsimp only [chR] at d5
   generalize x 5=z5 at *
   subst d5
   go_simp
   exact hK.out _ _ (Below.refl _ _) rfl
  ·clear hi
   have d6:=hd ⟨6,.data⟩ (by simp) rfl
   dsimp only [chR] at d6
   generalize x 6=z6 at *
   subst d6
   go_simp
   exact hK.out _ _ (below_alloc1 _ _) ⟨_,rfl,Blk.start w1 #[.int .i64 n] 3⟩
 ·intro o ho x w1 hb hx K' hK
  have e:=Option.some.inj ho
  subst e
  have d4:=hx 4 (by decide)
  have d7:=hx 7 (by decide)
  dsimp only [chR] at d4 d7
  generalize x 4=z4 at *
  generalize x 7=z7 at *
  obtain ⟨h,rfl,Bh⟩:=d7
  subst d4
  refine ZP _ rfl _ _ 23 rfl B 3 iI (.int .i64 0) 1 8 Tryz.underlying23 hiI zI0 zI1 zI2 rfl (by decide) x1.1.2.2 x1.2.kids.length (x1.2.kids.map (Value.int .i64)) rfl (Ze KO.out hb) w1.heap.size (some ⟨h,0,none⟩) 1 1 [.int .i64 n] rfl (Zds Bh rfl) (fun u hu=>by rw [List.mem_singleton.1 hu];rfl) (by have:=HN.out.2.1;have e9:maxLen=9223372036854775807:=rfl;omega) (by have:=HN.out.2.1;omega) (Nat.le_trans HN.out.2.2.1 hb.size) ?_
  intro v' w' hown hgrow hat
  exact hK.out _ _ ⟨w1,hb,hgrow,hown,hat⟩
 ·intro i o hi him hik ho x w1 hC hd K' hK
  have hi:=of_decide_eq_false hi
  have hc:i=0\/i=9\/i=10:=by omega
  rcases hc with rfl | rfl | rfl<;>(have e:=Option.some.inj ho;subst e)
  ·have q0:w1.cell? ⟨bl,0,none⟩=some (.slice (some ⟨g,0,none⟩) n c):=by
    rcases hC with hb | ⟨w2,hb,hgr,_⟩
    ·exact (BX.out w1 hb).blk.cell 0
    ·exact ((BX.out w2 hb).grown hgr HN.out.1).blk.cell 0
   clear hC
   go_simp
   exact hK.out _ rfl
  ·have d0:=hd ⟨0,.data⟩ (by simp) rfl (by decide) (by decide)
   dsimp only [chR] at d0
   generalize x 0=z0 at *
   clear hC
   subst d0
   go_simp
   exact hK.out _ rfl
  ·have d9:=hd ⟨9,.data⟩ (by simp) rfl (by decide) (by decide)
   dsimp only [chR] at d9
   generalize x 9=z9 at *
   clear hC
   subst d9
   go_simp
   exact hK.out _ rfl
 ·intro o ho x w1 hE hx K' hK
  have e:=Option.some.inj ho
  subst e
  have d10:=hx 10 (by decide) (by decide) (by decide)
  dsimp only [chR] at d10
  generalize x 10=z10 at *
  subst d10
  generalize x 8=z8 at *
  obtain ⟨w0,hb,hgr,hown,hat⟩:=hE
  obtain ⟨A8,c8,rfl⟩:=Zl hown
  have T1:=(TG.out w0 hb).grown hgr HN.out.2.2.2.1
  have s8:w1.cell? ⟨g,8,none⟩=some u8:=(T1.blk.cell 8).trans HN.out.2.2.2.2.1
  have f8:=T1.blk.free 8
  clear T1
  go_simp
  exact hK.out _ ⟨w0,w1,_,hb,hgr,hown,hat,rfl⟩
 ·intro x9 w3 hF
  obtain ⟨w1,w2,v,hb,hgr,hown,hat,e3⟩:=hF
  generalize x9 0=y0 at *
  generalize x9 1=y1 at *
  generalize x9 2=y2 at *
  generalize x9 3=y3 at *
  generalize x9 4=y4 at *
  generalize x9 5=y5 at *
  generalize x9 6=y6 at *
  generalize x9 7=y7 at *
  generalize x9 8=y8 at *
  generalize x9 9=y9 at *
  generalize x9 10=y10 at *
  have hown':w2.ownsRow B 3 1 v (x1.2.kids++[(n:Int)]).length ((x1.2.kids++[(n:Int)]).map (Value.int .i64)):=by rw [List.length_append,List.map_append];exact hown
  have R3:RowO w3 B (.slice (some ⟨g,0,none⟩) n c) (rs.set 1 ((x1.1.1,x1.1.2.1,v),⟨x1.2.kind,x1.2.words,x1.2.nums,x1.2.kids++[(n:Int)],x1.2.pos⟩)):=by
   rw [e3]
   exact RowO.kputI (i:=1) (o:=8) (RO.out.keep hb) HR.out.1.symm HR.out.2.1 rfl HR.out.2.2 hgr hown'
  have T3:Zd w3 bl 28 #[.slice (some ⟨g,0,none⟩) n c]:=by rw [e3];exact ((BX.out w1 hb).grown hgr HN.out.1).other HN.out.2.2.2.2.2.1 _
  have X3:Zd w3 bx 27 #[.int .i64 xk,xw,xu,.slice none 0 0,.int .i64 xp]:=by rw [e3];exact ((TX.out w1 hb).grown hgr HN.out.2.2.2.2.2.2.1).other HN.out.2.2.2.2.2.2.2.1 _
  have O1:=XO.out.keep hb
  have K1:=Ze KO.out hb
  have O3:NdO w3 B ((xw,xu,.slice none 0 0),⟨xk,xwl,xul,[],xp⟩):=by
   rw [e3]
   have own1:=ZX (RO.out.keep hb).own K1 (by decide) hgr
   have a:=ZX O1.ws K1 (by decide) hgr
   have b:=ZX O1.us K1 (by decide) hgr
   exact ⟨Zg a (Zaa own1 a (by decide) g rfl),Zg b (Zaa own1 b (by decide) g rfl),World.ownsRow_nil _ _ _ _,O1.wl⟩
  have b3:Below B w w3:=by
   rw [e3]
   have b1:=WB.out.1.trans (hb.mono WB.out.2)
   exact (b1.grown hgr (Nat.le_trans WB.out.2 hb.size) (fun q hq=>(KO.out.lt q hq).1)).setCell HN.out.2.2.2.2.2.2.2.2 _
  have HV:=zh (show ∀ b,v.ownBlock=some b->x1.1.2.2.ownBlock=some b\/W.heap.size<=b from fun b hb'=>by
   rcases hat with q | q
   ·exact .inl (q▸hb')
   ·rw [q] at hb'
    injection hb' with hb'
    have:=hb.size
    exact .inr (by omega))
  have H3:=zh (zi R3 (zi T3 (zi O3 b3)))
  have q0:w3.cell? ⟨bl,0,none⟩=some (.slice (some ⟨g,0,none⟩) n c):=T3.blk.cell 0
  have p0:w3.cell? ⟨bx,0,none⟩=some (.int .i64 xk):=X3.blk.cell 0
  have p1:w3.cell? ⟨bx,1,none⟩=some xw:=X3.blk.cell 1
  have p2:w3.cell? ⟨bx,2,none⟩=some xu:=X3.blk.cell 2
  have p3:w3.cell? ⟨bx,3,none⟩=some (.slice none 0 0):=X3.blk.cell 3
  have p4:w3.cell? ⟨bx,4,none⟩=some (.int .i64 xp):=X3.blk.cell 4
  have TLH:=zh (T3.keep (below_alloc1 w3 (.cells #[.int .i64 xk,xw,xu,.slice none 0 0,.int .i64 xp] 27)))
  have N3:=zh (Blk.start w3 #[.int .i64 xk,xw,xu,.slice none 0 0,.int .i64 xp] 27)
  have RL:=zh (R3.keep (below_alloc1 w3 (.cells #[.int .i64 xk,xw,xu,.slice none 0 0,.int .i64 xp] 27)))
  clear R3 T3 X3 O1 K1 O3 b3 hb hgr hown hown' hat e3 BX NK TX TG
  obtain ⟨LR,hLR⟩:∃ LR,LR=rs.set 1 ((x1.1.1,x1.1.2.1,v),⟨x1.2.kind,x1.2.words,x1.2.nums,x1.2.kids++[(n:Int)],x1.2.pos⟩):=⟨_,rfl⟩
  rw [<- hLR] at RL
  have LL:=zh (show LR.length=n by rw [hLR,List.length_set];exact HR.out.1)
  have HLR:=zh hLR
  clear hLR
  have OW:=zh (show (w3.alloc (.cells #[.int .i64 xk,xw,xu,.slice none 0 0,.int .i64 xp] 27)).ownsRow B 27 5 (.slice (some ⟨g,0,none⟩) n c) n (Zs LR) from by have:=RL.out.own;rwa [LL.out] at this)
  have RD:=zh (show Zr (w3.alloc (.cells #[.int .i64 xk,xw,xu,.slice none 0 0,.int .i64 xp] 27)) (w3.heap.size+1) 5 (some ⟨w3.heap.size,0,none⟩) 1 (Zs [((xw,xu,.slice none 0 0),⟨xk,xwl,xul,[],xp⟩)]) from by have:=Zds (n:=1) (size:=5) (us:=Zs [((xw,xu,.slice none 0 0),⟨xk,xwl,xul,[],xp⟩)]) N3.out rfl;rwa [World.size_alloc] at this)
  have BS:=zh (show B<=(w3.alloc (.cells #[.int .i64 xk,xw,xu,.slice none 0 0,.int .i64 xp] 27)).heap.size from by have:=H3.out.2.2.2.size;have:=HBw.out;rw [World.size_alloc];omega)
  have OC:=zh (ZhH H3.out.2.2.1)
  go_wp2_with (at_builtin;refine ZV _ rfl _ _ 28 rfl B 27 iN (.agg #[.int .i64 0,.slice none 0 0,.slice none 0 0,.slice none 0 0,.int .i64 0]) 5 88 Tryz.underlying28 hiN zN0 zN1 zN2 rfl (by decide) _ n (Zs LR) rfl OW.out (w3.heap.size+1) (some ⟨w3.heap.size,0,none⟩) 1 1 (Zs [((xw,xu,.slice none 0 0),⟨xk,xwl,xul,[],xp⟩)]) rfl RD.out OC.out (by have:=HM.out;have e9:maxLen=9223372036854775807:=rfl;omega) (by have:=HM.out;omega) BS.out ?_)
  intro V5 w5 hown5 hgrow5 hat5
  obtain ⟨A5,c5,rfl⟩:=Zl hown5
  have R5:RowO w5 B (.slice A5 (n+1) c5) (LR++[((xw,xu,.slice none 0 0),⟨xk,xwl,xul,[],xp⟩)]):=RL.out.push (H3.out.2.2.1.keep (below_alloc1 _ _)) (by rw [LL.out];exact hown5) hgrow5
  have T5:=TLH.out.grown hgrow5 (fun e=>TLH.out.off RL.out.own (by decide) e)
  have b5:Below B w w5:=(H3.out.2.2.2.alloc (by have:=H3.out.2.2.2.size;have:=HBw.out;omega) _).grown hgrow5 (by rw [World.size_alloc];have:=H3.out.2.2.2.size;have:=HBw.out;omega) (fun q hq=>(RL.out.own.lt q hq).1)
  have s5:w5.cell? ⟨bl,0,none⟩=some (.slice (some ⟨g,0,none⟩) n c):=T5.blk.cell 0
  have f5:=T5.blk.free 0
  have F5:=zh (zi R5 (zi T5 b5))
  clear R5 T5 b5 hown5 hgrow5 hat5 q0 p0 p1 p2 p3 p4
  go_wp2_with fail
  go_end0
  have h1n:1<rs.length:=by have:=HM.out;have:=HR.out.1;omega
  refine ⟨rfl,_,⟨F5.out.2.1.set 0 _,LR++[((xw,xu,.slice none 0 0),⟨xk,xwl,xul,[],xp⟩)],((x1.1.1,x1.1.2.1,v),⟨x1.2.kind,x1.2.words,x1.2.nums,x1.2.kids++[(n:Int)],x1.2.pos⟩),F5.out.1.other F5.out.2.1,?_,?_,?_⟩,F5.out.2.2.setCell HM.out.2.2.1 _⟩
  ·unfold Zbo
   rw [HM.out.2.2.2.2.2,List.map_append,HLR.out,List.map_set,HM.out.2.2.2.2.1,<- HR.out.1,<- HM.out.2.2.2.2.1,List.length_map]
   rfl
  ·rw [HLR.out,List.getElem?_append_left (by rw [List.length_set];exact h1n),List.getElem?_set_self h1n]
  ·intro j z hj hz b hzb
   dsimp only
   intro hvb
   rw [HLR.out] at hz
   rcases Nat.lt_or_ge j rs.length with hlt | hge
   ·rw [List.getElem?_append_left (by rw [List.length_set];exact hlt),List.getElem?_set_ne (fun q=>hj q.symm)] at hz
    rcases HV.out b hvb with q | q
    ·exact HR.out.2.2 j z hj hz b hzb q
    ·have:=(RO.out.each z (List.mem_of_getElem? hz)).ks.lt b hzb
     omega
   ·rw [List.getElem?_append_right (by rw [List.length_set];exact hge)] at hz
    have:=List.mem_of_getElem? hz
    rw [List.mem_singleton] at this
    rw [this] at hzb
    cases hzb
end
end Go.Proofs.YtkgkmdhpnhmcpaaGreatDoor
