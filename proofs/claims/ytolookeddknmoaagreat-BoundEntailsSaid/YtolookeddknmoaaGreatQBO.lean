import Derived.Test.YtolookeddknmoaaGreatQBL
set_option maxRecDepth 100000
set_option maxHeartbeats 8000000
namespace Go.Proofs.YtolookeddknmoaaGreat
section
open Go.RowKit
theorem ZeQ:∀ (l:List (Value×Rw)) (_:∀ x∈l,∃ A n c,x.1=.slice A n c),∀ u∈Zt l,u.oneCell'=true
 | [],_,u,h=>by cases h
 | x::r,hx,u,h=>by
  rw [Zt,List.mem_cons,List.mem_cons,List.mem_cons,List.mem_cons] at h
  rcases h with rfl | rfl | rfl | rfl | h
  ·rfl
  ·obtain ⟨A,n,c,e⟩:=hx x (by simp)
   rw [e]
   rfl
  ·rfl
  ·rfl
  ·exact ZeQ r (fun y hy=>hx y (by simp [hy])) u h
theorem ZpO (w:World) (ad:Addr) (n c:Nat):(binOp .eql 22 (.slice (some ad) n c) (.slice none 0 0)).run Tryz.prog w=.ok (.bool false) w:=by kernel_rfl
theorem ZoD (w:World) (n c:Nat):(binOp .eql 22 (.slice none n c) (.slice none 0 0)).run Tryz.prog w=.ok (.bool true) w:=by kernel_rfl
theorem Zgd (w:World):(w.alloc (.cells #[] 29)).ownsRow w.heap.size 29 4 (.slice (some ⟨w.heap.size,0,none⟩) 0 0) 0 []:=
 ⟨rfl,.inr ⟨w.heap.size,0,#[],rfl,Nat.le_refl _,heap_alloc_new w _,Nat.le_refl _,by decide,rfl,rfl⟩⟩
def Zqa (w:World) (ts:List Rw) (e:Ending) (w':World):Prop:=∃ A c,e=.returned (.slice A ts.length c)/\Zaw w' w.heap.size (.slice A ts.length c) ts (fun b=>w.heap.size<=b)/\Below w.heap.size w w'
theorem Znl (w:World) (v:Value) (ts:List Rw) (h:ZD w v ts) (hl:ts.length<=1000) :
  Calls Tryz.prog 39 #[v] w (Zqa w ts):=by
 obtain ⟨i0,hi,hz0,hz1,hz2⟩:=info_parts Zc6
 obtain ⟨A,c,rs,rfl,h2,h3,h4,h5,h6⟩:=h
 rcases A with _ | ad
 ·have hn:ts=[]:=by
   rcases Nat.eq_zero_or_pos ts.length with h0 | h0
   ·exact List.eq_nil_of_length_eq_zero h0
   ·obtain ⟨_,e,_⟩:=h5.2 h0
    cases e
  subst hn
  have hq:=ZoD w 0 c
  clear h2 h3 h4 h5 h6 hl
  go_enter Tryz.func39,Tryz.ntmps39
  go_wp2_with fail
  go_ret
  exact ⟨_,_,rfl,Zaw.nil w _ _,Below.refl _ _⟩
 ·have hq:=ZpO w ad ts.length c
  have one:∀ u∈Zt rs,u.oneCell'=true:=ZeQ rs fun x hx=>by
   obtain ⟨A',c',e⟩:=Zd (h6 x hx)
   exact ⟨_,_,_,e⟩
  have ON:=Lib.hid (And.intro one (And.intro h4 (And.intro h6 hl)))
  clear one h4 h6 hl
  go_enter Tryz.func39,Tryz.ntmps39
  go_wp2_with (at_builtin;refine Zm _ rfl _ _ 22 rfl w.heap.size 29 i0 (.agg #[.int .i64 0,.slice none 0 0,.int .i64 0,.int .i64 0]) 4 48 Tryz.underlying22 hi hz0 hz1 hz2 rfl (by decide) _ 0 [] rfl (Zgd w) w.heap.size (some ad) _ c _ rfl (h5.alloc (Nat.le_refl _) _) ?c2 ?c3 ?c4 ?c5 ?_)
  case c2=>exact ON.out.1
  case c3=>have:=ON.out.2.2.2;unfold maxLen;omega
  case c4=>have:=ON.out.2.2.2;omega
  case c5=>simp
  intro v' w1 hown' hgrow _
  have hown2:w1.ownsRow w.heap.size 29 4 v' ts.length (Zt rs):=by simpa using hown'
  have hb:Below w.heap.size w w1:=by
   refine (Za w _).grown hgrow (by simp) (fun k hk=>?_)
   have e:w.heap.size=k:=by simpa [Value.ownBlock] using hk
   omega
  have hT:Zaw w1 w.heap.size v' ts (fun b=>w.heap.size<=b):=by
   refine ⟨rs,ON.out.2.1,hown2,fun x hx=>⟨(ON.out.2.2.1 x hx).below hb,fun hl b hb' q=>?_⟩⟩
   have:=(ON.out.2.2.1 x hx).lt hl b hb'
   omega
  obtain ⟨A',c',e',hT'⟩:∃ A' c',v'=.slice A' ts.length c'/\Zaw w1 w.heap.size (.slice A' ts.length c') ts (fun b=>w.heap.size<=b):=by
   obtain ⟨A',c',_,e,_⟩:=hT.rows
   exact ⟨A',c',e,e▸hT⟩
  subst e'
  have FIN:=Lib.hid (And.intro hT' hb)
  clear hown' hown2 hgrow hb h5 hq hT hT'
  go_wp2_with fail
  go_ret
  exact ⟨_,_,rfl,FIN.out.1,FIN.out.2⟩
section
variable {wq wo:World} {A:Prop} {ty:TypeId} {x:Array Value}
theorem ZfE (_:A/\Below wq.heap.size wq (wo.alloc (.cells x ty))):Zbl (wo.alloc (.cells x ty)) 0 wo.heap.size x.toList:=Zav (Nat.zero_le _)
theorem ZeK (_:A/\Below wq.heap.size wq (wo.alloc (.cells x ty)).drew):Zbl (wo.alloc (.cells x ty)).drew 0 wo.heap.size x.toList:=(Zav (wo:=wo) (ty:=ty) (Nat.zero_le _)).keep (Zq _)
theorem ZmJ {o:Obj} {base:Nat} {v:Value} {ts:List Rw} {S:Nat->Prop} (_:A/\Below wq.heap.size wq (wo.alloc o)) (h:Zaw wo base v ts S):Zaw (wo.alloc o) base v ts S:=h.below (Za _ _)
end
theorem Zde {w0 w w':World} {base:Nat} {v v' vt:Value} {ts:List Rw} {t:Rw} {rs:List (Value×Rw)} {S:Nat->Prop} (hS:∀ b,S b->w0.heap.size<=b) (h1:rs.map (·.2)=ts) (hv:∀ b,v.ownBlock=some b->S b) (h3:∀ x∈rs,Zb w x.1 x.2.2.1/\Off S x.1 x.2.2.1)
  (hown:w'.ownsRow base 29 4 v' (ts.length+1) (Zt rs++[.int .i64 t.1,vt,.int .i64 t.2.2.1,.int .i64 t.2.2.2])) (hg:w.grownBy w' v.ownBlock) (hr:Zb w0 vt t.2.1) (hb:Below w0.heap.size w0 w):ZD w' v' (ts++[t]):=
 (Zaw.appended (S:=S) (S':=fun _=>False) h1 h3 hown hg hv (hr.below hb) (fun hl b hb' q=>by have:=hr.lt hl b hb';have:=hS b q;omega) (fun b q=>q.elim)).rows
def Zd5 (z:Int):Int:=if z=0 then 1 else if z=1 then 0 else 2
theorem ZkQ (w:World) (v vr:Value) (l:List Rw) (r:Rw) (h:ZD w v l) (hw:∀ r∈l,ZX r) (hl:l.length<=1000) (hr:Zb w vr r.2.1) (hx:ZX r) :
  Calls Tryz.prog 15 #[v,.agg #[.int .i64 r.1,vr,.int .i64 r.2.2.1,.int .i64 r.2.2.2]] w fun e w'=>e=.returned (.int .i64 (Zd5 (ZbV (l++[r])).2))/\Below w.heap.size w w':=by
 obtain ⟨iR,hiR,zR0,zR1,zR2⟩:=info_parts Zc6
 have hw2:∀ x∈l++[r],ZX x:=fun x hx'=>by
  rcases List.mem_append.1 hx' with q | q
  ·exact hw x q
  ·rw [List.mem_singleton] at q;subst q;exact hx
 have sv:=fun (w':World) (v':Value) (h':ZD w' v' (l++[r]))=>ZfY w' v' (l++[r]) h' hw2
 obtain ⟨xo,xl,x1,x2⟩:=r
 dsimp only at *
 obtain ⟨⟨res,z⟩,hz⟩:∃ q,ZbV (l++[(xo,xl,x1,x2)])=q:=⟨_,rfl⟩
 rw [hz] at sv ⊢
 obtain ⟨A,c,rs,rfl,_,_,_⟩:=id h
 obtain ⟨Ax,cx,rfl⟩:=Zd hr
 have a:=Za w (.cells #[.int .i64 xo,.slice Ax xl.length cx,.int .i64 x1,.int .i64 x2] 29)
 have BB:=Blk.start w #[.int .i64 xo,.slice Ax xl.length cx,.int .i64 x1,.int .i64 x2] 29
 have cl:=fun (w':World) (hb:Below w.heap.size w w')=>Znl w' (.slice A l.length c) l (h.below hb) hl
 obtain ⟨n,hn⟩:∃ n,l.length=n:=⟨_,rfl⟩
 obtain ⟨xn,hxn⟩:∃ xn,xl.length=xn:=⟨_,rfl⟩
 have hra:=hr.below a
 rw [hn] at cl
 rw [hxn] at a BB hra
 have HX:=Lib.hid (And.intro hxn hra)
 have HN:=Lib.hid hn
 have LK:=Lib.hid (show n+1<=maxLen/\(n+1)*48<=140737488355328 from by unfold maxLen;omega)
 have CL:=Lib.hid cl
 have SV:=Lib.hid sv
 have B1:=Lib.hid (And.intro a BB)
 rw [hn,hxn]
 clear sv cl h hw hw2 hx hr hl hz a BB hra hn hxn
 go_enter Tryz.func15,Tryz.ntmps15
 go_upto_region 1 with fail
 generalize hb3:w.heap.size=b3 at *
 generalize hwq:w.alloc (.cells #[.int .i64 xo,.slice Ax xn cx,.int .i64 x1,.int .i64 x2] 29)=wq at *
 have r0:=B1.out.2.cell 0
 have r1:=B1.out.2.cell 1
 have r2:=B1.out.2.cell 2
 have r3:=B1.out.2.cell 3
 have CL:=Lib.hid (fun (w':World) (hb:Below wq.heap.size wq w')=>CL.out w' (Zl hb3 B1.out.1 hb))
 go_cut [5,6] from 7 to 15 (fun v5 v6 wx=>v6=.int .i64 z/\Below wq.heap.size wq wx)
 case first=>
  have STB:=Lib.hid (show ZcD (fun w'=>(((w'.cell? ⟨b3,0,none⟩=some (.int .i64 xo)/\w'.cell? ⟨b3,1,none⟩=some (.slice Ax xn cx))/\(w'.cell? ⟨b3,2,none⟩=some (.int .i64 x1)/\w'.cell? ⟨b3,3,none⟩=some (.int .i64 x2))))/\Below wq.heap.size wq w') from ZC (ZC (ZC (Zz _ _) (Zz _ _)) (ZC (Zz _ _) (Zz _ _))) (ZbD wq))
  have SF:=Lib.hid (fun (w':World) (hb:Below wq.heap.size wq w')=>show (fun w'=>(((w'.cell? ⟨b3,0,none⟩=some (.int .i64 xo)/\w'.cell? ⟨b3,1,none⟩=some (.slice Ax xn cx))/\(w'.cell? ⟨b3,2,none⟩=some (.int .i64 x1)/\w'.cell? ⟨b3,3,none⟩=some (.int .i64 x2))))/\Below wq.heap.size wq w') w' from STB.out wq w' hb ⟨⟨⟨r0,r1⟩,⟨r2,r3⟩⟩,Below.refl _ _⟩)
  have HS:=SF.out wq.drew (Zq _)
  dsimp only at HS
  clear r0 r1 r2 r3
  refine wp_region_noPanic ?_
  refine wp_region_held_drew (S:=(fun w'=>(((w'.cell? ⟨b3,0,none⟩=some (.int .i64 xo)/\w'.cell? ⟨b3,1,none⟩=some (.slice Ax xn cx))/\(w'.cell? ⟨b3,2,none⟩=some (.int .i64 x1)/\w'.cell? ⟨b3,3,none⟩=some (.int .i64 x2))))/\Below wq.heap.size wq w')) (by kernel_rfl) HS (fun hHeld=>?_)
  clear HS
  refine tk 0 rfl ?_
  refine tk 2 rfl ?_
  (try simp only [cl,Act.put])
  refine wpAnyH_ready (rs:=[1,3]) (by kernel_rfl) (by simp) ?_
  refine AllReadyH.cons (o:=_) rfl (fun K hK=>?_) ?_
  ·go_simp
   (first
    | (go_at_call 39;(with_reducible refine (CL.out _ (ZG (by with_reducible assumption))).mono ?_);rintro e5 w5 ⟨A5,c5,rfl,ho5,hb⟩;have HO:=Lib.hid ho5;have HB:=Lib.hid (ZG hHeld).size;(try have NA:=Lib.hid (NA.out.keep hb));clear ho5)
    | (go_at_call 9;(with_reducible refine (SV.out _ _ RA.out).mono ?_);rintro e6 w6 ⟨A6,c6,rfl,_,_,hb⟩))
   go_wp2_with fail
   refine hK.out _ _ (STB.out _ _ hb (by with_reducible assumption)) (fun hH2=>?_)
   clear hK K hHeld hb;have hHeld:=hH2;clear hH2
   (try simp only [cl,Act.put])
   refine rd 3 rfl fun K hK=>?_
   go_simp
   (first | refine hK.out _ _ (Za9 STB.out (by with_reducible assumption)) (fun hH2=>?_) | refine hK.out _ _ (STB.out _ _ (Za _ _) (by with_reducible assumption)) (fun hH2=>?_))
   clear hK K
   (try dsimp only at hH2)
   (first | have NA:=Lib.hid (ZfE hH2) | have NA:=Lib.hid (ZeK hH2))
   (try (have HO:=Lib.hid (ZmJ hH2 HO.out)))
   clear hHeld
   have hHeld:=hH2
   clear hH2
   (try simp only [cl,Act.put])
   refine rd 4 rfl fun K hK=>?_
   obtain ⟨rs2,z1,z2,z3⟩:=HO.out
   refine Zab _ rfl _ _ 22 rfl wq.heap.size 29 iR (.agg #[.int .i64 0,.slice none 0 0,.int .i64 0,.int .i64 0]) 4 48 Tryz.underlying22 hiR zR0 zR1 zR2 rfl (by decide) _ n (Zt rs2) rfl (HN.out▸ZdD z2 HB.out) _ (some _) 1 1 [.int .i64 xo,.slice Ax xn cx,.int .i64 x1,.int .i64 x2] rfl (NA.out.reads rfl) (Zcw _ _ _ _ _ _) (by have:=LK.out;omega) (by have:=LK.out;omega) (ZG hHeld).size (fun v15 w15 hown hgrow hat=>?_)
   have RA:=Lib.hid (Zde (t:=(xo,xl,x1,x2)) (fun b (q:_<=b)=>Nat.le_trans HB.out q) z1 (fun b q=>(World.ownsRow.lt z2 b q).1) z3 (by rw [HN.out];exact hown) hgrow HX.out.2 (ZG hHeld))
   have bb:=(ZG hHeld).grown hgrow (ZG hHeld).size (fun b q=>Nat.le_trans HB.out (World.ownsRow.lt z2 b q).1)
   refine hK.out _ _ (SF.out _ bb) (fun hH2=>?_)
   (try dsimp only at hH2)
   clear hK K hHeld hown hgrow hat z1 z2 z3 NA bb
   have hHeld:=hH2
   clear hH2
   (try simp only [cl,Act.put])
   refine rd 5 rfl fun K hK=>?_
   go_simp
   (first
    | (go_at_call 39;(with_reducible refine (CL.out _ (ZG (by with_reducible assumption))).mono ?_);rintro e5 w5 ⟨A5,c5,rfl,ho5,hb⟩;have HO:=Lib.hid ho5;have HB:=Lib.hid (ZG hHeld).size;(try have NA:=Lib.hid (NA.out.keep hb));clear ho5)
    | (go_at_call 9;(with_reducible refine (SV.out _ _ RA.out).mono ?_);rintro e6 w6 ⟨A6,c6,rfl,_,_,hb⟩))
   go_wp2_with fail
   refine hK.out _ _ (STB.out _ _ hb (by with_reducible assumption)) (fun hH2=>?_)
   clear hK K hHeld hb;have hHeld:=hH2;clear hH2
   (try simp only [cl,Act.put])
   refine tk 6 rfl ?_
   refine tk 7 rfl ?_
   refine tk 8 rfl ?_
   refine tk 9 rfl ?_
   refine tk 10 rfl ?_
   (try simp only [cl,Act.put])
   refine wpAnyH_done (by kernel_rfl) ?_ _
   refine NoPanic.normal ?_
   go_wp2_with fail
   go_meet
   case rel=>exact ⟨rfl,hHeld.2⟩
  refine AllReadyH.cons (o:=_) rfl (fun K hK=>?_) AllReadyH.nil
  go_simp
  (first | refine hK.out _ _ (Za9 STB.out (by with_reducible assumption)) (fun hH2=>?_) | refine hK.out _ _ (STB.out _ _ (Za _ _) (by with_reducible assumption)) (fun hH2=>?_))
  clear hK K
  (try dsimp only at hH2)
  (first | have NA:=Lib.hid (ZfE hH2) | have NA:=Lib.hid (ZeK hH2))
  (try (have HO:=Lib.hid (ZmJ hH2 HO.out)))
  clear hHeld
  have hHeld:=hH2
  clear hH2
  (try simp only [cl,Act.put])
  refine rd 1 rfl fun K hK=>?_
  go_simp
  (first
   | (go_at_call 39;(with_reducible refine (CL.out _ (ZG (by with_reducible assumption))).mono ?_);rintro e5 w5 ⟨A5,c5,rfl,ho5,hb⟩;have HO:=Lib.hid ho5;have HB:=Lib.hid (ZG hHeld).size;(try have NA:=Lib.hid (NA.out.keep hb));clear ho5)
   | (go_at_call 9;(with_reducible refine (SV.out _ _ RA.out).mono ?_);rintro e6 w6 ⟨A6,c6,rfl,_,_,hb⟩))
  go_wp2_with fail
  refine hK.out _ _ (STB.out _ _ hb (by with_reducible assumption)) (fun hH2=>?_)
  clear hK K hHeld hb;have hHeld:=hH2;clear hH2
  (try simp only [cl,Act.put])
  refine rd 4 rfl fun K hK=>?_
  obtain ⟨rs2,z1,z2,z3⟩:=HO.out
  refine Zab _ rfl _ _ 22 rfl wq.heap.size 29 iR (.agg #[.int .i64 0,.slice none 0 0,.int .i64 0,.int .i64 0]) 4 48 Tryz.underlying22 hiR zR0 zR1 zR2 rfl (by decide) _ n (Zt rs2) rfl (HN.out▸ZdD z2 HB.out) _ (some _) 1 1 [.int .i64 xo,.slice Ax xn cx,.int .i64 x1,.int .i64 x2] rfl (NA.out.reads rfl) (Zcw _ _ _ _ _ _) (by have:=LK.out;omega) (by have:=LK.out;omega) (ZG hHeld).size (fun v15 w15 hown hgrow hat=>?_)
  have RA:=Lib.hid (Zde (t:=(xo,xl,x1,x2)) (fun b (q:_<=b)=>Nat.le_trans HB.out q) z1 (fun b q=>(World.ownsRow.lt z2 b q).1) z3 (by rw [HN.out];exact hown) hgrow HX.out.2 (ZG hHeld))
  have bb:=(ZG hHeld).grown hgrow (ZG hHeld).size (fun b q=>Nat.le_trans HB.out (World.ownsRow.lt z2 b q).1)
  refine hK.out _ _ (SF.out _ bb) (fun hH2=>?_)
  (try dsimp only at hH2)
  clear hK K hHeld hown hgrow hat z1 z2 z3 NA bb
  have hHeld:=hH2
  clear hH2
  (try simp only [cl,Act.put])
  refine rd 5 rfl fun K hK=>?_
  go_simp
  (first
   | (go_at_call 39;(with_reducible refine (CL.out _ (ZG (by with_reducible assumption))).mono ?_);rintro e5 w5 ⟨A5,c5,rfl,ho5,hb⟩;have HO:=Lib.hid ho5;have HB:=Lib.hid (ZG hHeld).size;(try have NA:=Lib.hid (NA.out.keep hb));clear ho5)
   | (go_at_call 9;(with_reducible refine (SV.out _ _ RA.out).mono ?_);rintro e6 w6 ⟨A6,c6,rfl,_,_,hb⟩))
  go_wp2_with fail
  refine hK.out _ _ (STB.out _ _ hb (by with_reducible assumption)) (fun hH2=>?_)
  clear hK K hHeld hb;have hHeld:=hH2;clear hH2
  (try simp only [cl,Act.put])
  refine tk 6 rfl ?_
  refine tk 7 rfl ?_
  refine tk 8 rfl ?_
  refine tk 9 rfl ?_
  refine tk 10 rfl ?_
  (try simp only [cl,Act.put])
  refine wpAnyH_done (by kernel_rfl) ?_ _
  refine NoPanic.normal ?_
  go_wp2_with fail
  go_meet
  case rel=>exact ⟨rfl,hHeld.2⟩
 case rest=>
  obtain ⟨rfl,hbq⟩:=hcut
  have b2:=Zl hb3 B1.out.1 hbq
  clear r0 r1 r2 r3 hbq
  have HB:=Lib.hid b2
  clear b2
  by_cases h0:z=0
  ·subst h0
   go_wp2_with fail
   go_ret
   exact ⟨rfl,by rw [hb3];exact HB.out⟩
  ·have e0:(z==0)=false:=by simpa using h0
   by_cases h1:z=1
   ·subst h1
    clear h0
    go_wp2_with fail
    go_ret
    exact ⟨rfl,by rw [hb3];exact HB.out⟩
   ·have e1:(z==1)=false:=by simpa using h1
    have E:=Lib.hid (show Zd5 z=2 from by unfold Zd5;rw [if_neg h0,if_neg h1])
    clear h0 h1
    go_wp2_with fail
    go_ret
    exact ⟨by rw [E.out];rfl,by rw [hb3];exact HB.out⟩
end
end Go.Proofs.YtolookeddknmoaaGreat
