import Derived.Test.YtaacbenikcbibabGreatDoorQAK
import Derived.Test.YtaacbenikcbibabGreatDoorQAO
import Derived.Test.YtaacbenikcbibabGreatDoorQAP
set_option maxRecDepth 100000
set_option maxHeartbeats 8000000
namespace Go.Proofs.YtaacbenikcbibabGreatDoor
section
open Go.RowKit
theorem Zcc {w:World} {base:Nat} {e:TypeId} {v:Value} {l:List Int} (h:w.ownsRow base e 1 v l.length (l.map (Value.int .i64))):ZL w v l:=by
 obtain ⟨A,c,rfl⟩:=Zm h
 obtain ⟨h1,h2,h3⟩:=Zab h
 exact ⟨A,c,rfl,h1,h2,h3⟩
theorem Ze2 {w:World} {base:Nat} {e:TypeId} {v:Value} {l:List (List UInt8)} (h:w.ownsRow base e 1 v l.length (l.map txt)) (hl:∀ s∈l,s.length<=maxLen):Za0 w v l:=by
 obtain ⟨A,c,rfl⟩:=Zm h
 obtain ⟨h1,h2,h3⟩:=Zab h
 exact ⟨A,c,rfl,h1,h2,h3,hl⟩
structure NdO (w:World) (B:Nat) (x:NdV×Nd):Prop where
 ws:w.ownsRow B 9 1 x.1.1 x.2.words.length (x.2.words.map txt)
 us:w.ownsRow B 2 1 x.1.2.1 x.2.nums.length (x.2.nums.map (Value.int .i64))
 ks:w.ownsRow B 3 1 x.1.2.2 x.2.kids.length (x.2.kids.map (Value.int .i64))
 wl:∀ s∈x.2.words,s.length<=maxLen
theorem NdO.at_ {w:World} {B:Nat} {x:NdV×Nd} (h:NdO w B x):ZO w x:=⟨Ze2 h.ws h.wl,Zcc h.us,Zcc h.ks⟩
theorem NdO.keep {w w':World} {B:Nat} {x:NdV×Nd} (h:NdO w B x) (hb:Below w.heap.size w w'):NdO w' B x:=⟨Zf h.ws hb,Zf h.us hb,Zf h.ks hb,h.wl⟩
theorem Zaa {w w':World} {base base' n n' size size':Nat} {e e':TypeId} {v v':Value} {xs xs':List Value} (h:w.ownsRow base e size v n xs) (h':w.ownsRow base' e' size' v' n' xs') (hne:e≠e') (hg:w.grownBy w' v'.ownBlock):w'.ownsRow base e size v n xs:=
 h.kept hg (by
  cases q:v.ownBlock with
  | none=>exact .inl rfl
  | some b=>exact .inr fun e=>Zar h h' hne b q e.symm)
theorem NdO.grown {w w':World} {B base n size:Nat} {e:TypeId} {v:Value} {xs:List Value} {x:NdV×Nd} (h:NdO w B x) (ho:w.ownsRow base e size v n xs) (h1:9≠e) (h2:2≠e) (h3:3≠e) (hg:w.grownBy w' v.ownBlock):NdO w' B x:=
 ⟨Zaa h.ws ho h1 hg,Zaa h.us ho h2 hg,Zaa h.ks ho h3 hg,h.wl⟩
structure RowO (w:World) (B:Nat) (v:Value) (rs:List (NdV×Nd)):Prop where
 own:w.ownsRow B 27 5 v rs.length (Zu rs)
 each:∀ x∈rs,NdO w B x
theorem RowO.keep {w w':World} {B:Nat} {v:Value} {rs:List (NdV×Nd)} (h:RowO w B v rs) (hb:Below w.heap.size w w'):RowO w' B v rs:=⟨Zf h.own hb,fun x hx=>(h.each x hx).keep hb⟩
theorem RowO.push {w w':World} {B:Nat} {v v':Value} {rs:List (NdV×Nd)} {x:NdV×Nd} (h:RowO w B v rs) (hx:NdO w B x) (hown:w'.ownsRow B 27 5 v' (rs.length+1) (Zu rs++Zu [x])) (hg:w.grownBy w' v.ownBlock):RowO w' B v' (rs++[x]):=by
 refine ⟨by rw [List.length_append,Za4];exact hown,fun y hy=>?_⟩
 rcases List.mem_append.mp hy with hy | hy
 ·exact (h.each y hy).grown h.own (by decide) (by decide) (by decide) hg
 ·rw [List.mem_singleton] at hy
  subst hy
  exact hx.grown h.own (by decide) (by decide) (by decide) hg
theorem RowO.nodes {w:World} {B:Nat} {v:Value} {rs:List (NdV×Nd)} (h:RowO w B v rs):Zo w v (rs.map (·.2)):=by
 obtain ⟨A,c,rfl⟩:=Zm h.own
 obtain ⟨h1,h2,h3⟩:=Zab h.own
 exact ⟨A,c,rs,by rw [List.length_map],by rw [List.length_map];exact h1,h2,rfl,by rw [List.length_map];exact h3,fun x hx=>(h.each x hx).at_⟩
theorem Zbv:∀ (rs:List (NdV×Nd)) (i:Nat) (x:NdV×Nd) (rv:Value) (ks:List Int),rs[i]? = some x->Zu (rs.set i ((x.1.1,x.1.2.1,rv),⟨x.2.kind,x.2.words,x.2.nums,ks,x.2.pos⟩))=(Zu rs).set (i*5+3) rv
 | [],i,x,rv,ks,h=>by simp at h
 | y::r,0,x,rv,ks,h=>by
  obtain rfl:y=x:=by simpa using h
  rfl
 | y::r,i+1,x,rv,ks,h=>by
  rw [List.getElem?_cons_succ] at h
  rw [List.set_cons_succ,Zu,Zu,Zbv r i x rv ks h,show (i+1)*5+3=(i*5+3)+1+1+1+1+1 by omega]
  rfl
theorem RowO.kids {w:World} {B g c n i:Nat} {x:NdV×Nd} {rs:List (NdV×Nd)} {rv:Value} {ks:List Int} (h:RowO w B (.slice (some ⟨g,0,none⟩) n c) rs) (hn:n=rs.length) (hx:rs[i]? = some x) (hr:w.ownsRow B 3 1 rv ks.length (ks.map (Value.int .i64))) :
  RowO (w.setCell ⟨g,i*5+3,none⟩ rv) B (.slice (some ⟨g,0,none⟩) n c) (rs.set i ((x.1.1,x.1.2.1,rv),⟨x.2.kind,x.2.words,x.2.nums,ks,x.2.pos⟩)):=by
 subst hn
 have off:=Zar h.own hr (by decide) g rfl
 have past:∀ z,NdO w B z->NdO (w.setCell ⟨g,i*5+3,none⟩ rv) B z:=fun z hz=>
  ⟨Zk hz.ws (Zar h.own hz.ws (by decide) g rfl),Zk hz.us (Zar h.own hz.us (by decide) g rfl),Zk hz.ks (Zar h.own hz.ks (by decide) g rfl),hz.wl⟩
 have s:=(World.ownsRow.stored h.own (i*5+3) rv).1
 rw [<- Zbv rs i x rv ks hx] at s
 refine ⟨by rw [List.length_set];exact s,fun y hy=>?_⟩
 rcases List.mem_or_eq_of_mem_set hy with hy | rfl
 ·exact past y (h.each y hy)
 ·have px:=past x (h.each x (List.mem_of_getElem? hx))
  exact ⟨px.ws,px.us,Zk hr off,px.wl⟩
theorem Zid:(Tryz.prog.info? 27).map (fun i=>(i.zero,i.size,i.bytes))=some (some (.agg #[.int .i64 0,.slice none 0 0,.slice none 0 0,.slice none 0 0,.int .i64 0]),5,88):=by kernel_rfl
theorem Zed:(Tryz.prog.info? 3).map (fun i=>(i.zero,i.size,i.bytes))=some (some (.int .i64 0),1,8):=by kernel_rfl
theorem ZeE (w:World) (cs:Array Value) (ty:TypeId) (size n:Nat) (hs:cs.size=n*size) (hn:n<=maxLen):(w.alloc (.cells cs ty)).ownsRow w.heap.size ty size (.slice (some ⟨w.heap.size,0,none⟩) n n) n cs.toList:=
 ⟨by rw [Array.length_toList];exact hs,.inr ⟨_,n,cs,rfl,Nat.le_refl _,Ze.start w cs ty,Nat.le_refl _,hn,hs,by rw [<- hs,<- Array.length_toList,List.take_length]⟩⟩
end
section
open Go.RowKit
def Zbx (F:Nat):Prop:=∀ (args:Array Value) (w:World),Sem.run Tryz.prog (callFunc F args) w=.ok (.enter F args) w
theorem Zca {f:FuncId} {fn:Func} {c:Code} (hf:Tryz.prog.funcs[f]? = some fn) (hname:(fn.name=="runtime.NumGoroutine")=false) (hb:fn.body=some c):Zbx f:=fun args w=>by
 have h1:fn.name≠"runtime.NumGoroutine":=by simpa using hname
 simp [callFunc,hf,h1,hb,go_sem]
abbrev ndW (x:NdV×Nd):Value:=.agg #[.int .i64 x.2.kind,x.1.1,x.1.2.1,x.1.2.2,.int .i64 x.2.pos]
def Zec (ks:List Int) (n:Nat):Prop:=∀ k∈ks,0<=k/\k<(n:Int)
theorem Zcu (F:Nat) (caps:Array Value) (hF:Zbx F) (w0 w:World) (Al:Option Addr) (cl:Nat) (rs:List (NdV×Nd)) (x:NdV×Nd) (kind:Int) (R:Nat->World->Prop)
  (hR:Zs w0 w0.heap.size 5 Al rs.length (Zu rs)) (hN:∀ y∈rs,ZO w0 y) (hl:rs.length<=maxLen) (hx:ZO w0 x) (hk:Zec x.2.kids rs.length) (hb:Below w0.heap.size w0 w) (h0:R 0 w) (hS:∀ (k:Nat) (w w':World),R k w->Below w.heap.size w w'->R k w')
  (hf:∀ (i:Nat) (j:Nat) (y:NdV×Nd) (wr:World),x.2.kids[i]? = some (j:Int)->rs[j]? = some y->Below w0.heap.size w0 wr->R i wr ->
   (y.2.kind=kind->Calls Tryz.prog F (#[ndW y]++caps) wr fun e w'=>e=.returned (.tuple #[])/\Below w0.heap.size w0 w'/\R (i+1) w')/\(y.2.kind≠kind->R (i+1) wr)) :
  Calls Tryz.prog 12 #[.slice Al rs.length cl,ndW x,.int .i64 kind,.func (.func F) #[] caps] w fun e w'=>e=.returned (.tuple #[])/\Below w0.heap.size w0 w'/\R x.2.kids.length w':=by
 obtain ⟨⟨xw,xu,xk⟩,kd,ws,nums,ks,ps⟩:=x
 obtain ⟨hx1,hx2,hx3⟩:=hx
 dsimp only at hx1 hx2 hx3 hk hf ⊢
 obtain ⟨Aw,cw,rfl,_⟩:=hx1
 obtain ⟨Au,cu,rfl,_⟩:=hx2
 obtain ⟨Ak,ck,rfl,hk1,hk2,hK⟩:=hx3
 have a1:=Za w (.cells #[.int .i64 kd,.slice Aw ws.length cw,.slice Au nums.length cu,.slice Ak ks.length ck,.int .i64 ps] 27)
 have B1:=Blk.start w #[.int .i64 kd,.slice Aw ws.length cw,.slice Au nums.length cu,.slice Ak ks.length ck,.int .i64 ps] 27
 have HO:=Lib.hid (And.intro hR (And.intro hN (And.intro hl (And.intro hk (And.intro hK (And.intro hf (And.intro hk1 hk2)))))))
 have S0:=Lib.hid (And.intro (hb.trans (a1.mono hb.size)) (hS 0 _ _ h0 a1))
 clear hR hN hl hk hK hf hb h0 hk1 hk2 a1 hS
 go_enter Tryz.func12,Tryz.ntmps12
 go_upto_region 1 with fail
 generalize w.alloc (.cells #[.int .i64 kd,.slice Aw ws.length cw,.slice Au nums.length cu,.slice Ak ks.length ck,.int .i64 ps] 27)=W at *
 have c3:=B1.cell 3
 simp only [List.getElem?_toArray,List.getElem?_cons_zero,List.getElem?_cons_succ] at c3
 clear B1
 go_wp2_with fail
 go_loopg [13] ks.length (fun g v13 wr=>∃ k:Nat,v13=.int .i64 k/\k<=ks.length/\g=ks.length-k/\Below w0.heap.size w0 wr/\R k wr)
 case atStart=>exact ⟨0,rfl,Nat.zero_le _,rfl,S0.out.1,S0.out.2⟩
 case round=>
  obtain ⟨k,rfl,hkk,hg,hb,hr⟩:=hrel
  by_cases hkn:k=ks.length
  ·have j1:decide (k<ks.length)=false:=decide_eq_false (by omega)
   have FIN:=Lib.hid (And.intro hb (show R ks.length wr by rw [<- hkn];exact hr))
   clear hkk hg hb hr hkn
   go_wp2_with fail
   go_end0
   exact ⟨rfl,FIN.out⟩
  ·have hlt:k<ks.length:=by omega
   obtain ⟨y,hy⟩:∃ y,ks[k]? = some y:=⟨_,List.getElem?_eq_getElem hlt⟩
   obtain ⟨hy0,hyn⟩:=HO.out.2.2.2.1 y (List.mem_of_getElem? hy)
   obtain ⟨j,rfl⟩:=Int.eq_ofNat_of_zero_le hy0
   have hnl:j<rs.length:=by omega
   obtain ⟨r,hrj⟩:∃ r,rs[j]? = some r:=⟨_,List.getElem?_eq_getElem hnl⟩
   obtain ⟨ak,rfl,q0⟩:=ZC HO.out.2.2.2.2.1 hb hy (by omega)
   obtain ⟨an,rfl,n0,n1,n2,n3,n4⟩:=ZW HO.out.1 hb hrj (by omega)
   obtain ⟨h61,h62,h63⟩:=HO.out.2.1 r (List.mem_of_getElem? hrj)
   have CF:=HO.out.2.2.2.2.2.1 k j r wr hy hrj hb hr
   obtain ⟨⟨yw,yu,yk⟩,kd2,ws2,nums2,ks2,ps2⟩:=r
   dsimp only at h61 h62 h63 n0 n1 n2 n3 n4 CF
   obtain ⟨Bw,dw,rfl,_⟩:=h61
   obtain ⟨Bu,du,rfl,_⟩:=h62
   obtain ⟨Bk,dk,rfl,_⟩:=h63
   have j1:(k:Int)<(ks.length:Int):=by omega
   have j2:(0:Int)<=(k:Int):=by omega
   have i1:(j:Int)<(rs.length:Int):=by omega
   have i2:(0:Int)<=(j:Int):=by omega
   have wk:IntKind.i64.wrap ((k:Int)+1)=(k:Int)+1:=IntWalk.i64_in _ (by have:=HO.out.2.2.2.2.2.2.1;have:=HO.out.2.2.2.2.2.2.2;have e:maxLen=9223372036854775807:=rfl;omega)
   have HK:=Lib.hid (And.intro hlt (And.intro hg hb))
   by_cases q:kd2=kind
   ·have C1:=Lib.hid (CF.1 q)
    have q2:(kd2==kind)=true:=beq_iff_eq.mpr q
    have door:=hF
    unfold Zbx at door
    clear hkn hlt hkk hg hb hr hy hrj CF q hy0 hyn hnl
    unfold ndW at C1
    dsimp only at C1
    go_wp2_with (with_reducible refine C1.out.mono ?_;rintro e w1 ⟨rfl,hb1,hr1⟩;have H1:=Lib.hid (And.intro hb1 hr1);clear hb1 hr1)
    go_roundg (ks.length-(k+1))
    case measure=>have:=HK.out.1;have:=HK.out.2.1;omega
    case rel=>exact ⟨k+1,by push_cast;rfl,HK.out.1,rfl,H1.out⟩
   ·have C1:=Lib.hid (CF.2 q)
    have q2:(kd2==kind)=false:=beq_eq_false_iff_ne.mpr q
    clear hkn hlt hkk hg hb hr hy hrj CF q hy0 hyn hnl
    go_wp2_with fail
    go_roundg (ks.length-(k+1))
    case measure=>have:=HK.out.1;have:=HK.out.2.1;omega
    case rel=>exact ⟨k+1,by push_cast;rfl,HK.out.1,rfl,HK.out.2.2,C1.out⟩
end
end Go.Proofs.YtaacbenikcbibabGreatDoor
