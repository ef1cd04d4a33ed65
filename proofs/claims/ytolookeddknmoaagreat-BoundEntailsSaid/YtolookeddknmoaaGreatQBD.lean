import Derived.Test.YtolookeddknmoaaGreatQBC
set_option maxRecDepth 100000
set_option maxHeartbeats 8000000
namespace Go.Proofs.YtolookeddknmoaaGreat
section
open Go.RowKit
def Zcn (r:Rw):Bool:=!Zcq r.1 r.2.2.1
theorem ZlP (w:World) (v:Value) (r:Rw) :
  Calls Tryz.prog 24 #[.agg #[.int .i64 r.1,v,.int .i64 r.2.2.1,.int .i64 r.2.2.2]] w fun e w'=>e=.returned (.bool (Zcn r))/\Below w.heap.size w w':=by
 obtain ⟨op,l,kn,kd⟩:=r
 dsimp only at *
 have a:=Za w (.cells #[.int .i64 op,v,.int .i64 kn,.int .i64 kd] 29)
 have ME:=Lib.hid (fun (w':World)=>ZmG w' op kn kd)
 have HA:=Lib.hid a
 clear a
 unfold Zcn
 dsimp only
 generalize Zcq op kn=B at *
 go_enter Tryz.func24,Tryz.ntmps24
 go_wp2_with (go_at_call 25;(with_reducible refine (ME.out _).mono ?_);rintro e w1 ⟨rfl,hb⟩)
 go_ret
 exact ⟨rfl,HA.out.trans (hb.mono HA.out.size)⟩
def ZeA (w:World) (pr:Rw->Bool) (ts:List Rw) (e:Ending) (w':World):Prop:=∃ z:Int,e=.returned (.int .i64 z)/\decide (0<=z)=ts.any pr/\Below w.heap.size w w'
theorem ZlM (w:World) (vs:Value) (ts:List Rw) (hw:∀ t∈ts,ZX t) (h:ZD w vs ts) :
  Calls Tryz.prog 43 #[vs,.func (.func 12) #[] #[]] w (ZeA w ZP ts):=by
 obtain ⟨A,c,rs,rfl,h2,h3,h4,h5,h6⟩:=h
 obtain ⟨n,hn⟩:∃ n,n=ts.length:=⟨_,rfl⟩
 have hrn:rs.length=n:=by rw [hn,<- h4,List.length_map]
 have hmx:n<=9223372036854775807:=by unfold maxLen at h3;omega
 rw [<- hn] at h2 h5 ⊢
 have fn:∀ (wx:World) (v:Value) (t:Rw),t∈ts->Zb wx v t.2.1->Calls Tryz.prog 12 #[.agg #[.int .i64 t.1,v,.int .i64 t.2.2.1,.int .i64 t.2.2.2]] wx fun r w'=>r=.returned (.bool (ZP t))/\Below wx.heap.size wx w':=
  fun wx v t ht hr=>Zeq wx v t hr (hw t ht).1 (hw t ht).2.1
 have HN:=Lib.hid (And.intro hrn (And.intro h4 (And.intro hmx (And.intro h6 (And.intro hn fn)))))
 have H5:=Lib.hid h5
 clear hn hrn h2 h3 h4 h5 h6 hmx fn hw
 go_enter Tryz.func43,Tryz.ntmps43
 go_wp2_with fail
 go_loopg [8] n (fun g v8 wr=>∃ k:Nat,v8=.int .i64 k/\k<=n/\g=n-k/\(ts.take k).any ZP=false/\Below w.heap.size w wr)
 case atStart=>exact ⟨0,rfl,Nat.zero_le _,rfl,rfl,Below.refl _ _⟩
 case round=>
  obtain ⟨k,rfl,hk,hg,hall,hb⟩:=hrel
  by_cases hkn:k=n
  ·have e:ts.take k=ts:=by rw [hkn,HN.out.2.2.2.2.1];exact List.take_length
   rw [e] at hall
   have FIN:=Lib.hid (show ZeA w ZP ts (.returned (.int .i64 (-1))) wr from ⟨-1,rfl,by rw [hall];rfl,hb⟩)
   subst hkn
   clear hk hg hall hb e
   go_wp2_with fail
   go_ret
   exact FIN.out
  ·have hlt:k<n:=by omega
   obtain ⟨x,hx⟩:∃ x,rs[k]? = some x:=⟨_,List.getElem?_eq_getElem (by have:=HN.out.1;omega)⟩
   obtain ⟨ad,rfl,d0,d1,d2,d3⟩:=ZaF H5.out hb hx (by omega)
   have hr:=(HN.out.2.2.2.1 x (List.mem_of_getElem? hx)).below hb
   have hxt:ts[k]? = some x.2:=by rw [<- HN.out.2.1,List.getElem?_map,hx];rfl
   have sm:=HN.out.2.2.2.2.2 wr x.1 x.2 (List.mem_of_getElem? hxt) hr
   have nxt:(ts.take (k+1)).any ZP=ZP x.2:=by
    rw [List.take_add_one,hxt,List.any_append,hall,Bool.false_or]
    simp
   have hit:ZP x.2=true->decide (0<=(k:Int))=ts.any ZP:=fun hp=>by
    rw [List.any_eq_true.2 ⟨_,List.mem_of_getElem? hxt,hp⟩]
    exact decide_eq_true (by omega)
   have i1:(k:Int)<(n:Int):=by omega
   have i2:(0:Int)<=(k:Int):=by omega
   have wk:IntKind.i64.wrap ((k:Int)+1)=(k:Int)+1:=IntWalk.i64_in _ (by have:=HN.out.2.2.1;omega)
   generalize ZP x.2=R at *
   obtain ⟨x1,xo,x2,x3,x4⟩:=x
   dsimp only at *
   have HB:=Lib.hid hb
   have HK:=Lib.hid (And.intro hlt hg)
   have SM:=Lib.hid sm
   have NX:=Lib.hid (And.intro nxt hit)
   clear hr hxt nxt hit hx hkn hlt hk hg hall hb sm
   cases R
   ·go_wp2_with (go_at_call 12;(with_reducible refine SM.out.mono ?_);rintro e w1 ⟨rfl,hb1⟩)
    go_roundg (n-(k+1))
    case measure=>have:=HK.out;omega
    case rel=>exact ⟨k+1,by push_cast;rfl,by have:=HK.out;omega,rfl,NX.out.1,HB.out.trans (hb1.mono HB.out.size)⟩
   ·go_wp2_with (go_at_call 12;(with_reducible refine SM.out.mono ?_);rintro e w1 ⟨rfl,hb1⟩)
    go_ret
    exact ⟨k,rfl,NX.out.2 trivial,HB.out.trans (hb1.mono HB.out.size)⟩
theorem Zfw (w:World) (vs:Value) (ts:List Rw) (hw:∀ t∈ts,ZX t) (h:ZD w vs ts) :
  Calls Tryz.prog 18 #[vs,.func (.func 12) #[] #[]] w fun e w'=>e=.returned (.bool (ts.any ZP))/\Below w.heap.size w w':=by
 have IXC:=Lib.hid (ZlM w vs ts hw h)
 clear h hw
 go_enter Tryz.func18,Tryz.ntmps18
 go_wp2_with (go_at_call 43;(with_reducible refine IXC.out.mono ?_);rintro e w1 ⟨z,rfl,hz,hb⟩)
 go_ret
 exact ⟨by rw [<- hz];rfl,hb⟩
theorem ZlL (w:World) (vs:Value) (ts:List Rw) (h:ZD w vs ts) :
  Calls Tryz.prog 43 #[vs,.func (.func 24) #[] #[]] w (ZeA w Zcn ts):=by
 obtain ⟨A,c,rs,rfl,h2,h3,h4,h5,h6⟩:=h
 obtain ⟨n,hn⟩:∃ n,n=ts.length:=⟨_,rfl⟩
 have hrn:rs.length=n:=by rw [hn,<- h4,List.length_map]
 have hmx:n<=9223372036854775807:=by unfold maxLen at h3;omega
 rw [<- hn] at h2 h5 ⊢
 have fn:∀ (wx:World) (v:Value) (t:Rw),t∈ts->Zb wx v t.2.1->Calls Tryz.prog 24 #[.agg #[.int .i64 t.1,v,.int .i64 t.2.2.1,.int .i64 t.2.2.2]] wx fun r w'=>r=.returned (.bool (Zcn t))/\Below wx.heap.size wx w':=
  fun wx v t _ _=>ZlP wx v t
 have HN:=Lib.hid (And.intro hrn (And.intro h4 (And.intro hmx (And.intro h6 (And.intro hn fn)))))
 have H5:=Lib.hid h5
 clear hn hrn h2 h3 h4 h5 h6 hmx fn
 go_enter Tryz.func43,Tryz.ntmps43
 go_wp2_with fail
 go_loopg [8] n (fun g v8 wr=>∃ k:Nat,v8=.int .i64 k/\k<=n/\g=n-k/\(ts.take k).any Zcn=false/\Below w.heap.size w wr)
 case atStart=>exact ⟨0,rfl,Nat.zero_le _,rfl,rfl,Below.refl _ _⟩
 case round=>
  obtain ⟨k,rfl,hk,hg,hall,hb⟩:=hrel
  by_cases hkn:k=n
  ·have e:ts.take k=ts:=by rw [hkn,HN.out.2.2.2.2.1];exact List.take_length
   rw [e] at hall
   have FIN:=Lib.hid (show ZeA w Zcn ts (.returned (.int .i64 (-1))) wr from ⟨-1,rfl,by rw [hall];rfl,hb⟩)
   subst hkn
   clear hk hg hall hb e
   go_wp2_with fail
   go_ret
   exact FIN.out
  ·have hlt:k<n:=by omega
   obtain ⟨x,hx⟩:∃ x,rs[k]? = some x:=⟨_,List.getElem?_eq_getElem (by have:=HN.out.1;omega)⟩
   obtain ⟨ad,rfl,d0,d1,d2,d3⟩:=ZaF H5.out hb hx (by omega)
   have hr:=(HN.out.2.2.2.1 x (List.mem_of_getElem? hx)).below hb
   have hxt:ts[k]? = some x.2:=by rw [<- HN.out.2.1,List.getElem?_map,hx];rfl
   have sm:=HN.out.2.2.2.2.2 wr x.1 x.2 (List.mem_of_getElem? hxt) hr
   have nxt:(ts.take (k+1)).any Zcn=Zcn x.2:=by
    rw [List.take_add_one,hxt,List.any_append,hall,Bool.false_or]
    simp
   have hit:Zcn x.2=true->decide (0<=(k:Int))=ts.any Zcn:=fun hp=>by
    rw [List.any_eq_true.2 ⟨_,List.mem_of_getElem? hxt,hp⟩]
    exact decide_eq_true (by omega)
   have i1:(k:Int)<(n:Int):=by omega
   have i2:(0:Int)<=(k:Int):=by omega
   have wk:IntKind.i64.wrap ((k:Int)+1)=(k:Int)+1:=IntWalk.i64_in _ (by have:=HN.out.2.2.1;omega)
   generalize Zcn x.2=R at *
   obtain ⟨x1,xo,x2,x3,x4⟩:=x
   dsimp only at *
   have HB:=Lib.hid hb
   have HK:=Lib.hid (And.intro hlt hg)
   have SM:=Lib.hid sm
   have NX:=Lib.hid (And.intro nxt hit)
   clear hr hxt nxt hit hx hkn hlt hk hg hall hb sm
   cases R
   ·go_wp2_with (go_at_call 24;(with_reducible refine SM.out.mono ?_);rintro e w1 ⟨rfl,hb1⟩)
    go_roundg (n-(k+1))
    case measure=>have:=HK.out;omega
    case rel=>exact ⟨k+1,by push_cast;rfl,by have:=HK.out;omega,rfl,NX.out.1,HB.out.trans (hb1.mono HB.out.size)⟩
   ·go_wp2_with (go_at_call 24;(with_reducible refine SM.out.mono ?_);rintro e w1 ⟨rfl,hb1⟩)
    go_ret
    exact ⟨k,rfl,NX.out.2 trivial,HB.out.trans (hb1.mono HB.out.size)⟩
theorem Zi9 (w:World) (vs:Value) (ts:List Rw) (h:ZD w vs ts) :
  Calls Tryz.prog 18 #[vs,.func (.func 24) #[] #[]] w fun e w'=>e=.returned (.bool (ts.any Zcn))/\Below w.heap.size w w':=by
 have IXC:=Lib.hid (ZlL w vs ts h)
 clear h
 go_enter Tryz.func18,Tryz.ntmps18
 go_wp2_with (go_at_call 43;(with_reducible refine IXC.out.mono ?_);rintro e w1 ⟨z,rfl,hz,hb⟩)
 go_ret
 exact ⟨by rw [<- hz];rfl,hb⟩
end
end Go.Proofs.YtolookeddknmoaaGreat
