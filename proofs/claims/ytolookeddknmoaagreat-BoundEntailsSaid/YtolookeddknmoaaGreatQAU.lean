import Derived.Test.YtolookeddknmoaaGreatQAS
import Derived.Test.YtolookeddknmoaaGreatQAT
set_option maxRecDepth 100000
set_option maxHeartbeats 8000000
namespace Go.Proofs.YtolookeddknmoaaGreat
section
open Go.RowKit
def Zhv (pr:Trm->Bool) (ts:List Trm) (z:Int):Prop:=
 (z=-1/\ts.any pr=false)\/∃ k:Nat,z=k/\(∃ t,ts[k]? = some t/\pr t=true)/\(ts.take k).any pr=false
def Zfp (w:World) (pr:Trm->Bool) (ts:List Trm) (e:Ending) (w':World):Prop:=∃ z:Int,e=.returned (.int .i64 z)/\Zhv pr ts z/\Below w.heap.size w w'
theorem Zhv.has {pr:Trm->Bool} {ts:List Trm} {z:Int} (h:Zhv pr ts z):decide (0<=z)=ts.any pr:=by
 rcases h with ⟨rfl,h⟩ | ⟨k,rfl,⟨t,ht,hp⟩,_⟩
 ·rw [h];rfl
 ·rw [List.any_eq_true.2 ⟨t,List.mem_of_getElem? ht,hp⟩]
  exact decide_eq_true (by omega)
theorem Zid {pr:Trm->Bool} {l:List Trm} {k:Nat} {t:Trm} (hk:l[k]? = some t) (h:(l.take k).any pr=false):(l.take (k+1)).any pr=pr t:=by
 rw [List.take_add_one,hk,List.any_append,h,Bool.false_or]
 simp
def ZW (t:Trm):Bool:=!ZO t.1 t.2.1 t.2.2
def Zbb (i:Int) (t:Trm):Bool:=(atL t.1 i).1 != 0
def prK (t:Trm):Bool:=t.2.1 != 0
theorem Zm8 (w:World) (vs:Value) (ts:List Trm) (hw:∀ t∈ts,Zv t.1/\Bd t.2) (h:Zal w vs ts) :
  Calls Tryz.prog 47 #[vs,.func (.func 45) #[] #[]] w (Zfp w ZW ts):=by
 obtain ⟨A,c,rs,rfl,h2,h3,h4,h5,h6⟩:=h
 obtain ⟨n,hn⟩:∃ n,n=ts.length:=⟨_,rfl⟩
 have hrn:rs.length=n:=by rw [hn,<- h4,List.length_map]
 have hmx:n<=9223372036854775807:=by unfold maxLen at h3;omega
 rw [<- hn] at h2 h5 ⊢
 have fn:∀ (wx:World) (v:Value) (t:Trm),Below w.heap.size w wx->t∈ts->Zb wx v t.1->Calls Tryz.prog 45 #[.agg #[v,.int .i64 t.2.1,.int .i64 t.2.2]] wx fun r w'=>r=.returned (.bool (ZW t))/\Below wx.heap.size wx w':=
  fun wx v t _ ht hr=>ZnB wx v t.1 t.2.1 t.2.2 hr (hw t ht).1 (hw t ht).2
 have HN:=Lib.hid (And.intro hrn (And.intro h4 (And.intro hmx (And.intro h6 (And.intro hn fn)))))
 have H5:=Lib.hid h5
 clear hn hrn h2 h3 h4 h5 h6 hmx fn hw
 go_enter Tryz.func47,Tryz.ntmps47
 go_wp2_with fail
 go_loopg [8] n (fun g v8 wr=>∃ k:Nat,v8=.int .i64 k/\k<=n/\g=n-k/\(ts.take k).any ZW=false/\Below w.heap.size w wr)
 case atStart=>exact ⟨0,rfl,Nat.zero_le _,rfl,rfl,Below.refl _ _⟩
 case round=>
  obtain ⟨k,rfl,hk,hg,hall,hb⟩:=hrel
  by_cases hkn:k=n
  ·have e:ts.take k=ts:=by rw [hkn,HN.out.2.2.2.2.1];exact List.take_length
   rw [e] at hall
   have FIN:=Lib.hid (show Zfp w ZW ts (.returned (.int .i64 (-1))) wr from ⟨-1,rfl,.inl ⟨rfl,hall⟩,hb⟩)
   subst hkn
   clear hk hg hall hb e
   go_wp2_with fail
   go_ret
   exact FIN.out
  ·have hlt:k<n:=by omega
   obtain ⟨x,hx⟩:∃ x,rs[k]? = some x:=⟨_,List.getElem?_eq_getElem (by have:=HN.out.1;omega)⟩
   obtain ⟨ad,rfl,d0,d1,d2⟩:=ZaZ H5.out hb hx (by omega)
   have hr:=(HN.out.2.2.2.1 x (List.mem_of_getElem? hx)).below hb
   have hxt:ts[k]? = some x.2:=by rw [<- HN.out.2.1,List.getElem?_map,hx];rfl
   have sm:=HN.out.2.2.2.2.2 wr x.1 x.2 hb (List.mem_of_getElem? hxt) hr
   have nxt:=Zid (pr:=ZW) hxt hall
   have hit:ZW x.2=true->Zhv ZW ts k:=fun hp=>.inr ⟨k,rfl,⟨_,hxt,hp⟩,hall⟩
   have i1:(k:Int)<(n:Int):=by omega
   have i2:(0:Int)<=(k:Int):=by omega
   have wk:IntKind.i64.wrap ((k:Int)+1)=(k:Int)+1:=IntWalk.i64_in _ (by have:=HN.out.2.2.1;omega)
   generalize ZW x.2=R at *
   obtain ⟨x1,x2,x3,x4⟩:=x
   dsimp only at *
   have HB:=Lib.hid hb
   have HK:=Lib.hid (And.intro hlt hg)
   have SM:=Lib.hid sm
   have NX:=Lib.hid (And.intro nxt hit)
   clear hr hxt nxt hit hx hkn hlt hk hg hall hb sm
   cases R
   ·go_wp2_with (go_at_call 45;(with_reducible refine SM.out.mono ?_);rintro e w1 ⟨rfl,hb1⟩)
    go_roundg (n-(k+1))
    case measure=>have:=HK.out;omega
    case rel=>exact ⟨k+1,by push_cast;rfl,by have:=HK.out;omega,rfl,NX.out.1,HB.out.trans (hb1.mono HB.out.size)⟩
   ·go_wp2_with (go_at_call 45;(with_reducible refine SM.out.mono ?_);rintro e w1 ⟨rfl,hb1⟩)
    go_ret
    exact ⟨k,rfl,NX.out.2 trivial,HB.out.trans (hb1.mono HB.out.size)⟩
theorem Zm9 (w:World) (vs:Value) (ts:List Trm) (b:Nat) (i:Int) (hi:w.cell? ⟨b,0,none⟩=some (.int .i64 i)) (h:Zal w vs ts) :
  Calls Tryz.prog 47 #[vs,.func (.func 48) #[] #[.pointer (some ⟨b,0,none⟩)]] w (Zfp w (Zbb i) ts):=by
 obtain ⟨A,c,rs,rfl,h2,h3,h4,h5,h6⟩:=h
 obtain ⟨n,hn⟩:∃ n,n=ts.length:=⟨_,rfl⟩
 have hrn:rs.length=n:=by rw [hn,<- h4,List.length_map]
 have hmx:n<=9223372036854775807:=by unfold maxLen at h3;omega
 rw [<- hn] at h2 h5 ⊢
 have fn:∀ (wx:World) (v:Value) (t:Trm),Below w.heap.size w wx->t∈ts->Zb wx v t.1->Calls Tryz.prog 48 #[.agg #[v,.int .i64 t.2.1,.int .i64 t.2.2],.pointer (some ⟨b,0,none⟩)] wx fun r w'=>r=.returned (.bool ((Zbb i) t))/\Below wx.heap.size wx w':=
  fun wx v t hb _ hr=>ZnC wx v t.1 t.2.1 t.2.2 i b hr ((hb.cell (World.block_lt_of_cell? _ _ hi)).trans hi)
 have HN:=Lib.hid (And.intro hrn (And.intro h4 (And.intro hmx (And.intro h6 (And.intro hn fn)))))
 have H5:=Lib.hid h5
 clear hn hrn h2 h3 h4 h5 h6 hmx fn hi
 go_enter Tryz.func47,Tryz.ntmps47
 go_wp2_with fail
 go_loopg [8] n (fun g v8 wr=>∃ k:Nat,v8=.int .i64 k/\k<=n/\g=n-k/\(ts.take k).any (Zbb i)=false/\Below w.heap.size w wr)
 case atStart=>exact ⟨0,rfl,Nat.zero_le _,rfl,rfl,Below.refl _ _⟩
 case round=>
  obtain ⟨k,rfl,hk,hg,hall,hb⟩:=hrel
  by_cases hkn:k=n
  ·have e:ts.take k=ts:=by rw [hkn,HN.out.2.2.2.2.1];exact List.take_length
   rw [e] at hall
   have FIN:=Lib.hid (show Zfp w (Zbb i) ts (.returned (.int .i64 (-1))) wr from ⟨-1,rfl,.inl ⟨rfl,hall⟩,hb⟩)
   subst hkn
   clear hk hg hall hb e
   go_wp2_with fail
   go_ret
   exact FIN.out
  ·have hlt:k<n:=by omega
   obtain ⟨x,hx⟩:∃ x,rs[k]? = some x:=⟨_,List.getElem?_eq_getElem (by have:=HN.out.1;omega)⟩
   obtain ⟨ad,rfl,d0,d1,d2⟩:=ZaZ H5.out hb hx (by omega)
   have hr:=(HN.out.2.2.2.1 x (List.mem_of_getElem? hx)).below hb
   have hxt:ts[k]? = some x.2:=by rw [<- HN.out.2.1,List.getElem?_map,hx];rfl
   have sm:=HN.out.2.2.2.2.2 wr x.1 x.2 hb (List.mem_of_getElem? hxt) hr
   have nxt:=Zid (pr:=(Zbb i)) hxt hall
   have hit:(Zbb i) x.2=true->Zhv (Zbb i) ts k:=fun hp=>.inr ⟨k,rfl,⟨_,hxt,hp⟩,hall⟩
   have i1:(k:Int)<(n:Int):=by omega
   have i2:(0:Int)<=(k:Int):=by omega
   have wk:IntKind.i64.wrap ((k:Int)+1)=(k:Int)+1:=IntWalk.i64_in _ (by have:=HN.out.2.2.1;omega)
   generalize (Zbb i) x.2=R at *
   obtain ⟨x1,x2,x3,x4⟩:=x
   dsimp only at *
   have HB:=Lib.hid hb
   have HK:=Lib.hid (And.intro hlt hg)
   have SM:=Lib.hid sm
   have NX:=Lib.hid (And.intro nxt hit)
   clear hr hxt nxt hit hx hkn hlt hk hg hall hb sm
   cases R
   ·go_wp2_with (go_at_call 48;(with_reducible refine SM.out.mono ?_);rintro e w1 ⟨rfl,hb1⟩)
    go_roundg (n-(k+1))
    case measure=>have:=HK.out;omega
    case rel=>exact ⟨k+1,by push_cast;rfl,by have:=HK.out;omega,rfl,NX.out.1,HB.out.trans (hb1.mono HB.out.size)⟩
   ·go_wp2_with (go_at_call 48;(with_reducible refine SM.out.mono ?_);rintro e w1 ⟨rfl,hb1⟩)
    go_ret
    exact ⟨k,rfl,NX.out.2 trivial,HB.out.trans (hb1.mono HB.out.size)⟩
theorem Zna (w:World) (vs:Value) (ts:List Trm) (h:Zal w vs ts) :
  Calls Tryz.prog 47 #[vs,.func (.func 54) #[] #[]] w (Zfp w prK ts):=by
 obtain ⟨A,c,rs,rfl,h2,h3,h4,h5,h6⟩:=h
 obtain ⟨n,hn⟩:∃ n,n=ts.length:=⟨_,rfl⟩
 have hrn:rs.length=n:=by rw [hn,<- h4,List.length_map]
 have hmx:n<=9223372036854775807:=by unfold maxLen at h3;omega
 rw [<- hn] at h2 h5 ⊢
 have fn:∀ (wx:World) (v:Value) (t:Trm),Below w.heap.size w wx->t∈ts->Zb wx v t.1->Calls Tryz.prog 54 #[.agg #[v,.int .i64 t.2.1,.int .i64 t.2.2]] wx fun r w'=>r=.returned (.bool (prK t))/\Below wx.heap.size wx w':=
  fun wx v t _ _ hr=>ZnD wx v t.1 t.2.1 t.2.2 hr
 have HN:=Lib.hid (And.intro hrn (And.intro h4 (And.intro hmx (And.intro h6 (And.intro hn fn)))))
 have H5:=Lib.hid h5
 clear hn hrn h2 h3 h4 h5 h6 hmx fn
 go_enter Tryz.func47,Tryz.ntmps47
 go_wp2_with fail
 go_loopg [8] n (fun g v8 wr=>∃ k:Nat,v8=.int .i64 k/\k<=n/\g=n-k/\(ts.take k).any prK=false/\Below w.heap.size w wr)
 case atStart=>exact ⟨0,rfl,Nat.zero_le _,rfl,rfl,Below.refl _ _⟩
 case round=>
  obtain ⟨k,rfl,hk,hg,hall,hb⟩:=hrel
  by_cases hkn:k=n
  ·have e:ts.take k=ts:=by rw [hkn,HN.out.2.2.2.2.1];exact List.take_length
   rw [e] at hall
   have FIN:=Lib.hid (show Zfp w prK ts (.returned (.int .i64 (-1))) wr from ⟨-1,rfl,.inl ⟨rfl,hall⟩,hb⟩)
   subst hkn
   clear hk hg hall hb e
   go_wp2_with fail
   go_ret
   exact FIN.out
  ·have hlt:k<n:=by omega
   obtain ⟨x,hx⟩:∃ x,rs[k]? = some x:=⟨_,List.getElem?_eq_getElem (by have:=HN.out.1;omega)⟩
   obtain ⟨ad,rfl,d0,d1,d2⟩:=ZaZ H5.out hb hx (by omega)
   have hr:=(HN.out.2.2.2.1 x (List.mem_of_getElem? hx)).below hb
   have hxt:ts[k]? = some x.2:=by rw [<- HN.out.2.1,List.getElem?_map,hx];rfl
   have sm:=HN.out.2.2.2.2.2 wr x.1 x.2 hb (List.mem_of_getElem? hxt) hr
   have nxt:=Zid (pr:=prK) hxt hall
   have hit:prK x.2=true->Zhv prK ts k:=fun hp=>.inr ⟨k,rfl,⟨_,hxt,hp⟩,hall⟩
   have i1:(k:Int)<(n:Int):=by omega
   have i2:(0:Int)<=(k:Int):=by omega
   have wk:IntKind.i64.wrap ((k:Int)+1)=(k:Int)+1:=IntWalk.i64_in _ (by have:=HN.out.2.2.1;omega)
   generalize prK x.2=R at *
   obtain ⟨x1,x2,x3,x4⟩:=x
   dsimp only at *
   have HB:=Lib.hid hb
   have HK:=Lib.hid (And.intro hlt hg)
   have SM:=Lib.hid sm
   have NX:=Lib.hid (And.intro nxt hit)
   clear hr hxt nxt hit hx hkn hlt hk hg hall hb sm
   cases R
   ·go_wp2_with (go_at_call 54;(with_reducible refine SM.out.mono ?_);rintro e w1 ⟨rfl,hb1⟩)
    go_roundg (n-(k+1))
    case measure=>have:=HK.out;omega
    case rel=>exact ⟨k+1,by push_cast;rfl,by have:=HK.out;omega,rfl,NX.out.1,HB.out.trans (hb1.mono HB.out.size)⟩
   ·go_wp2_with (go_at_call 54;(with_reducible refine SM.out.mono ?_);rintro e w1 ⟨rfl,hb1⟩)
    go_ret
    exact ⟨k,rfl,NX.out.2 trivial,HB.out.trans (hb1.mono HB.out.size)⟩
theorem Zgz (w:World) (vs:Value) (ts:List Trm) (hw:∀ t∈ts,Zv t.1/\Bd t.2) (h:Zal w vs ts) :
  Calls Tryz.prog 44 #[vs,.func (.func 45) #[] #[]] w fun r w'=>r=.returned (.bool (ts.any ZW))/\Below w.heap.size w w':=by
 have ix:=Zm8 w vs ts hw h
 clear h hw
 go_enter Tryz.func44,Tryz.ntmps44
 go_wp2_with (go_at_call 47;(with_reducible refine ix.mono ?_);rintro e w1 ⟨z,rfl,hz,hb⟩)
 go_ret
 exact ⟨by rw [<- hz.has];rfl,hb⟩
theorem Zkh (w:World) (vs:Value) (ts:List Trm) (h:Zal w vs ts) :
  Calls Tryz.prog 44 #[vs,.func (.func 54) #[] #[]] w fun r w'=>r=.returned (.bool (ts.any prK))/\Below w.heap.size w w':=by
 have ix:=Zna w vs ts h
 clear h
 go_enter Tryz.func44,Tryz.ntmps44
 go_wp2_with (go_at_call 47;(with_reducible refine ix.mono ?_);rintro e w1 ⟨z,rfl,hz,hb⟩)
 go_ret
 exact ⟨by rw [<- hz.has];rfl,hb⟩
theorem Zf3:(Tryz.prog.info? 27).map (fun i=>(i.zero,i.size,i.bytes))=some (some (.agg #[.slice none 0 0,.int .i64 0,.int .i64 0]),3,40):=by kernel_rfl
theorem ZqC (w:World) (ad:Addr) (n c:Nat):(binOp .eql 49 (.slice (some ad) n c) (.slice none 0 0)).run Tryz.prog w=.ok (.bool false) w:=by kernel_rfl
theorem ZpX (w:World) (n c:Nat):(binOp .eql 49 (.slice none n c) (.slice none 0 0)).run Tryz.prog w=.ok (.bool true) w:=by kernel_rfl
theorem Zng (w:World):(w.alloc (.cells #[] 27)).ownsRow w.heap.size 27 3 (.slice (some ⟨w.heap.size,0,none⟩) 0 0) 0 []:=
 ⟨rfl,.inr ⟨w.heap.size,0,#[],rfl,Nat.le_refl _,heap_alloc_new w _,Nat.le_refl _,by decide,rfl,rfl⟩⟩
def Zo6 (w:World) (ts:List Trm) (e:Ending) (w':World):Prop:=∃ A c,e=.returned (.slice A ts.length c)/\ZY w' w.heap.size (.slice A ts.length c) ts (fun b=>w.heap.size<=b)/\Below w.heap.size w w'
theorem ZnL (w:World) (v:Value) (ts:List Trm) (h:Zal w v ts) (hl:ts.length<=1000) :
  Calls Tryz.prog 46 #[v] w (Zo6 w ts):=by
 obtain ⟨i0,hi,hz0,hz1,hz2⟩:=info_parts Zf3
 obtain ⟨A,c,rs,rfl,h2,h3,h4,h5,h6⟩:=h
 rcases A with _ | ad
 ·have hn:ts=[]:=by
   rcases Nat.eq_zero_or_pos ts.length with h0 | h0
   ·exact List.eq_nil_of_length_eq_zero h0
   ·obtain ⟨_,e,_⟩:=h5.2 h0
    cases e
  subst hn
  have hq:=ZpX w 0 c
  clear h2 h3 h4 h5 h6 hl
  go_enter Tryz.func46,Tryz.ntmps46
  go_wp2_with fail
  go_ret
  exact ⟨_,_,rfl,ZY.nil w _ _,Below.refl _ _⟩
 ·have hq:=ZqC w ad ts.length c
  have one:∀ u∈Zg rs,u.oneCell'=true:=Zen rs fun x hx=>by
   obtain ⟨A',c',e⟩:=Zd (h6 x hx)
   exact ⟨_,_,_,e⟩
  have ON:=Lib.hid (And.intro one (And.intro h4 (And.intro h6 hl)))
  clear one h4 h6 hl
  go_enter Tryz.func46,Tryz.ntmps46
  go_wp2_with (at_builtin;refine Zm _ rfl _ _ 49 rfl w.heap.size 27 i0 (.agg #[.slice none 0 0,.int .i64 0,.int .i64 0]) 3 40 Tryz.underlying49 hi hz0 hz1 hz2 rfl (by decide) _ 0 [] rfl (Zng w) w.heap.size (some ad) _ c _ rfl (h5.alloc (Nat.le_refl _) _) ?c2 ?c3 ?c4 ?c5 ?_)
  case c2=>exact ON.out.1
  case c3=>have:=ON.out.2.2.2;unfold maxLen;omega
  case c4=>have:=ON.out.2.2.2;omega
  case c5=>simp
  intro v' w1 hown' hgrow _
  have hown2:w1.ownsRow w.heap.size 27 3 v' ts.length (Zg rs):=by simpa using hown'
  have hb:Below w.heap.size w w1:=by
   refine (Za w _).grown hgrow (by simp) (fun k hk=>?_)
   have e:w.heap.size=k:=by simpa [Value.ownBlock] using hk
   omega
  have hT:ZY w1 w.heap.size v' ts (fun b=>w.heap.size<=b):=by
   refine ⟨rs,ON.out.2.1,hown2,fun x hx=>⟨(ON.out.2.2.1 x hx).below hb,fun hl b hb' q=>?_⟩⟩
   have:=(ON.out.2.2.1 x hx).lt hl b hb'
   omega
  obtain ⟨A',c',e',hT'⟩:∃ A' c',v'=.slice A' ts.length c'/\ZY w1 w.heap.size (.slice A' ts.length c') ts (fun b=>w.heap.size<=b):=by
   obtain ⟨A',c',_,e,_⟩:=hT.terms
   exact ⟨A',c',e,e▸hT⟩
  subst e'
  have FIN:=Lib.hid (And.intro hT' hb)
  clear hown' hown2 hgrow hb h5 hq hT hT'
  go_wp2_with fail
  go_ret
  exact ⟨_,_,rfl,FIN.out.1,FIN.out.2⟩
end
end Go.Proofs.YtolookeddknmoaaGreat
