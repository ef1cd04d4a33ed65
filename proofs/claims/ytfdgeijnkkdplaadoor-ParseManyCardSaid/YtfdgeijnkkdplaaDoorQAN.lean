import Derived.WalkLawsBesides
import Derived.Test.YtfdgeijnkkdplaaDoorQAA
import Derived.Test.YtfdgeijnkkdplaaDoorQAE
import Derived.Test.YtfdgeijnkkdplaaDoorQAM
set_option maxRecDepth 100000
set_option maxHeartbeats 8000000
namespace Go.Proofs.YtfdgeijnkkdplaaDoor
section
open Go.RowKit
theorem Zbp {w:World} {base n size:Nat} {e:TypeId} {v:Value} {xs:List Value} (h:w.ownsRow base e size v n xs):∃ A c,v=.slice A n c:=by
 rcases h.2 with ⟨rfl,rfl⟩ | ⟨g,cap,cur,rfl,_⟩
 ·exact ⟨_,_,rfl⟩
 ·exact ⟨_,_,rfl⟩
theorem ZbZ {w w1:World} {base n size:Nat} {e:TypeId} {v:Value} {xs:List Value} (h:w.ownsRow base e size v n xs) (hb:Below w.heap.size w w1):w1.ownsRow base e size v n xs:=
 h.kept (row:=none) ⟨hb.os,hb.tape,hb.output,hb.size,fun k hk _=>hb.block k hk⟩ (by
  cases q:v.ownBlock with
  | none=>exact .inl rfl
  | some k=>exact .inr (by simp))
theorem Zft {w:World} {base n size:Nat} {e:TypeId} {A:Option Addr} {c:Nat} {xs:List Value} (h:w.ownsRow base e size (.slice A n c) n xs):n<=c/\c<=maxLen/\ZT w w.heap.size size A n xs:=by
 rcases h.2 with ⟨q,rfl⟩ | ⟨g,cap,cur,q,hb,hg,hnc,hcm,hcs,ht⟩
 ·injection q with q1 q2 q3
  subst q1 q3
  exact ⟨Nat.le_refl _,by decide,⟨h.1,fun hn=>absurd hn (Nat.lt_irrefl _)⟩⟩
 ·injection q with q1 q2 q3
  subst q1 q3
  refine ⟨hnc,hcm,⟨h.1,fun _=>⟨⟨g,0,none⟩,rfl,(Array.getElem?_eq_some_iff.1 hg).1,fun j u hj=>?_⟩⟩⟩
  have hl:=(List.getElem?_eq_some_iff.1 hj).1
  rw [h.1] at hl
  have:=h.cellAt j hl
  rw [hj] at this
  rw [show (⟨g,0,none⟩:Addr).add j=⟨g,j,none⟩ by unfold Addr.add;by_cases e:j=0<;>simp [e]]
  exact this
theorem info_parts {P:Program} {t:TypeId} {z:Option Value} {s b:Nat} (h:(P.info? t).map (fun i=>(i.zero,i.size,i.bytes))=some (z,s,b)):∃ i,P.info? t=some i/\i.zero=z/\i.size=s/\i.bytes=b:=by
 cases q:P.info? t with
 | none=>rw [q] at h;cases h
 | some i=>
  rw [q] at h
  simp only [Option.map_some,Option.some.injEq,Prod.mk.injEq] at h
  exact ⟨i,rfl,h.1,h.2.1,h.2.2⟩
def Zy (w:World) (b:Nat) (ty:TypeId) (cs:Array Value):Prop:=w.heap[b]? = some (.cells cs ty (0,0))
theorem Zy.blk {w:World} {b:Nat} {ty:TypeId} {cs:Array Value} (h:Zy w b ty cs):Blk w b cs:=⟨ty,h⟩
theorem Zy.start (w:World) (cs:Array Value) (ty:TypeId):Zy (w.alloc (.cells cs ty)) w.heap.size ty cs:=heap_alloc_new _ _
theorem Zy.lt {w:World} {b:Nat} {ty:TypeId} {cs:Array Value} (h:Zy w b ty cs):b<w.heap.size:=h.blk.lt
theorem Zy.keep {w w':World} {b:Nat} {ty:TypeId} {cs:Array Value} (h:Zy w b ty cs) (hb:Below w.heap.size w w'):Zy w' b ty cs:=(hb.block b h.lt).trans h
theorem Zy.set {w:World} {b:Nat} {ty:TypeId} {cs:Array Value} (h:Zy w b ty cs) (i:Nat) (v:Value):Zy (w.setCell ⟨b,i,none⟩ v) b ty (cs.setIfInBounds i v):=by
 have hlt:=h.lt
 have h':w.heap[b]=.cells cs ty (0,0):=by
  unfold Zy at h
  simpa [Array.getElem?_eq_getElem hlt] using h
 show (w.heap.modify b _)[b]? = _
 rw [Array.getElem?_eq_getElem (by simpa using hlt),Array.getElem_modify_self,h']
 rfl
theorem Zy.off {w:World} {b base n size:Nat} {ty e:TypeId} {cs:Array Value} {v:Value} {xs:List Value} (h:Zy w b ty cs) (ho:w.ownsRow base e size v n xs) (hne:ty≠e):v.ownBlock≠some b:=by
 rcases ho.2 with ⟨rfl,_⟩ | ⟨g,cap,cur,rfl,_,hg,_⟩
 ·intro q;cases q
 ·intro q
  injection q with q
  dsimp only at q
  subst q
  unfold Zy at h
  rw [hg] at h
  injection h with h
  injection h with _ h _
  exact hne h.symm
theorem ZbJ {w:World} {base base' n n' size size':Nat} {e e':TypeId} {v v':Value} {xs xs':List Value} (h:w.ownsRow base e size v n xs) (h':w.ownsRow base' e' size' v' n' xs') (hne:e≠e'):∀ b,v.ownBlock=some b->v'.ownBlock≠some b:=by
 intro b hb
 rcases h.2 with ⟨rfl,_⟩ | ⟨g,cap,cur,rfl,_,hg,_⟩
 ·cases hb
 ·injection hb with hb
  dsimp only at hb
  subst hb
  exact Zy.off (ty:=e) (cs:=cur) hg h' hne
theorem Zy.other {w:World} {b:Nat} {ty:TypeId} {cs:Array Value} (h:Zy w b ty cs) {p:Addr} (hp:p.block≠b) (v:Value):Zy (w.setCell p v) b ty cs:=(heap_setCell_other w p b v (fun e=>hp e.symm)).trans h
theorem Zag {w:World} {base n size g j:Nat} {e:TypeId} {v u:Value} {xs:List Value} (h:w.ownsRow base e size v n xs) (hg:v.ownBlock≠some g):(w.setCell ⟨g,j,none⟩ u).ownsRow base e size v n xs:=
 h.kept (row:=some g) ZbH (.inr hg)
theorem Zy.grown {w w':World} {b:Nat} {ty:TypeId} {cs:Array Value} {row:Option Nat} (h:Zy w b ty cs) (hg:w.grownBy w' row) (hne:row≠some b):Zy w' b ty cs:=(hg.block b h.lt (fun e=>hne e.symm)).trans h
end
section
open Go.RowKit
abbrev ZmB (t:Tok):Value:=.agg #[.int .i64 t.1,txt t.2.1,.int .i64 t.2.2]
structure ParQ (w0 w:World) (bp:Nat) (ad:Addr) (c:Nat) (L:List Tok) (s:PS):Prop where
 box:Zy w bp 54 #[.slice (some (ad.add (s.at_*3))) (L.length-s.at_) (c-s.at_),.int .i64 s.deep]
 toks:ZaJ w0 (.slice (some ad) L.length c) L
 below:Below w0.heap.size w0 w
 ge:w0.heap.size<=bp
 lt:s.at_<L.length
 few:L.length<=100000/\LexL L/\∀ t∈L,t.2.1.length<=100000
 err:s.err=0
abbrev FrP (w w':World) (bp:Nat):Prop:=w.grownBy w' (some bp)
theorem ParQ.keep {w0 w w':World} {bp c:Nat} {ad:Addr} {L:List Tok} {s:PS} (h:ParQ w0 w bp ad c L s) (hb:Below w.heap.size w w'):ParQ w0 w' bp ad c L s:=
 ⟨h.box.keep hb,h.toks,h.below.trans (hb.mono h.below.size),h.ge,h.lt,h.few,h.err⟩
theorem ParQ.cap {w0 w:World} {bp c:Nat} {ad:Addr} {L:List Tok} {s:PS} (h:ParQ w0 w bp ad c L s):L.length<=c/\c<=maxLen:=by
 obtain ⟨A,c',e,h1,h2,_⟩:=h.toks
 injection e with e1 e2 e3
 subst e3
 exact ⟨h1,h2⟩
theorem ParQ.tok {w0 w:World} {bp c:Nat} {ad:Addr} {L:List Tok} {s:PS} (h:ParQ w0 w bp ad c L s) :
  w.cell? (ad.add (s.at_*3))=some (.int .i64 (Zx L s.at_).1)/\w.cell? ((ad.add (s.at_*3)).add 1)=some (txt (Zx L s.at_).2.1)/\w.cell? ((ad.add (s.at_*3)).add 2)=some (.int .i64 (Zx L s.at_).2.2):=by
 obtain ⟨A,c',e,h1,h2,h3⟩:=h.toks
 injection e with e1 e2 e3
 subst e1
 obtain ⟨t,ht⟩:∃ t,L[s.at_]? = some t:=⟨_,List.getElem?_eq_getElem h.lt⟩
 have et:Zx L s.at_=t:=by unfold Zx;rw [ht];rfl
 obtain ⟨ad',e',hlt,hc⟩:=h3.2 (by have:=h.lt;omega)
 injection e' with e'
 subst e'
 have key:∀ (l:List Tok) (k:Nat) (t:Tok),l[k]? = some t->(Za0 l)[k*3]? = some (.int .i64 t.1)/\(Za0 l)[k*3+1]? = some (txt t.2.1)/\(Za0 l)[k*3+2]? = some (.int .i64 t.2.2):=by
  intro l
  induction l with
  | nil=>intro k t h;simp at h
  | cons a r ih=>
   intro k t h
   cases k with
   | zero=>
    obtain rfl:a=t:=by simpa using h
    exact ⟨rfl,rfl,rfl⟩
   | succ k=>
    obtain ⟨a,b,c⟩:=ih k t h
    exact ⟨by rw [show (k+1)*3=k*3+1+1+1 by omega];exact a,by rw [show (k+1)*3+1=k*3+1+1+1+1 by omega];exact b,by rw [show (k+1)*3+2=k*3+2+1+1+1 by omega];exact c⟩
 obtain ⟨k0,k1,k2⟩:=key L s.at_ t ht
 have blk:∀ i,(ad.add i).block=ad.block:=fun i=>by unfold Addr.add;split<;>rfl
 have old:∀ i u,w0.cell? (ad.add i)=some u->w.cell? (ad.add i)=some u:=fun i u q=>(h.below.cell (p:=ad.add i) (by rw [blk];exact hlt)).trans q
 have addd:∀ i j,(ad.add i).add j=ad.add (i+j):=fun i j=>by
  unfold Addr.add
  by_cases a:i=0<;>by_cases b:j=0<;>simp [a,b,Nat.add_assoc]
 rw [et,addd,addd]
 exact ⟨old _ _ (hc _ _ k0),old _ _ (hc _ _ k1),old _ _ (hc _ _ k2)⟩
theorem Zbq (w0 w:World) (bp c:Nat) (ad:Addr) (L:List Tok) (s:PS) (h:ParQ w0 w bp ad c L s) :
  Calls Tryd.prog 20 #[.pointer (some ⟨bp,0,none⟩)] w fun e w'=>e=.returned (ZmB (Zx L s.at_))/\Below w.heap.size w w':=by
 have a1:=below_alloc1 w (.cells #[.int .i64 0,.string ⟨#[]⟩,.int .i64 0] 47)
 have h1:=h.keep a1
 obtain ⟨t0,t1,t2⟩:=h1.tok
 have c0:=h1.box.blk.cell 0
 have hl:=h.lt
 generalize ad.add (s.at_*3)=A at *
 generalize Zx L s.at_=t at *
 obtain ⟨tk,tt,ta⟩:=t
 obtain ⟨m,hm⟩:∃ m,L.length-s.at_=m:=⟨_,rfl⟩
 rw [hm] at c0
 have i0:(0:Int)<(m:Int):=by omega
 have i1:0<m:=by omega
 obtain ⟨g,o,sp⟩:=A
 simp only [Addr.add] at t1 t2
 rw [if_neg (by decide)] at t1 t2
 dsimp only at t0 t1 t2 ⊢
 simp only [List.getElem?_toArray,List.getElem?_cons_zero] at c0
 have z:=fun i=>(Zy.start w #[.int .i64 0,.string ⟨#[]⟩,.int .i64 0] 47).blk.cell i
 have LL:=zh a1
 clear h h1 hm hl a1
 go_enter Tryd.func20,Tryd.ntmps20
 go_wp2_with fail
 exact bodyPost_ret (v:=ZmB (tk,tt,ta)) (by simp [results,Tryd.results20,go_sem]) rfl ⟨rfl,below_alloc1 _ _⟩
abbrev ZaY (e p:Int):Ending:=.panicked [{ v:=.iface 50 (.agg #[.int .i64 e,.int .i64 p]),recovered:=false }]
theorem Zcw (w0 w:World) (bp c:Nat) (ad:Addr) (L:List Tok) (s:PS) (h:ParQ w0 w bp ad c L s) (e:Int) :
  Calls Tryd.prog 43 #[.pointer (some ⟨bp,0,none⟩),.int .i64 e] w fun r w'=>r=ZaY e (Zx L s.at_).2.2/\Below w.heap.size w w':=by
 have NX:=zh (Zbq w0 w bp c ad L s h)
 have hfd:∀ (w:World) (a b:Value) (c:Int),(Instr.field 47 (.agg #[a,b,.int .i64 c]) 2).run Tryd.prog w=.ok (.int .i64 c) w:=fun _ _ _ _=>by kernel_rfl
 clear h
 go_enter Tryd.func43,Tryd.ntmps43
 go_wp2_with (go_at_call 20;(with_reducible refine NX.out.mono ?_);rintro e1 w1 ⟨rfl,hb⟩)
 exact ⟨rfl,rfl,hb⟩
theorem FrP.refl (w:World) (bp:Nat):FrP w w bp:=⟨rfl,rfl,rfl,Nat.le_refl _,fun _ _ _=>rfl⟩
theorem FrP.trans {w w1 w2:World} {bp:Nat} (h:FrP w w1 bp) (k:FrP w1 w2 bp):FrP w w2 bp:=
 ⟨k.os.trans h.os,k.tape.trans h.tape,k.output.trans h.output,Nat.le_trans h.size k.size,fun b hb hn=>(k.block b (Nat.lt_of_lt_of_le hb h.size) hn).trans (h.block b hb hn)⟩
theorem FrP.of_below {w w':World} (bp:Nat) (h:Below w.heap.size w w'):FrP w w' bp:=ZbD h _
theorem FrP.below {w0 w w':World} {bp:Nat} (h:FrP w w' bp) (h0:Below w0.heap.size w0 w) (hge:w0.heap.size<=bp):Below w0.heap.size w0 w':=h0.grown h h0.size fun k e=>by injection e with e;omega
theorem ZdQ (w0 w:World) (bp c:Nat) (ad:Addr) (L:List Tok) (s:PS) (h:ParQ w0 w bp ad c L s) (hm:s.at_+1<L.length) :
  Calls Tryd.prog 31 #[.pointer (some ⟨bp,0,none⟩)] w fun r w'=>r=.returned (txt (Zx L s.at_).2.1)/\ParQ w0 w' bp ad c L (Zb s)/\FrP w w' bp:=by
 have NX:=zh (Zbq w0 w bp c ad L s h)
 have hfd:∀ (w:World) (a b c:Value),(Instr.field 47 (.agg #[a,b,c]) 1).run Tryd.prog w=.ok b w:=fun _ _ _ _=>by kernel_rfl
 have hcap:=h.cap
 obtain ⟨m,hmm⟩:∃ m,L.length-s.at_=m:=⟨_,rfl⟩
 obtain ⟨k,hkk⟩:∃ k,c-s.at_=k:=⟨_,rfl⟩
 have H:=zh h
 have EQ:=zh (zi hmm (zi hkk hm))
 have i1:1<=m:=by omega
 have i2:m<=k:=by omega
 have i3:2<=m:=by omega
 have i4:(1:Int)<=(m:Int):=by omega
 have i5:(m:Int)<=(k:Int):=by omega
 go_enter Tryd.func31,Tryd.ntmps31
 go_wp2_with (go_at_call 20;(with_reducible refine NX.out.mono ?_);rintro e1 w1 ⟨rfl,hb⟩;have T1:=H.out.box.keep hb;have c0:=T1.blk.cell 0;have f0:=T1.blk.free 0;simp only [List.getElem?_toArray,List.getElem?_cons_zero,hmm,hkk] at c0)
 have e3:(⟨(ad.add (s.at_*3)).block,(ad.add (s.at_*3)).off+3,none⟩:Addr)=ad.add ((Zb s).at_*3):=by
  rw [show (Zb s).at_*3=s.at_*3+3 from by show (s.at_+1)*3=_;omega]
  unfold Addr.add
  rw [if_neg (show ¬ s.at_*3+3=0 by omega)]
  by_cases q:s.at_*3=0<;>simp [q,Nat.add_assoc]
 have T2:=T1.set 0 (.slice (some ⟨(ad.add (s.at_*3)).block,(ad.add (s.at_*3)).off+3,none⟩) (m-1) (k-1))
 have fr:=(FrP.of_below bp hb).trans (ZbH (w:=w1) (g:=bp) (j:=0) (u:=.slice (some ⟨(ad.add (s.at_*3)).block,(ad.add (s.at_*3)).off+3,none⟩) (m-1) (k-1)))
 refine bodyPost_ret (v:=txt (Zx L s.at_).2.1) (by simp [results,Tryd.results31,go_sem]) rfl ⟨rfl,⟨?_,H.out.toks,fr.below H.out.below H.out.ge,H.out.ge,hm,H.out.few,H.out.err⟩,fr⟩
 rw [e3] at T2 ⊢
 rw [show L.length-(Zb s).at_=m-1 from by show L.length-(s.at_+1)=_;have:=EQ.out;omega,show c-(Zb s).at_=k-1 from by show c-(s.at_+1)=_;have:=EQ.out;omega]
 exact T2
theorem PW.not_end {L:List Tok} {k:Nat} {x:Txt} (h:LexL L) (hx:PW x) (hk:k<L.length) (e:(Zx L k).2.1=x):k+1<L.length:=by
 rcases Nat.lt_or_ge (k+1) L.length with q | q
 ·exact q
 ·exfalso
  obtain ⟨a,ha⟩:=h.end_
  have hl:L.length=L.dropLast.length+1:=by
   have:=congrArg List.length ha
   simpa using this
  have e1:L[k]? = some (3,[],a):=by
   have:=congrArg (fun l=>l[k]?) ha
   rw [this,List.getElem?_append_right (by omega),show k-L.dropLast.length=0 by omega]
   rfl
  unfold Zx at e
  rw [e1] at e
  exact hx.1 e.symm
theorem Zg (w0 w:World) (bp c:Nat) (ad:Addr) (L:List Tok) (s:PS) (h:ParQ w0 w bp ad c L s) (x:Txt) (hx:PW x) :
  Calls Tryd.prog 21 #[.pointer (some ⟨bp,0,none⟩),txt x] w fun r w'=>r=.returned (.bool (Zad L x s).1)/\ParQ w0 w' bp ad c L (Zad L x s).2/\FrP w w' bp:=by
 have NX:=zh (Zbq w0 w bp c ad L s h)
 have hfd:∀ (w:World) (a b c:Value),(Instr.field 47 (.agg #[a,b,c]) 1).run Tryd.prog w=.ok b w:=fun _ _ _ _=>by kernel_rfl
 have hi:=ZlW h.few.2.1 hx h.err h.lt
 have H:=zh h
 have HX:=zh hx
 by_cases q:(Zx L s.at_).2.1=x
 ·have hb1:isM L x s=true:=by rw [hi];exact decide_eq_true q
  have ht:Zad L x s=(true,Zb s):=by unfold Zad;rw [if_pos hb1]
  rw [ht]
  have TK:=zh (fun (w':World) (hb:Below w.heap.size w w')=>ZdQ w0 w' bp c ad L s (H.out.keep hb) (PW.not_end H.out.few.2.1 HX.out H.out.lt q))
  have qe:((Zx L s.at_).2.1==x)=true:=by simp [q]
  clear hi hb1 ht h hx
  go_enter Tryd.func21,Tryd.ntmps21
  go_wp2_with (first
   | (go_at_call 20;(with_reducible refine NX.out.mono ?_);rintro e1 w1 ⟨rfl,hb⟩)
   | (go_at_call 31;(refine (TK.out _ hb).mono ?_);rintro e2 w2 ⟨rfl,hP,hF⟩))
  exact bodyPost_ret (v:=.bool true) (by simp [results,Tryd.results21,go_sem]) rfl ⟨rfl,hP,(FrP.of_below bp hb).trans hF⟩
 ·have hb1:isM L x s=false:=by rw [hi];exact decide_eq_false q
  have ht:Zad L x s=(false,s):=by unfold Zad;rw [if_neg (by simp [hb1])]
  rw [ht]
  have qe:((Zx L s.at_).2.1==x)=false:=by simp [q]
  clear hi hb1 ht h hx
  go_enter Tryd.func21,Tryd.ntmps21
  go_wp2_with (go_at_call 20;(with_reducible refine NX.out.mono ?_);rintro e1 w1 ⟨rfl,hb⟩)
  exact bodyPost_ret (v:=.bool false) (by simp [results,Tryd.results21,go_sem]) rfl ⟨rfl,H.out.keep hb,FrP.of_below bp hb⟩
def Zbv {α:Type} (w0 w:World) (bp c:Nat) (ad:Addr) (L:List Tok) (r:α×PS) (Ok:α->Value->World->Prop) (e:Ending) (w':World):Prop:=
 FrP w w' bp/\(r.2.err=0->∃ v,e=.returned v/\ParQ w0 w' bp ad c L r.2/\Ok r.1 v w')/\(r.2.err≠0->e=ZaY r.2.err r.2.fat)
theorem ZZ (w0 w:World) (bp c:Nat) (ad:Addr) (L:List Tok) (s:PS) (h:ParQ w0 w bp ad c L s) (x:Txt) (hx:PW x) :
  Calls Tryd.prog 33 #[.pointer (some ⟨bp,0,none⟩),txt x] w (Zbv w0 w bp c ad L ((),Zd L x s) fun _ v _=>v=.tuple #[]):=by
 have TK:=zh (Zg w0 w bp c ad L s h x hx)
 have H:=zh h
 cases q:isM L x s with
 | true=>
  have ht:Zad L x s=(true,Zb s):=by unfold Zad;rw [if_pos q]
  have hw:Zd L x s=Zb s:=by unfold Zd;rw [if_pos q]
  rw [hw]
  rw [ht] at TK
  clear ht hw h q hx
  go_enter Tryd.func33,Tryd.ntmps33
  go_wp2_with (go_at_call 21;(refine TK.out.mono ?_);rintro e1 w1 ⟨rfl,hP,hF⟩)
  go_end0
  exact ⟨hF,fun _=>⟨_,rfl,hP,rfl⟩,fun e=>absurd hP.err e⟩
 | false=>
  have ht:Zad L x s=(false,s):=by unfold Zad;rw [if_neg (by simp [q])]
  have hw:Zd L x s=ZL L 11 s:=by unfold Zd;rw [if_neg (by simp [q])]
  have hf:ZL L 11 s={ s with err:=11,fat:=(Zx L s.at_).2.2 }:=by unfold ZL;rw [if_pos h.err]
  rw [hw,hf]
  rw [ht] at TK
  clear ht hw h q hx hf
  go_enter Tryd.func33,Tryd.ntmps33
  go_wp2_with (first
   | (go_at_call 21;(refine TK.out.mono ?_);rintro e1 w1 ⟨rfl,hP,hF⟩;have FL:=zh (Zcw w0 w1 bp c ad L s hP 11))
   | (go_at_call 43;(refine FL.out.mono ?_);rintro e2 w2 ⟨rfl,hb⟩))
  exact ⟨rfl,hF.trans (FrP.of_below bp hb),fun e=>absurd e (show ¬ (11:Int)=0 by decide),fun _=>rfl⟩
end
end Go.Proofs.YtfdgeijnkkdplaaDoor
