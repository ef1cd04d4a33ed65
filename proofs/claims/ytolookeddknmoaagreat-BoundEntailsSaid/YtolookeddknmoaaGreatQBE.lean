import Derived.Test.YtolookeddknmoaaGreatQBB
import Derived.Test.YtolookeddknmoaaGreatQBC
import Derived.Test.YtolookeddknmoaaGreatQBD
set_option maxRecDepth 100000
set_option maxHeartbeats 8000000
namespace Go.Proofs.YtolookeddknmoaaGreat
section
open Go.RowKit
def Zaw (w:World) (base:Nat) (v:Value) (ts:List Rw) (S:Nat->Prop):Prop:=
 ∃ rs,rs.map (·.2)=ts/\w.ownsRow base 29 4 v ts.length (Zt rs)/\∀ x∈rs,Zb w x.1 x.2.2.1/\Off S x.1 x.2.2.1
theorem Zaw.nil (w:World) (base:Nat) (S:Nat->Prop):Zaw w base (.slice none 0 0) [] S:=⟨[],rfl,World.ownsRow_nil w base _ _,fun x hx=>by cases hx⟩
theorem Zaw.rows {w:World} {base:Nat} {v:Value} {ts:List Rw} {S:Nat->Prop} (h:Zaw w base v ts S):ZD w v ts:=by
 obtain ⟨rs,h1,h2,h3⟩:=h
 have h0:=h2
 rcases h2.2 with ⟨rfl,hn⟩ | ⟨g,cap,cur,rfl,_,hh,hnc,hrest⟩
 ·have hts:ts=[]:=List.eq_nil_of_length_eq_zero hn
  subst hts
  exact ZD.nil w
 ·exact ⟨some _,cap,rs,rfl,hnc,hrest.1,h1,ZB.of_own h0,fun x hx=>(h3 x hx).1⟩
theorem Zaw.lt {w:World} {base:Nat} {v:Value} {ts:List Rw} {S:Nat->Prop} (h:Zaw w base v ts S):∀ k,v.ownBlock=some k->base<=k/\k<w.heap.size:=by
 obtain ⟨rs,_,h2,_⟩:=h
 exact h2.lt
theorem Zaw.below {w w':World} {base:Nat} {v:Value} {ts:List Rw} {S:Nat->Prop} (h:Zaw w base v ts S) (hb:Below w.heap.size w w'):Zaw w' base v ts S:=by
 obtain ⟨rs,h1,h2,h3⟩:=h
 exact ⟨rs,h1,h2.kept (Zac hb none) (by cases hv:v.ownBlock<;>simp),fun x hx=>⟨(h3 x hx).1.below hb,(h3 x hx).2⟩⟩
theorem Zaw.other {w w':World} {base:Nat} {v:Value} {ts:List Rw} {S:Nat->Prop} {row:Option Nat} (h:Zaw w base v ts S) (hg:w.grownBy w' row) (hr:∀ b,row=some b->S b/\v.ownBlock≠some b):Zaw w' base v ts S:=by
 obtain ⟨rs,h1,h2,h3⟩:=h
 refine ⟨rs,h1,h2.kept hg ?_,fun x hx=>⟨(h3 x hx).1.off (h3 x hx).2 hg fun b e=>(hr b e).1,(h3 x hx).2⟩⟩
 cases row with
 | none=>cases hv:v.ownBlock<;>simp
 | some b=>exact .inr (hr b rfl).2
theorem Zaw.mono {w:World} {base:Nat} {v:Value} {ts:List Rw} {S S':Nat->Prop} (h:Zaw w base v ts S) (hs:∀ b,S' b->S b\/w.heap.size<=b):Zaw w base v ts S':=by
 obtain ⟨rs,h1,h2,h3⟩:=h
 exact ⟨rs,h1,h2,fun x hx=>⟨(h3 x hx).1,(h3 x hx).2.more (h3 x hx).1 hs⟩⟩
theorem Zaw.base {w:World} {base base':Nat} {v:Value} {ts:List Rw} {S:Nat->Prop} (h:Zaw w base v ts S) (hb:base'<=base):Zaw w base' v ts S:=by
 obtain ⟨rs,h1,h2,h3⟩:=h
 refine ⟨rs,h1,⟨h2.1,?_⟩,h3⟩
 rcases h2.2 with q | ⟨g,cap,cur,e,hg,rest⟩
 ·exact .inl q
 ·exact .inr ⟨g,cap,cur,e,Nat.le_trans hb hg,rest⟩
theorem Zaw.appended {w w':World} {base:Nat} {v v' vt:Value} {ts:List Rw} {rs:List (Value×Rw)} {t:Rw} {S S':Nat->Prop} (h1:rs.map (·.2)=ts) (h3:∀ x∈rs,Zb w x.1 x.2.2.1/\Off S x.1 x.2.2.1)
  (hown:w'.ownsRow base 29 4 v' (ts.length+1) (Zt rs++[.int .i64 t.1,vt,.int .i64 t.2.2.1,.int .i64 t.2.2.2])) (hg:w.grownBy w' v.ownBlock) (hv:∀ b,v.ownBlock=some b->S b) (hr:Zb w vt t.2.1) (ho:Off S vt t.2.1) (hs:∀ b,S' b->S b\/w.heap.size<=b) :
  Zaw w' base v' (ts++[t]) S':=by
 have key:∀ x∈rs++[(vt,t)],Zb w x.1 x.2.2.1/\Off S x.1 x.2.2.1:=by
  intro x hx
  rcases List.mem_append.1 hx with q | q
  ·exact h3 x q
  ·rw [List.mem_singleton] at q
   subst q
   exact ⟨hr,ho⟩
 refine ⟨rs++[(vt,t)],by rw [List.map_append,h1];rfl,?_,fun x hx=>⟨(key x hx).1.off (key x hx).2 hg hv,(key x hx).2.more (key x hx).1 hs⟩⟩
 rw [List.length_append,Ze5]
 exact hown
theorem Zc6:(Tryz.prog.info? 29).map (fun i=>(i.zero,i.size,i.bytes))=some (some (.agg #[.int .i64 0,.slice none 0 0,.int .i64 0,.int .i64 0]),4,48):=by kernel_rfl
end
section
open Go.RowKit
def ZN (ts:List Rw):List Trm:=(ts.filter fun r=>r.1==0).map (·.2)
def Zbf (ts:List Rw):List Rw:=ts.filter fun r=>!(r.1==0)
structure ParS (W w:World) (ve:Value) (es:List Trm) (vo:Value) (os:List Rw):Prop where
 e:ZY w W.heap.size ve es (fun b=>W.heap.size<=b)
 o:Zaw w W.heap.size vo os (fun b=>W.heap.size<=b)
 ne:∀ b,ve.ownBlock=some b->vo.ownBlock≠some b
 below:Below W.heap.size W w
section
variable {W w w':World} {ve ve' vo vo' vt:Value} {es:List Trm} {os:List Rw}
theorem ParS.start (W:World):ParS W W (.slice none 0 0) [] (.slice none 0 0) []:=⟨ZY.nil _ _ _,Zaw.nil _ _ _,fun b h=>(by cases h),Below.refl _ _⟩
theorem ParS.keep (h:ParS W w ve es vo os) (hb:Below w.heap.size w w'):ParS W w' ve es vo os:=⟨h.e.below hb,h.o.below hb,h.ne,h.below.trans (hb.mono h.below.size)⟩
theorem ZfH {l:List (Int×Int)} (hr:Zb W vt l):Off (fun b=>W.heap.size<=b) vt l:=fun hl b hb q=>by have:=hr.lt hl b hb;omega
theorem ParS.pushE {t:Trm} {rs:List (Value×Trm)} (h:ParS W w ve es vo os) (h1:rs.map (·.2)=es) (h3:∀ x∈rs,Zb w x.1 x.2.1/\Off (fun b=>W.heap.size<=b) x.1 x.2.1)
  (hown:w'.ownsRow W.heap.size 27 3 ve' (es.length+1) (Zg rs++[vt,.int .i64 t.2.1,.int .i64 t.2.2])) (hg:w.grownBy w' ve.ownBlock) (hv:ve'.ownBlock=ve.ownBlock\/ve'.ownBlock=some w.heap.size) (hr:Zb W vt t.1):ParS W w' ve' (es++[t]) vo os:=by
 refine ⟨ZY.appended h1 h3 hown hg (fun b hb=>(h.e.lt b hb).1) (hr.below h.below) (ZfH hr) fun b hb=>.inl hb,h.o.other hg fun b hb=>⟨(h.e.lt b hb).1,h.ne b hb⟩,fun b hb q=>?_,h.below.grown hg h.below.size fun k hk=>(h.e.lt k hk).1⟩
 rcases hv with e | e
 ·exact h.ne b (e▸hb) q
 ·rw [e] at hb
  injection hb with hb
  have:=(h.o.lt b q).2
  omega
theorem ParS.pushO {t:Rw} {rs:List (Value×Rw)} (h:ParS W w ve es vo os) (h1:rs.map (·.2)=os) (h3:∀ x∈rs,Zb w x.1 x.2.2.1/\Off (fun b=>W.heap.size<=b) x.1 x.2.2.1)
  (hown:w'.ownsRow W.heap.size 29 4 vo' (os.length+1) (Zt rs++[.int .i64 t.1,vt,.int .i64 t.2.2.1,.int .i64 t.2.2.2])) (hg:w.grownBy w' vo.ownBlock) (hv:vo'.ownBlock=vo.ownBlock\/vo'.ownBlock=some w.heap.size) (hr:Zb W vt t.2.1):ParS W w' ve es vo' (os++[t]):=by
 refine ⟨h.e.other hg fun b hb=>⟨(h.o.lt b hb).1,fun q=>h.ne b q hb⟩,Zaw.appended h1 h3 hown hg (fun b hb=>(h.o.lt b hb).1) (hr.below h.below) (ZfH hr) fun b hb=>.inl hb,fun b hb q=>?_,h.below.grown hg h.below.size fun k hk=>(h.o.lt k hk).1⟩
 rcases hv with e | e
 ·exact h.ne b hb (e▸q)
 ·rw [e] at q
  injection q with q
  have:=(h.e.lt b hb).2
  omega
theorem Zmu {t:Trm} {kn kd:Int} {A:Option Addr} {c k:Nat} (P:ParS W w ve es vo os) (hk:es.length=k) (ty:TypeId) :
  ∃ rs,rs.map (·.2)=es/\(w.alloc (.cells #[.slice A t.1.length c,.int .i64 kn,.int .i64 kd] ty)).ownsRow W.heap.size 27 3 ve k (Zg rs)/\(∀ x∈rs,Zb (w.alloc (.cells #[.slice A t.1.length c,.int .i64 kn,.int .i64 kd] ty)) x.1 x.2.1/\Off (fun b=>W.heap.size<=b) x.1 x.2.1)/\ParS W (w.alloc (.cells #[.slice A t.1.length c,.int .i64 kn,.int .i64 kd] ty)) ve es vo os ∧
   ZB (w.alloc (.cells #[.slice A t.1.length c,.int .i64 kn,.int .i64 kd] ty)) (w.heap.size+1) 3 (some ⟨w.heap.size,0,none⟩) 1 [.slice A t.1.length c,.int .i64 kn,.int .i64 kd]:=by
 have LA:=P.keep (Za w (.cells #[.slice A t.1.length c,.int .i64 kn,.int .i64 kd] ty))
 obtain ⟨rs,z1,z2,z3⟩:=LA.e
 rw [hk] at z2
 exact ⟨rs,z1,z2,z3,LA,(Zav (wo:=w) (x:=#[.slice A t.1.length c,.int .i64 kn,.int .i64 kd]) (ty:=ty) (Nat.zero_le _)).reads (size:=3) rfl⟩
theorem Zqd {t:Rw} {op kn kd:Int} {A:Option Addr} {c k:Nat} (P:ParS W w ve es vo os) (hk:os.length=k) (ty:TypeId) :
  ∃ rs,rs.map (·.2)=os/\(w.alloc (.cells #[.int .i64 op,.slice A t.2.1.length c,.int .i64 kn,.int .i64 kd] ty)).ownsRow W.heap.size 29 4 vo k (Zt rs)/\(∀ x∈rs,Zb (w.alloc (.cells #[.int .i64 op,.slice A t.2.1.length c,.int .i64 kn,.int .i64 kd] ty)) x.1 x.2.2.1/\Off (fun b=>W.heap.size<=b) x.1 x.2.2.1)/\ParS W (w.alloc (.cells #[.int .i64 op,.slice A t.2.1.length c,.int .i64 kn,.int .i64 kd] ty)) ve es vo os ∧
   ZB (w.alloc (.cells #[.int .i64 op,.slice A t.2.1.length c,.int .i64 kn,.int .i64 kd] ty)) (w.heap.size+1) 4 (some ⟨w.heap.size,0,none⟩) 1 [.int .i64 op,.slice A t.2.1.length c,.int .i64 kn,.int .i64 kd]:=by
 have LA:=P.keep (Za w (.cells #[.int .i64 op,.slice A t.2.1.length c,.int .i64 kn,.int .i64 kd] ty))
 obtain ⟨rs,z1,z2,z3⟩:=LA.o
 rw [hk] at z2
 exact ⟨rs,z1,z2,z3,LA,(Zav (wo:=w) (x:=#[.int .i64 op,.slice A t.2.1.length c,.int .i64 kn,.int .i64 kd]) (ty:=ty) (Nat.zero_le _)).reads (size:=4) rfl⟩
end
theorem Zp3 (A:Option Addr) (n c:Nat) (x y:Int):∀ u∈[(Value.slice A n c),.int .i64 x,.int .i64 y],u.oneCell'=true:=fun u hu=>by
 simp at hu
 rcases hu with rfl | rfl | rfl<;>rfl
theorem Zcw (A:Option Addr) (n c:Nat) (z x y:Int):∀ u∈[Value.int .i64 z,(Value.slice A n c),.int .i64 x,.int .i64 y],u.oneCell'=true:=fun u hu=>by
 simp at hu
 rcases hu with rfl | rfl | rfl | rfl<;>rfl
def Zmr (w:World) (ts:List Rw) (e:Ending) (w':World):Prop:=
 ∃ A c B d,e=.returned (.tuple #[.slice A (ZN ts).length c,.slice B (Zbf ts).length d])/\Zal w' (.slice A (ZN ts).length c) (ZN ts)/\ZD w' (.slice B (Zbf ts).length d) (Zbf ts)/\Below w.heap.size w w'
theorem Znh (w:World) (v:Value) (ts:List Rw) (h:ZD w v ts) (hl:ts.length<=1000) :
  Calls Tryz.prog 19 #[v] w (Zmr w ts):=by
 obtain ⟨iT,hiT,zT0,zT1,zT2⟩:=info_parts Zf3
 obtain ⟨iR,hiR,zR0,zR1,zR2⟩:=info_parts Zc6
 obtain ⟨A,c,rs,rfl,h2,h3,h4,h5,h6⟩:=h
 obtain ⟨n,hn⟩:∃ n,n=ts.length:=⟨_,rfl⟩
 have hrn:rs.length=n:=by rw [hn,<- h4,List.length_map]
 rw [<- hn] at h2 h5 hl ⊢
 have HN:=Lib.hid (And.intro hrn (And.intro h4 (And.intro h5 (And.intro h6 (And.intro hn hl)))))
 clear hn hrn h2 h3 h4 h5 h6 hl
 go_enter Tryz.func19,Tryz.ntmps19
 go_wp2_with fail
 go_loopg [4,5,10] n (fun g v4 v5 v10 wr=>∃ (k:Nat) (ve vo:Value),ve=v4/\vo=v5/\v10=.int .i64 k/\k<=n/\g=n-k/\ParS w wr ve (ZN (ts.take k)) vo (Zbf (ts.take k)))
 case atStart=>exact ⟨0,_,_,rfl,rfl,rfl,Nat.zero_le _,rfl,ParS.start w⟩
 case round=>
  obtain ⟨k,ve,vo,rfl,rfl,rfl,hk,hg,D⟩:=hrel
  by_cases hkn:k=n
  ·have he:ts.take k=ts:=by rw [hkn,HN.out.2.2.2.2.1];exact List.take_length
   rw [he] at D
   have TE:=D.e.terms
   have TO:=D.o.rows
   obtain ⟨Ae,ce,rfl⟩:∃ A c,ve=.slice A (ZN ts).length c:=by obtain ⟨A,c,_,e,_⟩:=TE;exact ⟨A,c,e⟩
   obtain ⟨Ao,co_,rfl⟩:∃ A c,vo=.slice A (Zbf ts).length c:=by obtain ⟨A,c,_,e,_⟩:=TO;exact ⟨A,c,e⟩
   have FIN:=Lib.hid (show Zmr w ts (.returned (.tuple #[.slice Ae (ZN ts).length ce,.slice Ao (Zbf ts).length co_])) wr from ⟨Ae,ce,Ao,co_,rfl,TE,TO,D.below⟩)
   subst hkn
   clear hk hg D TE TO he
   generalize (ZN ts).length=z1 at *
   generalize (Zbf ts).length=z2 at *
   go_wp2_with fail
   go_ret2
   exact FIN.out
  ·have hlt:k<n:=by omega
   obtain ⟨y,hy⟩:∃ y,rs[k]? = some y:=⟨_,List.getElem?_eq_getElem (by have:=HN.out.1;omega)⟩
   have hyt:ts[k]? = some y.2:=by rw [<- HN.out.2.1,List.getElem?_map,hy];rfl
   obtain ⟨ad,rfl,d0,d1,d2,d3⟩:=ZaF HN.out.2.2.1 D.below hy (by omega)
   have hr:=HN.out.2.2.2.1 y (List.mem_of_getElem? hy)
   have i1:(k:Int)<(n:Int):=by omega
   have i2:(0:Int)<=(k:Int):=by omega
   have wk:IntKind.i64.wrap ((k:Int)+1)=(k:Int)+1:=IntWalk.i64_in _ (by have:=HN.out.2.2.2.2.2;omega)
   have tk1:ts.take (k+1)=ts.take k++[y.2]:=by rw [List.take_add_one,hyt];rfl
   have le:(ZN (ts.take k)).length<=k:=by unfold ZN;rw [List.length_map];exact Nat.le_trans (List.length_filter_le _ _) (by rw [List.length_take];omega)
   have lo:(Zbf (ts.take k)).length<=k:=Nat.le_trans (List.length_filter_le _ _) (by rw [List.length_take];omega)
   obtain ⟨y0,yo,yl,y1,y2⟩:=y
   dsimp only at *
   obtain ⟨Ay,cy,rfl⟩:=Zd hr
   have HK:=Lib.hid (And.intro hlt hg)
   have LK:=Lib.hid (And.intro (by have:=HN.out.2.2.2.2.2;unfold maxLen;omega:k+1<=maxLen) (And.intro le lo))
   have D1:=D.keep (Za wr (.cells #[.int .i64 yo,.slice Ay yl.length cy,.int .i64 y1,.int .i64 y2] 29))
   by_cases h0:yo=0
   ·have e0:(yo==0)=true:=by rw [h0];rfl
    have n1:ZN (ts.take (k+1))=ZN (ts.take k)++[(yl,y1,y2)]:=by rw [tk1];unfold ZN;rw [List.filter_append,List.map_append];simp [h0]
    have n2:Zbf (ts.take (k+1))=Zbf (ts.take k):=by rw [tk1];unfold Zbf;rw [List.filter_append];simp [h0]
    have QW:=Lib.hid (Zmu (t:=(yl,y1,y2)) (kn:=y1) (kd:=y2) (A:=Ay) (c:=cy) D1 rfl 27)
    obtain ⟨rs2,QV⟩:=QW.out
    have QW:=Lib.hid QV
    have NX:=Lib.hid (And.intro n1 (And.intro n2 hr))
    clear QV D D1 hk hg hlt hkn hy hyt hr tk1 le lo n1 n2 h0
    go_wp2_with (at_builtin;refine Zm _ rfl _ _ 49 rfl w.heap.size 27 iT (.agg #[.slice none 0 0,.int .i64 0,.int .i64 0]) 3 40 Tryz.underlying49 hiT zT0 zT1 zT2 rfl (by decide) _ (ZN (ts.take k)).length (Zg rs2) rfl QW.out.2.1 (wr.heap.size+1+1) (some ⟨wr.heap.size+1,0,none⟩) 1 1 [.slice Ay yl.length cy,.int .i64 y1,.int .i64 y2] rfl (by have:=QW.out.2.2.2.2;simpa using this) (Zp3 _ _ _ _ _) (by have:=LK.out;omega) (by have:=LK.out;have:=HN.out.2.2.2.2.2;have:=HK.out;omega) QW.out.2.2.2.1.below.size ?_)
    intro v8 w8 hown hgrow hat
    have D8:=Lib.hid (ParS.pushE (t:=(yl,y1,y2)) QW.out.2.2.2.1 QW.out.1 QW.out.2.2.1 hown hgrow (by first | exact hat | simpa using hat) NX.out.2.2)
    clear hown hgrow hat
    go_wp2_with fail
    go_roundg (n-(k+1))
    case measure=>have:=HK.out;omega
    case rel=>exact ⟨k+1,v8,vo,rfl,rfl,by push_cast;rfl,by have:=HK.out;omega,rfl,by rw [NX.out.1,NX.out.2.1];exact D8.out⟩
   ·have e0:(yo==0)=false:=by simpa using h0
    have n1:ZN (ts.take (k+1))=ZN (ts.take k):=by rw [tk1];unfold ZN;rw [List.filter_append,List.map_append];simp [h0]
    have n2:Zbf (ts.take (k+1))=Zbf (ts.take k)++[(yo,yl,y1,y2)]:=by rw [tk1];unfold Zbf;rw [List.filter_append];simp [h0]
    have QW:=Lib.hid (Zqd (t:=(yo,yl,y1,y2)) (op:=yo) (kn:=y1) (kd:=y2) (A:=Ay) (c:=cy) D1 rfl 29)
    obtain ⟨rs2,QV⟩:=QW.out
    have QW:=Lib.hid QV
    have NX:=Lib.hid (And.intro n1 (And.intro n2 hr))
    clear QV D D1 hk hg hlt hkn hy hyt hr tk1 le lo n1 n2 h0
    go_wp2_with (at_builtin;refine Zm _ rfl _ _ 22 rfl w.heap.size 29 iR (.agg #[.int .i64 0,.slice none 0 0,.int .i64 0,.int .i64 0]) 4 48 Tryz.underlying22 hiR zR0 zR1 zR2 rfl (by decide) _ (Zbf (ts.take k)).length (Zt rs2) rfl QW.out.2.1 (wr.heap.size+1+1) (some ⟨wr.heap.size+1,0,none⟩) 1 1 [.int .i64 yo,.slice Ay yl.length cy,.int .i64 y1,.int .i64 y2] rfl (by have:=QW.out.2.2.2.2;simpa using this) (Zcw _ _ _ _ _ _) (by have:=LK.out;omega) (by have:=LK.out;have:=HN.out.2.2.2.2.2;have:=HK.out;omega) QW.out.2.2.2.1.below.size ?_)
    intro v8 w8 hown hgrow hat
    have D8:=Lib.hid (ParS.pushO (t:=(yo,yl,y1,y2)) QW.out.2.2.2.1 QW.out.1 QW.out.2.2.1 hown hgrow (by first | exact hat | simpa using hat) NX.out.2.2)
    clear hown hgrow hat
    go_wp2_with fail
    go_roundg (n-(k+1))
    case measure=>have:=HK.out;omega
    case rel=>exact ⟨k+1,ve,v8,rfl,rfl,by push_cast;rfl,by have:=HK.out;omega,rfl,by rw [NX.out.1,NX.out.2.1];exact D8.out⟩
end
section
open Go.RowKit
def ZV (w:World) (v:Value) (ts:List Rw) (S:Nat->Prop):Prop:=
 ∃ A c rs,v=.slice A ts.length c/\ts.length<=c/\c<=maxLen/\rs.map (·.2)=ts/\ZB w w.heap.size 4 A ts.length (Zt rs)/\(ts≠[]->∀ b,v.ownBlock=some b->¬ S b)/\∀ x∈rs,Zb w x.1 x.2.2.1/\Off S x.1 x.2.2.1
theorem ZV.rows {w:World} {v:Value} {ts:List Rw} {S:Nat->Prop} (h:ZV w v ts S):ZD w v ts:=by
 obtain ⟨A,c,rs,h1,h2,h3,h4,h5,_,h6⟩:=h
 exact ⟨A,c,rs,h1,h2,h3,h4,h5,fun x hx=>(h6 x hx).1⟩
theorem ZV.nil (w:World) (S:Nat->Prop):ZV w (.slice none 0 0) [] S:=⟨none,0,[],rfl,Nat.le_refl _,by decide,rfl,ZB.none_,fun h=>absurd rfl h,fun x hx=>by cases hx⟩
theorem ZV.below {w w':World} {v:Value} {ts:List Rw} {S:Nat->Prop} (h:ZV w v ts S) (hb:Below w.heap.size w w'):ZV w' v ts S:=by
 obtain ⟨A,c,rs,h1,h2,h3,h4,h5,h7,h6⟩:=h
 exact ⟨A,c,rs,h1,h2,h3,h4,(h5.below hb).more hb.size,h7,fun x hx=>⟨(h6 x hx).1.below hb,(h6 x hx).2⟩⟩
theorem ZV.of {w:World} {v:Value} {ts:List Rw} {S:Nat->Prop} (h:ZD w v ts) (hS:∀ b,S b->w.heap.size<=b):ZV w v ts S:=by
 obtain ⟨A,c,rs,rfl,h2,h3,h4,h5,h6⟩:=h
 refine ⟨A,c,rs,rfl,h2,h3,h4,h5,fun hn b hb q=>?_,fun x hx=>⟨h6 x hx,fun hl b hb q=>?_⟩⟩
 ·obtain ⟨ad,rfl,hlt,_⟩:=h5.2 (List.length_pos_iff.2 hn)
  have e:ad.block=b:=by simpa [Value.ownBlock] using hb
  have:=hS b q
  omega
 ·have:=(h6 x hx).lt hl b hb
  have:=hS b q
  omega
theorem ZV.mono {w:World} {v:Value} {ts:List Rw} {S S':Nat->Prop} (h:ZV w v ts S) (hs:∀ b,S' b->S b\/w.heap.size<=b):ZV w v ts S':=by
 obtain ⟨A,c,rs,rfl,h2,h3,h4,h5,h7,h6⟩:=h
 refine ⟨A,c,rs,rfl,h2,h3,h4,h5,fun hn b hb q=>?_,fun x hx=>⟨(h6 x hx).1,(h6 x hx).2.more (h6 x hx).1 hs⟩⟩
 rcases hs b q with g | g
 ·exact h7 hn b hb g
 ·obtain ⟨ad,rfl,hlt,_⟩:=h5.2 (List.length_pos_iff.2 hn)
  have e:ad.block=b:=by simpa [Value.ownBlock] using hb
  omega
theorem Zl8 {w w':World} {row:Option Nat} {size:Nat} {A:Option Addr} {n c:Nat} {xs:List Value} (h:ZB w w.heap.size size A n xs) (hg:w.grownBy w' row) (ho:0<n->∀ b,(Value.slice A n c).ownBlock=some b->row≠some b):ZB w' w'.heap.size size A n xs:=by
 refine ⟨h.1,fun hn=>?_⟩
 obtain ⟨ad,rfl,hlt,hc⟩:=h.2 hn
 refine ⟨ad,rfl,Nat.lt_of_lt_of_le hlt hg.size,fun j u hu=>?_⟩
 have hne:row≠some ad.block:=ho hn _ rfl
 exact (World.cell?_of_block (hg.block (ad.add j).block (by rw [ZL];exact hlt) (by rw [ZL];exact fun e=>hne e.symm))).trans (hc j u hu)
theorem ZV.grown {w w':World} {row:Option Nat} {v:Value} {ts:List Rw} {S:Nat->Prop} (h:ZV w v ts S) (hg:w.grownBy w' row) (hr:∀ b,row=some b->S b):ZV w' v ts S:=by
 obtain ⟨A,c,rs,rfl,h2,h3,h4,h5,h7,h6⟩:=h
 exact ⟨A,c,rs,rfl,h2,h3,h4,Zl8 h5 hg fun hn b hb e=>h7 (List.length_pos_iff.1 hn) b hb (hr b e),h7,fun x hx=>⟨(h6 x hx).1.off (h6 x hx).2 hg hr,(h6 x hx).2⟩⟩
theorem Zaw.isin {w:World} {base:Nat} {v:Value} {ts:List Rw} {S S':Nat->Prop} (h:Zaw w base v ts S) (hv:∀ b,v.ownBlock=some b->¬ S' b) (hs:∀ b,S' b->S b\/w.heap.size<=b):ZV w v ts S':=by
 obtain ⟨rs,h1,h2,h3⟩:=h.mono hs
 have h0:=h2
 rcases h2.2 with ⟨rfl,hn⟩ | ⟨g,cap,cur,rfl,_,hh,hnc,hrest⟩
 ·have hts:ts=[]:=List.eq_nil_of_length_eq_zero hn
  subst hts
  exact ZV.nil w S'
 ·exact ⟨some _,cap,rs,rfl,hnc,hrest.1,h1,ZB.of_own h0,fun _=>hv,fun x hx=>h3 x hx⟩
def Zaf (S0:Nat->Prop) (va vb vc:Value) (b:Nat):Prop:=va.ownBlock=some b\/vb.ownBlock=some b\/vc.ownBlock=some b\/S0 b
structure Tri (S0:Nat->Prop) (W w:World) (va:Value) (xa:List Rw) (vb:Value) (xb:List Rw) (vc:Value) (xc:List Rw):Prop where
 a:Zaw w W.heap.size va xa (Zaf S0 va vb vc)
 b:Zaw w W.heap.size vb xb (Zaf S0 va vb vc)
 c:Zaw w W.heap.size vc xc (Zaf S0 va vb vc)
 ab:∀ k,va.ownBlock=some k->vb.ownBlock≠some k
 ac:∀ k,va.ownBlock=some k->vc.ownBlock≠some k
 bc:∀ k,vb.ownBlock=some k->vc.ownBlock≠some k
 s0:∀ b,S0 b->b<W.heap.size
 below:Below W.heap.size W w
section
variable {S0:Nat->Prop} {W w w':World} {va va' vb vc vt:Value} {xa xb xc:List Rw}
theorem Tri.start (hs:∀ b,S0 b->b<W.heap.size):Tri S0 W W (.slice none 0 0) [] (.slice none 0 0) [] (.slice none 0 0) []:=
 ⟨Zaw.nil _ _ _,Zaw.nil _ _ _,Zaw.nil _ _ _,fun b h=>(by cases h),fun b h=>(by cases h),fun b h=>(by cases h),hs,Below.refl _ _⟩
theorem Tri.keep (h:Tri S0 W w va xa vb xb vc xc) (hb:Below w.heap.size w w'):Tri S0 W w' va xa vb xb vc xc:=
 ⟨h.a.below hb,h.b.below hb,h.c.below hb,h.ab,h.ac,h.bc,h.s0,h.below.trans (hb.mono h.below.size)⟩
theorem Tri.swab (h:Tri S0 W w va xa vb xb vc xc):Tri S0 W w vb xb va xa vc xc:=by
 have e:∀ b,Zaf S0 vb va vc b->Zaf S0 va vb vc b\/w.heap.size<=b:=fun b q=>.inl (by
  rcases q with q | q | q
  ·exact .inr (.inl q)
  ·exact .inl q
  ·exact .inr (.inr q))
 exact ⟨h.b.mono e,h.a.mono e,h.c.mono e,fun k p q=>h.ab k q p,h.bc,h.ac,h.s0,h.below⟩
theorem Tri.swac (h:Tri S0 W w va xa vb xb vc xc):Tri S0 W w vc xc vb xb va xa:=by
 have e:∀ b,Zaf S0 vc vb va b->Zaf S0 va vb vc b\/w.heap.size<=b:=fun b q=>.inl (by
  rcases q with q | q | q | q
  ·exact .inr (.inr (.inl q))
  ·exact .inr (.inl q)
  ·exact .inl q
  ·exact .inr (.inr (.inr q)))
 exact ⟨h.c.mono e,h.b.mono e,h.a.mono e,fun k p q=>h.bc k q p,fun k p q=>h.ac k q p,fun k p q=>h.ab k q p,h.s0,h.below⟩
theorem Tri.lt (h:Tri S0 W w va xa vb xb vc xc):∀ b,Zaf S0 va vb vc b->b<w.heap.size:=fun b q=>by
 rcases q with q | q | q | q
 ·exact (h.a.lt b q).2
 ·exact (h.b.lt b q).2
 ·exact (h.c.lt b q).2
 ·exact Nat.lt_of_lt_of_le (h.s0 b q) h.below.size
theorem Tri.old (h:Tri S0 W w va xa vb xb vc xc):∀ b,Zaf S0 va vb vc b->S0 b\/W.heap.size<=b:=fun b q=>by
 rcases q with q | q | q | q
 ·exact .inr (h.a.lt b q).1
 ·exact .inr (h.b.lt b q).1
 ·exact .inr (h.c.lt b q).1
 ·exact .inl q
theorem Tri.push {t:Rw} {rs:List (Value×Rw)} (h:Tri S0 W w va xa vb xb vc xc) (h1:rs.map (·.2)=xa) (h3:∀ x∈rs,Zb w x.1 x.2.2.1/\Off (Zaf S0 va vb vc) x.1 x.2.2.1)
  (hown:w'.ownsRow W.heap.size 29 4 va' (xa.length+1) (Zt rs++[.int .i64 t.1,vt,.int .i64 t.2.2.1,.int .i64 t.2.2.2])) (hg:w.grownBy w' va.ownBlock) (hv:va'.ownBlock=va.ownBlock\/va'.ownBlock=some w.heap.size) (hr:Zb w vt t.2.1) (ho:Off (Zaf S0 va vb vc) vt t.2.1) :
  Tri S0 W w' va' (xa++[t]) vb xb vc xc:=by
 have hs3:∀ b,Zaf S0 va' vb vc b->Zaf S0 va vb vc b\/w.heap.size<=b:=by
  intro b q
  rcases q with q | q
  ·rcases hv with e | e
   ·rw [e] at q;exact .inl (.inl q)
   ·rw [e] at q;injection q with q;exact .inr (by omega)
  ·exact .inl (.inr q)
 have a:=Zaw.appended (S:=Zaf S0 va vb vc) (S':=Zaf S0 va' vb vc) h1 h3 hown hg (fun b hb=>.inl hb) hr ho hs3
 have b0:Zaw w W.heap.size vb xb (fun b=>Zaf S0 va vb vc b\/Zaf S0 va' vb vc b):=h.b.mono fun b hb=>hb.elim .inl (hs3 b)
 have c0:Zaw w W.heap.size vc xc (fun b=>Zaf S0 va vb vc b\/Zaf S0 va' vb vc b):=h.c.mono fun b hb=>hb.elim .inl (hs3 b)
 have b1:=b0.other hg fun b hb=>⟨.inl (.inl hb),h.ab b hb⟩
 have c1:=c0.other hg fun b hb=>⟨.inl (.inl hb),h.ac b hb⟩
 refine ⟨a,b1.mono fun b hb=>.inl (.inr hb),c1.mono fun b hb=>.inl (.inr hb),fun k hk q=>?_,fun k hk q=>?_,h.bc,h.s0,h.below.grown hg h.below.size fun k hk=>(h.a.lt k hk).1⟩
 ·rcases hv with e | e
  ·exact h.ab k (e▸hk) q
  ·rw [e] at hk
   injection hk with hk
   have:=(h.b.lt k q).2
   omega
 ·rcases hv with e | e
  ·exact h.ac k (e▸hk) q
  ·rw [e] at hk
   injection hk with hk
   have:=(h.c.lt k q).2
   omega
theorem Tri.ahead {n:Nat} {op kn kd:Int} {A:Option Addr} {c k:Nat} (P:Tri S0 W w va xa vb xb vc xc) (hk:xa.length=k) (ty:TypeId) :
  ∃ rs,rs.map (·.2)=xa/\(w.alloc (.cells #[.int .i64 op,.slice A n c,.int .i64 kn,.int .i64 kd] ty)).ownsRow W.heap.size 29 4 va k (Zt rs)/\(∀ x∈rs,Zb (w.alloc (.cells #[.int .i64 op,.slice A n c,.int .i64 kn,.int .i64 kd] ty)) x.1 x.2.2.1/\Off (Zaf S0 va vb vc) x.1 x.2.2.1)/\Tri S0 W (w.alloc (.cells #[.int .i64 op,.slice A n c,.int .i64 kn,.int .i64 kd] ty)) va xa vb xb vc xc ∧
   ZB (w.alloc (.cells #[.int .i64 op,.slice A n c,.int .i64 kn,.int .i64 kd] ty)) (w.heap.size+1) 4 (some ⟨w.heap.size,0,none⟩) 1 [.int .i64 op,.slice A n c,.int .i64 kn,.int .i64 kd]:=by
 have LA:=P.keep (Za w (.cells #[.int .i64 op,.slice A n c,.int .i64 kn,.int .i64 kd] ty))
 obtain ⟨rs,z1,z2,z3⟩:=LA.a
 rw [hk] at z2
 exact ⟨rs,z1,z2,z3,LA,(Zav (wo:=w) (x:=#[.int .i64 op,.slice A n c,.int .i64 kn,.int .i64 kd]) (ty:=ty) (Nat.zero_le _)).reads (size:=4) rfl⟩
end
end
section
open Go.RowKit
def Zdg (a b:Rw):Int:=if a.1=2\/b.1=2 then 2 else 1
def Zbw (a b:Rw):Option Rw:=(Zcc a.2 b.2).map fun t=>(Zdg a b,t)
def Zaq (a:Rw):List Rw->List Rw->Option (List Rw)
 | acc,[]=>some acc
 | acc,b::r=>(Zbw a b).bind fun t=>Zaq a (acc++[t]) r
def ZaN:List Rw->List Rw->List Rw->Option (List Rw)
 | acc,[],_=>some acc
 | acc,a::r,up=>(Zaq a acc up).bind fun acc'=>ZaN acc' r up
def Za5 (s:Zbc):Option (List Rw):=if 400<s.1.length+s.2.1.length*s.2.2.length then none else ZaN s.1 s.2.1 s.2.2
theorem Zlv (a:Rw):∀ (up acc res:List Rw),Zaq a acc up=some res->(∀ t,t∈res↔t∈acc\/∃ b∈up,Zbw a b=some t)/\∀ b∈up,∃ t,Zbw a b=some t
 | [],acc,res,h=>by
  obtain rfl:=Option.some.inj h
  exact ⟨fun t=>by simp,fun b hb=>by cases hb⟩
 | b::r,acc,res,h=>by
  rw [Zaq] at h
  cases e:Zbw a b with
  | none=>rw [e] at h;cases h
  | some u=>
   rw [e] at h
   obtain ⟨i1,i2⟩:=Zlv a r _ res h
   refine ⟨fun t=>?_,fun c hc=>?_⟩
   ·rw [i1 t]
    simp only [List.mem_append,List.mem_cons,List.not_mem_nil,or_false]
    constructor
    ·rintro ((x | rfl) | ⟨c,hc,x⟩)
     ·exact .inl x
     ·exact .inr ⟨b,.inl rfl,e⟩
     ·exact .inr ⟨c,.inr hc,x⟩
    ·rintro (x | ⟨c,rfl | hc,x⟩)
     ·exact .inl (.inl x)
     ·rw [e] at x
      exact .inl (.inr (Option.some.inj x).symm)
     ·exact .inr ⟨c,hc,x⟩
   ·rcases List.mem_cons.1 hc with rfl | hc
    ·exact ⟨u,e⟩
    ·exact i2 c hc
theorem Zlw (up:List Rw):∀ (lo acc res:List Rw),ZaN acc lo up=some res->(∀ t,t∈res↔t∈acc\/∃ a∈lo,∃ b∈up,Zbw a b=some t)/\∀ a∈lo,∀ b∈up,∃ t,Zbw a b=some t
 | [],acc,res,h=>by
  obtain rfl:=Option.some.inj h
  exact ⟨fun t=>by simp,fun b hb=>by cases hb⟩
 | a::r,acc,res,h=>by
  rw [ZaN] at h
  cases e:Zaq a acc up with
  | none=>rw [e] at h;cases h
  | some u=>
   rw [e] at h
   obtain ⟨j1,j2⟩:=Zlv a up acc u e
   obtain ⟨i1,i2⟩:=Zlw up r u res h
   refine ⟨fun t=>?_,fun c hc=>?_⟩
   ·rw [i1 t,j1 t]
    simp only [List.mem_cons]
    constructor
    ·rintro ((x | ⟨b,hb,x⟩) | ⟨c,hc,x⟩)
     ·exact .inl x
     ·exact .inr ⟨a,.inl rfl,b,hb,x⟩
     ·exact .inr ⟨c,.inr hc,x⟩
    ·rintro (x | ⟨c,rfl | hc,x⟩)
     ·exact .inl (.inl x)
     ·exact .inl (.inr x)
     ·exact .inr ⟨c,hc,x⟩
   ·rcases List.mem_cons.1 hc with rfl | hc
    ·exact j2
    ·exact i2 c hc
def Zhz (t:Trm):Lin:=(fun i:Nat=>co t i,q t.2)
def Zem (r:Rw):Bool×Lin:=(r.1==2,Zhz r.2)
def ZbZ (r:Rw) (ρ:Nat->Rat):Prop:=Zca (Zem r) ρ
def Zb4 (l:List Rw):Prop:=∀ r∈l,TrmOk r.2/\(r.1=1\/r.1=2)
theorem Zew {r t:Rw} (h:Zdu r t) (ρ:Nat->Rat):ZbZ t ρ↔ZbZ r ρ:=by
 obtain ⟨h1,_,k,hk,h2,h3⟩:=h
 exact ZpP hk (by unfold Zem;dsimp only;rw [h1]) (fun i=>h2 i) h3 ρ
theorem ZpU (a b:Rw):(Zdg a b==2)=(a.1==2||b.1==2):=by
 unfold Zdg
 split
 ·rename_i h
  rcases h with h | h<;>simp [h]
 ·rename_i h
  simp only [not_or] at h
  simp [h.1,h.2]
theorem Zeg {a b t:Rw} (ha:TrmOk a.2) (hb:TrmOk b.2) (h:Zbw a b=some t):TrmOk t.2/\(t.1=1\/t.1=2)/\(∀ i,co t.2 i=co a.2 i+co b.2 i)/\(t.1==2)=(a.1==2||b.1==2)/\∀ ρ,Zby (Zhz t.2) ρ=Zby (Zhz a.2) ρ+Zby (Zhz b.2) ρ:=by
 unfold Zbw at h
 cases e:Zcc a.2 b.2 with
 | none=>rw [e] at h;cases h
 | some u=>
  rw [e] at h
  obtain rfl:=Option.some.inj h
  obtain ⟨c1,c2⟩:=ZnT ha hb e
  refine ⟨Zmt ha hb e,?_,c1,ZpU a b,fun ρ=>Zpv (fun i=>c1 i) c2 ρ⟩
  dsimp only
  unfold Zdg
  split
  ·exact .inr rfl
  ·exact .inl rfl
theorem ZgR {v:Nat} (hv:v<8) {rows rows':List Rw} {s:Zbc} (hg:Zb4 rows) (hs:ZZ v ([],[],[]) rows=some s) (hw:Za5 s=some rows') :
  Zb4 rows'/\(∀ r∈rows',co r.2 v=0)/\(∀ w:Int,(∀ r∈rows,co r.2 w=0)->∀ r∈rows',co r.2 w=0)/\(∀ ρ,(∀ r∈rows,ZbZ r ρ)->∀ r∈rows',ZbZ r ρ) ∧
  ∀ ρ,(∀ r∈rows',ZbZ r ρ)->∃ x,∀ r∈rows,ZbZ r (upd ρ v x):=by
 have I:=Zds v rows _ s (fun r hr=>(hg r hr).1) hs
 unfold Za5 at hw
 split at hw
 ·cases hw
 obtain ⟨m1,m2⟩:=Zlw s.2.2 s.2.1 s.1 rows' hw
 have o_in:∀ r∈s.1,r∈rows/\co r.2 v=0:=fun r hr=>by
  rcases (I.o r).1 hr with a | a
  ·cases a
  ·exact a
 have lo_in:∀ t∈s.2.1,∃ r∈rows,Zdu r t/\co t.2 v=1:=fun t ht=>by
  rcases I.lo t ht with a | a
  ·cases a
  ·exact a
 have up_in:∀ t∈s.2.2,∃ r∈rows,Zdu r t/\co t.2 v=-1:=fun t ht=>by
  rcases I.up t ht with a | a
  ·cases a
  ·exact a
 have ok_lo:∀ t∈s.2.1,TrmOk t.2:=fun t ht=>by obtain ⟨r,_,a,_⟩:=lo_in t ht;exact a.2.1
 have ok_up:∀ t∈s.2.2,TrmOk t.2:=fun t ht=>by obtain ⟨r,_,a,_⟩:=up_in t ht;exact a.2.1
 refine ⟨fun t ht=>?_,fun t ht=>?_,fun w hz t ht=>?_,fun ρ h t ht=>?_,fun ρ h=>?_⟩
 ·rcases (m1 t).1 ht with a | ⟨a,ha,b,hb,e⟩
  ·exact hg t (o_in t a).1
  ·obtain ⟨k1,k2,_⟩:=Zeg (ok_lo a ha) (ok_up b hb) e
   exact ⟨k1,k2⟩
 ·rcases (m1 t).1 ht with a | ⟨a,ha,b,hb,e⟩
  ·exact (o_in t a).2
  ·obtain ⟨_,_,k3,_⟩:=Zeg (ok_lo a ha) (ok_up b hb) e
   obtain ⟨_,_,_,x⟩:=lo_in a ha
   obtain ⟨_,_,_,y⟩:=up_in b hb
   rw [k3 v,x,y]
   grind
 ·rcases (m1 t).1 ht with a | ⟨a,ha,b,hb,e⟩
  ·exact hz t (o_in t a).1
  ·obtain ⟨_,_,k3,_⟩:=Zeg (ok_lo a ha) (ok_up b hb) e
   obtain ⟨r1,h1,⟨_,_,c1,_,x,_⟩,_⟩:=lo_in a ha
   obtain ⟨r2,h2,⟨_,_,c2,_,y,_⟩,_⟩:=up_in b hb
   rw [k3 w,x w,y w,hz r1 h1,hz r2 h2]
   grind
 ·rcases (m1 t).1 ht with a | ⟨a,ha,b,hb,e⟩
  ·exact h t (o_in t a).1
  ·obtain ⟨_,_,_,k4,k5⟩:=Zeg (ok_lo a ha) (ok_up b hb) e
   obtain ⟨r1,h1,s1,_⟩:=lo_in a ha
   obtain ⟨r2,h2,s2,_⟩:=up_in b hb
   have:=Zpn ((Zew s1 ρ).2 (h r1 h1)) ((Zew s2 ρ).2 (h r2 h2))
   unfold ZbZ Zca Zem
   dsimp only
   rw [k4,k5 ρ]
   exact this
 ·obtain ⟨x,x1,x2,x3⟩:=Zob (O:=s.1.map Zem) (Lo:=s.2.1.map Zem) (Up:=s.2.2.map Zem) (ρ:=ρ) hv
   (fun r hr=>by obtain ⟨t,ht,rfl⟩:=List.mem_map.1 hr;exact (o_in t ht).2)
   (fun r hr=>by obtain ⟨t,ht,rfl⟩:=List.mem_map.1 hr;obtain ⟨_,_,_,y⟩:=lo_in t ht;exact y)
   (fun r hr=>by obtain ⟨t,ht,rfl⟩:=List.mem_map.1 hr;obtain ⟨_,_,_,y⟩:=up_in t ht;exact y)
   (fun r hr=>by obtain ⟨t,ht,rfl⟩:=List.mem_map.1 hr;exact h t ((m1 t).2 (.inl ht)))
   (fun a0 ha0 b0 hb0=>by
    obtain ⟨a,ha,rfl⟩:=List.mem_map.1 ha0
    obtain ⟨b,hb,rfl⟩:=List.mem_map.1 hb0
    obtain ⟨t,e⟩:=m2 a ha b hb
    obtain ⟨_,_,_,k4,k5⟩:=Zeg (ok_lo a ha) (ok_up b hb) e
    have:=h t ((m1 t).2 (.inr ⟨a,ha,b,hb,e⟩))
    unfold ZbZ Zca Zem at this
    dsimp only at this
    rw [k4,k5 ρ] at this
    exact this)
  refine ⟨x,fun r hr=>?_⟩
  by_cases z:co r.2 v=0
  ·exact x1 _ (List.mem_map_of_mem ((I.o r).2 (.inr ⟨hr,z⟩)))
  ·rcases Rat.le_total (a:=0) (b:=co r.2 v) with g | g
   ·obtain ⟨t,ht,sc⟩:=I.lo'.2 r hr (by grind)
    exact (Zew sc _).1 (x2 _ (List.mem_map_of_mem ht))
   ·obtain ⟨t,ht,sc⟩:=I.up'.2 r hr (by grind)
    exact (Zew sc _).1 (x3 _ (List.mem_map_of_mem ht))
abbrev Zbs:=Int×List Rw×List Rw
def ZaI:List Int->List Rw->List Zbs->Option (List Rw×List Zbs)
 | [],rows,ch=>some (rows,ch)
 | v::vs,rows,ch=>(ZZ v ([],[],[]) rows).bind fun s=>(Za5 s).bind fun rows'=>ZaI vs rows' (ch++[(v,s.2.1,s.2.2)])
theorem ZdM:∀ (vs:List Int) (rows:List Rw) (ch:List Zbs) (res:List Rw×List Zbs),(∀ v∈vs,∃ n:Nat,v=n/\n<8)->Zb4 rows->ZaI vs rows ch=some res ->
  Zb4 res.1/\(∀ w:Int,(w∈vs\/∀ r∈rows,co r.2 w=0)->∀ r∈res.1,co r.2 w=0)/\(∀ ρ,(∀ r∈rows,ZbZ r ρ)->∀ r∈res.1,ZbZ r ρ) ∧
  ∀ ρ,(∀ r∈res.1,ZbZ r ρ)->∃ ρ':Nat->Rat,(∀ i:Nat,(i:Int) ∉ vs->ρ' i=ρ i)/\∀ r∈rows,ZbZ r ρ'
 | [],rows,ch,res,_,hg,h=>by
  obtain rfl:=Option.some.inj h
  exact ⟨hg,fun w hw=>by rcases hw with a | a;(· cases a);(· exact a),fun ρ a=>a,fun ρ a=>⟨ρ,fun i _=>rfl,a⟩⟩
 | v::vs,rows,ch,res,hv,hg,h=>by
  rw [ZaI] at h
  cases e:ZZ v ([],[],[]) rows with
  | none=>rw [e] at h;cases h
  | some s=>
   rw [e] at h
   simp only [Option.bind_some] at h
   cases e2:Za5 s with
   | none=>rw [e2] at h;cases h
   | some rows'=>
    rw [e2] at h
    simp only [Option.bind_some] at h
    obtain ⟨n,rfl,hn⟩:=hv v (by simp)
    obtain ⟨g1,g2,g3,g4,g5⟩:=ZgR hn hg e e2
    obtain ⟨i1,i2,i3,i4⟩:=ZdM vs rows' _ res (fun u hu=>hv u (List.mem_cons_of_mem _ hu)) g1 h
    refine ⟨i1,fun w hw=>?_,fun ρ a=>i3 ρ (g4 ρ a),fun ρ a=>?_⟩
    ·rcases hw with hw | hw
     ·rcases List.mem_cons.1 hw with rfl | hw
      ·exact i2 _ (.inr g2)
      ·exact i2 w (.inl hw)
     ·exact i2 w (.inr (g3 w hw))
    ·obtain ⟨ρ',k1,k2⟩:=i4 ρ a
     obtain ⟨x,hx⟩:=g5 ρ' k2
     refine ⟨upd ρ' n x,fun i hi=>?_,hx⟩
     have hne:i≠n:=fun q=>hi (by simp [q])
     unfold upd
     rw [if_neg hne]
     exact k1 i fun q=>hi (List.mem_cons_of_mem _ q)
end
section
open Go.RowKit
theorem ZmF (c x:Nat->Rat):∀ n,lv c x n=Zct (fun k=>c k*x k) n
 | 0=>rfl
 | n+1=>by rw [lv,Zct,ZmF c x n]
theorem ZeB (t:Trm) (x:Nat->Rat):Zby (Zhz t) x=ev t x:=by
 unfold Zby Zhz ev
 rw [ZmF]
 dsimp only
 grind
def Za2:List (Trm×Int)->Trm->Option Trm
 | [],t=>some t
 | s::r,t=>(ZaL s.1 (ZA (atL t.1 s.2))).bind fun m=>(Zcc t m).bind fun u=>Za2 r u
theorem Zlt {s:Trm} {v:Int} {t m u:Trm} (hs:TrmOk s) (ht:TrmOk t) (h1:ZaL s (ZA (atL t.1 v))=some m) (h2:Zcc t m=some u) :
  TrmOk u/\(∀ i,co u i=co t i-co t v*co s i)/\∀ x,ev u x=ev t x-co t v*ev s x:=by
 have hn:=Zbv (ht.ok.at v)
 obtain ⟨a1,a2⟩:=Zis hs hn h1
 have om:=ZjX hs hn h1
 obtain ⟨b1,b2⟩:=ZnT ht om h2
 have hq:q (ZA (atL t.1 v))=- co t v:=Zne _
 have e1:∀ i,co u i=co t i-co t v*co s i:=fun i=>by rw [b1 i,a1 i,hq];grind
 have e2:q u.2=q t.2-co t v*q s.2:=by rw [b2,a2,hq];grind
 refine ⟨Zmt ht om h2,e1,fun x=>?_⟩
 have:=Zd1 (fun k=>co u k*x k) (fun k=>co t k*x k) (fun k=>co s k*x k) (- co t v) (fun k=>by rw [e1 k];grind) 8
 unfold ev
 rw [e2,this]
 grind
theorem Zls:∀ (sel:List (Trm×Int)) (t u:Trm),(∀ s∈sel,TrmOk s.1)->TrmOk t->Za2 sel t=some u ->
  TrmOk u/\(∀ x,(∀ s∈sel,ev s.1 x=0)->ev u x=ev t x)/\∀ v:Int,(∀ s∈sel,co s.1 v=if s.2=v then 1 else 0)->(co t v=0\/∃ s∈sel,s.2=v)->co u v=0
 | [],t,u,_,ht,h=>by
  obtain rfl:=Option.some.inj h
  exact ⟨ht,fun x _=>rfl,fun v _ hv=>by
   rcases hv with a | ⟨s,hs,_⟩
   ·exact a
   ·cases hs⟩
 | s::r,t,u,hs,ht,h=>by
  rw [Za2] at h
  cases e1:ZaL s.1 (ZA (atL t.1 s.2)) with
  | none=>rw [e1] at h;cases h
  | some m=>
   rw [e1] at h
   simp only [Option.bind_some] at h
   cases e2:Zcc t m with
   | none=>rw [e2] at h;cases h
   | some w=>
    rw [e2] at h
    simp only [Option.bind_some] at h
    obtain ⟨k1,k2,k3⟩:=Zlt (hs s (by simp)) ht e1 e2
    obtain ⟨i1,i2,i3⟩:=Zls r w u (fun y hy=>hs y (List.mem_cons_of_mem _ hy)) k1 h
    refine ⟨i1,fun x hx=>?_,fun v hu hv=>?_⟩
    ·rw [i2 x (fun y hy=>hx y (List.mem_cons_of_mem _ hy)),k3 x,hx s (by simp)]
     grind
    ·refine i3 v (fun y hy=>hu y (List.mem_cons_of_mem _ hy)) ?_
     by_cases g:s.2=v
     ·left
      rw [k2 v,hu s (by simp),if_pos g,g]
      grind
     ·rcases hv with a | ⟨y,hy,a⟩
      ·left
       rw [k2 v,hu s (by simp),if_neg g,a]
       grind
      ·rcases List.mem_cons.1 hy with rfl | hy
       ·exact absurd a g
       ·exact .inr ⟨y,hy,a⟩
def Zbj (sel:List (Trm×Int)):List Rw->Option (List Rw)
 | []=>some []
 | r::l=>(Za2 sel r.2).bind fun t=>(Zbj sel l).map fun l'=>(r.1,t)::l'
theorem ZhG (sel:List (Trm×Int)) (hs:∀ s∈sel,TrmOk s.1):∀ (l l':List Rw),Zb4 l->Zbj sel l=some l' ->
  Zb4 l'/\(∀ x,(∀ s∈sel,ev s.1 x=0)->((∀ r∈l',ZbZ r x)↔∀ r∈l,ZbZ r x))/\∀ v:Int,(∀ s∈sel,co s.1 v=if s.2=v then 1 else 0)->(∃ s∈sel,s.2=v)->∀ r∈l',co r.2 v=0
 | [],l',hg,h=>by
  obtain rfl:=Option.some.inj h
  exact ⟨hg,fun x _=>Iff.rfl,fun v _ _ r hr=>by cases hr⟩
 | r::l,l',hg,h=>by
  rw [Zbj] at h
  cases e1:Za2 sel r.2 with
  | none=>rw [e1] at h;cases h
  | some t=>
   rw [e1] at h
   simp only [Option.bind_some] at h
   cases e2:Zbj sel l with
   | none=>rw [e2] at h;cases h
   | some l2=>
    rw [e2] at h
    obtain rfl:=Option.some.inj h
    obtain ⟨k1,k2,k3⟩:=Zls sel r.2 t hs (hg r (by simp)).1 e1
    obtain ⟨i1,i2,i3⟩:=ZhG sel hs l l2 (fun y hy=>hg y (List.mem_cons_of_mem _ hy)) e2
    refine ⟨fun y hy=>?_,fun x hx=>?_,fun v h1 h2 y hy=>?_⟩
    ·rcases List.mem_cons.1 hy with rfl | hy
     ·exact ⟨k1,(hg r (by simp)).2⟩
     ·exact i1 y hy
    ·have same:ZbZ (r.1,t) x↔ZbZ r x:=by
      unfold ZbZ Zca Zem
      dsimp only
      rw [ZeB,ZeB,k2 x hx]
     simp only [List.forall_mem_cons]
     rw [same,i2 x hx]
    ·rcases List.mem_cons.1 hy with rfl | hy
     ·exact k3 v h1 (.inr h2)
     ·exact i3 v h1 h2 y hy
def Zcs (r:Rw) (x:Nat->Rat):Prop:=if r.1=0 then ev r.2 x=0 else ZbZ r x
def ZcX (l:List Rw):Sum Int (List Rw×List Zbs×List Trm×List Int):=
 if 400<l.length\/l.any ZP=true then .inl 2
 else if (Zy (ZN l)).2≠0 then .inl (Zy (ZN l)).2
 else match Zbj ((Zy (ZN l)).1.1.zip (Zy (ZN l)).1.2) (Zbf l) with
  | none=>.inl 2
  | some rows=>match ZaI (Zay (Zy (ZN l)).1.2 8) rows [] with
   | none=>.inl 2
   | some res=>if res.1.any (fun r=>!Zcq r.1 r.2.2.1)=true then .inl 1 else .inr (res.1,res.2,(Zy (ZN l)).1.1,(Zy (ZN l)).1.2)
theorem Zdh (P:List Int):∀ (k:Nat) (v:Int),v∈Zay P k↔(∃ n:Nat,v=n/\n<k)/\v ∉ P
 | 0,v=>by simp [Zay]
 | k+1,v=>by
  unfold Zay
  by_cases h:P.contains (k:Int)=true
  ·rw [if_pos h,Zdh P k v]
   constructor
   ·rintro ⟨⟨n,a,b⟩,c⟩;exact ⟨⟨n,a,by omega⟩,c⟩
   ·rintro ⟨⟨n,a,b⟩,c⟩
    refine ⟨⟨n,a,?_⟩,c⟩
    have:n≠k:=fun e=>by subst e;subst a;exact c (by simpa using h)
    omega
  ·rw [if_neg h,List.mem_append,Zdh P k v,List.mem_singleton]
   constructor
   ·rintro (⟨⟨n,a,b⟩,c⟩ | rfl)
    ·exact ⟨⟨n,a,by omega⟩,c⟩
    ·exact ⟨⟨k,rfl,by omega⟩,by simpa using h⟩
   ·rintro ⟨⟨n,a,b⟩,c⟩
    by_cases e:n=k
    ·subst e;exact .inr a
    ·exact .inl ⟨⟨n,a,by omega⟩,c⟩
end
section
open Go.RowKit
def Zkr (l:List Rw):Prop:=∀ r∈l,Zv r.2.1/\Bd r.2.2
theorem ZcB {r:Rw} (hw:Zv r.2.1/\Bd r.2.2) (h:ZP r=false):TrmOk r.2/\(r.1=0\/r.1=1\/r.1=2):=by
 unfold ZP ZW at h
 simp only [Bool.or_eq_false_iff,Bool.not_eq_false',Bool.or_eq_true,beq_iff_eq] at h
 obtain ⟨p,a,b⟩:=Zam h.2 hw.1 hw.2.1.1 hw.2.1.2 hw.2.2.1 hw.2.2.2
 exact ⟨⟨a,b,p⟩,by rcases h.1 with (q | q) | q<;>simp [q]⟩
theorem ZdN {l:List Rw} {t:Trm}:t∈ZN l↔∃ r∈l,r.1=0/\r.2=t:=by
 unfold ZN
 simp only [List.mem_map,List.mem_filter,beq_iff_eq]
 constructor
 ·rintro ⟨r,⟨a,b⟩,c⟩;exact ⟨r,a,b,c⟩
 ·rintro ⟨r,a,b,c⟩;exact ⟨r,⟨a,b⟩,c⟩
theorem ZfK {l:List Rw} {r:Rw}:r∈Zbf l↔r∈l/\r.1≠0:=by
 unfold Zbf
 simp
theorem Zir {l:List Rw} {x:Nat->Rat}:(∀ r∈l,Zcs r x)↔(∀ t∈ZN l,ev t x=0)/\∀ r∈Zbf l,ZbZ r x:=by
 constructor
 ·intro h
  refine ⟨fun t ht=>?_,fun r hr=>?_⟩
  ·obtain ⟨r,a,b,rfl⟩:=ZdN.1 ht
   have:=h r a
   unfold Zcs at this
   rwa [if_pos b] at this
  ·obtain ⟨a,b⟩:=ZfK.1 hr
   have:=h r a
   unfold Zcs at this
   rwa [if_neg b] at this
 ·rintro ⟨h1,h2⟩ r hr
  unfold Zcs
  split
  ·rename_i g
   exact h1 _ (ZdN.2 ⟨r,hr,g,rfl⟩)
  ·rename_i g
   exact h2 r (ZfK.2 ⟨hr,g⟩)
theorem ZeG {a:List Trm} {p:List Int} {s:Trm×Int} (h:s∈a.zip p):∃ j:Nat,a[j]? = some s.1/\p[j]? = some s.2:=by
 obtain ⟨j,hj⟩:=List.mem_iff_getElem?.1 h
 rw [List.getElem?_zip_eq_some] at hj
 exact ⟨j,hj.1,hj.2⟩
theorem ZlB {a:List Trm} {p:List Int} (S:Solved a p) {v:Int} (hv:v∈p):∀ s∈a.zip p,co s.1 v=if s.2=v then 1 else 0:=by
 intro s hs
 obtain ⟨j,h1,h2⟩:=ZeG hs
 obtain ⟨i,hi⟩:=List.mem_iff_getElem?.1 hv
 rw [S.unit i j v s.1 hi h1]
 by_cases e:i=j
 ·subst e
  rw [hi] at h2
  rw [if_pos rfl,if_pos (Option.some.inj h2).symm]
 ·rw [if_neg e,if_neg]
  intro q
  rw [q] at h2
  rcases Nat.lt_or_ge i j with g | g
  ·have:=S.po.inc i j _ _ g hi h2;omega
  ·have:=S.po.inc j i _ _ (by omega) h2 hi;omega
theorem ZmB {a:List Trm} {p:List Int} (S:Solved a p) {v:Int} (hv:v∈p):∃ s∈a.zip p,s.2=v:=by
 obtain ⟨i,hi⟩:=List.mem_iff_getElem?.1 hv
 have hl:=Za4 hi
 rw [<- S.po.len] at hl
 exact ⟨(a[i],v),List.mem_iff_getElem?.2 ⟨i,by rw [List.getElem?_zip_eq_some];exact ⟨List.getElem?_eq_getElem hl,hi⟩⟩,rfl⟩
theorem Zpm {t:Trm} (h:∀ n:Nat,n<8->co t n=0) (x:Nat->Rat):ev t x=q t.2:=by
 unfold ev
 rw [Zfa _ 8 (fun i hi=>by rw [h i hi];grind)]
 grind
theorem Zox {x:Int×Int} (h:OkR x):(0<=q x↔0<=x.1)/\(0<q x↔0<x.1):=by
 obtain ⟨d,e,v⟩:=id h
 have hd:0<(x.2:Rat):=by rw [e];exact_mod_cast v.pos
 have hq:q x*(x.2:Rat)=(x.1:Rat):=by have:=h.ne;unfold q;grind
 have pos:0<q x↔0<x.1:=by
  unfold q
  rw [Rat.lt_div_iff hd]
  constructor
  ·intro g
   have:(0:Rat)<(x.1:Rat):=by grind
   exact_mod_cast this
  ·intro g
   have:(0:Rat)<(x.1:Rat):=by exact_mod_cast g
   grind
 refine ⟨?_,pos⟩
 have zero:=Zge h
 constructor
 ·intro g
  by_cases z:q x=0
  ·have:=zero.1 z;omega
  ·have:=pos.1 (by grind);omega
 ·intro g
  by_cases z:x.1=0
  ·rw [zero.2 z];exact Rat.le_refl
  ·exact Rat.le_of_lt (pos.2 (by omega))
theorem ZmH {r:Rw} (hg:TrmOk r.2/\(r.1=1\/r.1=2)) (h:∀ n:Nat,n<8->co r.2 n=0) (x:Nat->Rat):ZbZ r x↔Zcq r.1 r.2.2.1=true:=by
 obtain ⟨s1,s2⟩:=Zox hg.1.k
 unfold ZbZ Zca Zem ZbW Zcq
 dsimp only
 rw [ZeB,Zpm h]
 rcases hg.2 with e | e<;>rw [e]<;>simp [s1,s2]
theorem ZlY {l:List Rw} (hw:Zkr l) (hw2:l.any ZP=false) (hz:(Zy (ZN l)).2=0) {rows:List Rw} (hs:Zbj ((Zy (ZN l)).1.1.zip (Zy (ZN l)).1.2) (Zbf l)=some rows)
  {res:List Rw×List Zbs} (he:ZaI (Zay (Zy (ZN l)).1.2 8) rows []=some res) :
  (∀ x,(∀ r∈l,Zcs r x)->∀ r∈res.1,Zcq r.1 r.2.2.1=true)/\((∀ r∈res.1,Zcq r.1 r.2.2.1=true)->∃ x,∀ r∈l,Zcs r x):=by
 have hr:∀ r∈l,TrmOk r.2/\(r.1=0\/r.1=1\/r.1=2):=fun r hr=>ZcB (hw r hr) (by
  have:=List.any_eq_false.1 hw2 r hr
  simpa using this)
 have he0:∀ t∈ZN l,Zv t.1/\Bd t.2:=fun t ht=>by
  obtain ⟨r,a,_,rfl⟩:=ZdN.1 ht
  exact hw r a
 have go:Zb4 (Zbf l):=fun r h=>by
  obtain ⟨a,b⟩:=ZfK.1 h
  obtain ⟨k1,k2⟩:=hr r a
  exact ⟨k1,by rcases k2 with c | c | c;(· exact absurd c b);(· exact .inl c);(· exact .inr c)⟩
 cases hq:Zy (ZN l) with
 | mk ap z=>
 obtain ⟨a,p⟩:=ap
 rw [hq] at hz hs he
 dsimp only at hz hs he
 subst hz
 have S:=Zhe he0 hq
 have keep:=Zog he0 hq
 obtain ⟨g1,g2,g3⟩:=ZhG (a.zip p) (fun s hs=>by obtain ⟨j,h1,_⟩:=ZeG hs;exact S.ok _ (List.mem_of_getElem? h1)) (Zbf l) rows go hs
 obtain ⟨e1,e2,e3,e4⟩:=ZdM (Zay p 8) rows [] res (fun v hv=>by obtain ⟨⟨n,a,b⟩,_⟩:=(Zdh p 8 v).1 hv;exact ⟨n,a,b⟩) g1 he
 have zp:∀ v∈p,∀ r∈rows,co r.2 v=0:=fun v hv=>g3 v (ZlB S hv) (ZmB S hv)
 have zc:∀ r∈res.1,∀ n:Nat,n<8->co r.2 n=0:=fun r h n hn=>by
  by_cases g:(n:Int)∈p
  ·exact e2 n (.inr (zp n g)) r h
  ·exact e2 n (.inl ((Zdh p 8 n).2 ⟨⟨n,rfl,hn⟩,g⟩)) r h
 have zs:∀ x,(∀ t∈a,ev t x=0)->∀ s∈a.zip p,ev s.1 x=0:=fun x h s hs=>by
  obtain ⟨j,h1,_⟩:=ZeG hs
  exact h _ (List.mem_of_getElem? h1)
 refine ⟨fun x hx r h=>?_,fun hm=>?_⟩
 ·obtain ⟨x1,x2⟩:=Zir.1 hx
  have ha:=(keep x).1 x1
  have:=e3 x ((g2 x (zs x ha)).2 x2) r h
  exact (ZmH (e1 r h) (zc r h) x).1 this
 ·obtain ⟨y,_,hy⟩:=e4 (fun _=>0) (fun r h=>(ZmH (e1 r h) (zc r h) _).2 (hm r h))
  have ha:=Zmh S y
  refine ⟨Zhc a p y,Zir.2 ⟨(keep _).2 ha,(g2 _ (zs _ ha)).1 fun r h=>?_⟩⟩
  have same:ev r.2 (Zhc a p y)=ev r.2 y:=by
   unfold ev
   rw [Zgr _ (fun k=>co r.2 k*y k) 8 (fun i _=>by
    by_cases g:(i:Int)∈p
    ·rw [zp i g r h];grind
    ·rw [ZjZ (by simpa using g)])]
  have:=hy r h
  unfold ZbZ Zca Zem at this ⊢
  dsimp only at this ⊢
  rw [ZeB] at this ⊢
  rw [same]
  exact this
theorem ZlZ {l:List Rw} (hw:Zkr l) (h:ZcX l=.inl 1) (x:Nat->Rat):¬ ∀ r∈l,Zcs r x:=by
 intro hx
 unfold ZcX at h
 split at h
 ·injection h with h;cases h
 ·rename_i g
  have hw2:l.any ZP=false:=by
   cases q:l.any ZP with
   | false=>rfl
   | true=>exact absurd (.inr q) g
  split at h
  ·rename_i g2
   injection h with h
   have he0:∀ t∈ZN l,Zv t.1/\Bd t.2:=fun t ht=>by
    obtain ⟨r,a,_,rfl⟩:=ZdN.1 ht
    exact hw r a
   refine Zl0 (r:=(Zy (ZN l)).1) he0 (by rw [<- h]) x (Zir.1 hx).1
  ·rename_i g2
   have g2:(Zy (ZN l)).2=0:=by omega
   split at h
   ·injection h with h;cases h
   ·rename_i rows hs
    split at h
    ·injection h with h;cases h
    ·rename_i res he
     split at h
     ·rename_i g3
      obtain ⟨r,hr,hb⟩:=List.any_eq_true.1 g3
      have:=(ZlY hw hw2 g2 hs he).1 x hx r hr
      rw [this] at hb
      cases hb
     ·cases h
end
end Go.Proofs.YtolookeddknmoaaGreat
