import Derived.Test.YtolookeddknmoaaGreatQBB
import Derived.Test.YtolookeddknmoaaGreatQBQ
set_option maxRecDepth 100000
set_option maxHeartbeats 8000000
namespace Go.Proofs.YtolookeddknmoaaGreat
section
open Go.RowKit
theorem ZpN (w:World) (x:Int×Int) (h:OkR x) (hn:x.1≠0) :
  Calls Tryz.prog 32 #[.int .i64 3,Ze 1 1,Ze x.1 x.2] w fun r w'=>r=.returned (.tuple #[Ze (Zb7 x).1 (Zb7 x).2,.int .i64 0])/\Below w.heap.size w w':=by
 obtain ⟨d,e,v⟩:=h
 have vi:=Zhp v hn
 have:=ZqX (n:=1) (d:=1) ⟨by decide,by decide,by decide,by decide⟩ v hn w
 have hp:0<1*x.1.natAbs:=Nat.mul_pos (by decide) (by omega)
 obtain ⟨a,b,c⟩:=Zli (P:=1*(if x.1<0 then -(d:Int) else d)) (Q:=1*x.1.natAbs) hp vi (by push_cast;rw [Int.one_mul,Int.one_mul])
 rw [Zpg 1 x.1 1 d v.pos] at this
 unfold ZcQ at this
 rw [a,b,c] at this
 unfold Zb7
 rw [e]
 exact this
def ZeS (p:Trm) (x:Int) (i j:Nat) (t:Trm):Option Trm:=if j=i then some p else ZQ p x t
def ZmY (p:Trm) (x:Int) (i:Nat) (ts us:List Trm):Prop:=us.length=ts.length/\∀ (j:Nat) (t:Trm),ts[j]? = some t->∃ u,us[j]? = some u/\ZeS p x i j t=some u
def ZgI (p:Trm) (x:Int) (i:Nat) (ts:List Trm):Prop:=∃ j t,ts[j]? = some t/\ZeS p x i j t=none
def Zd9 (w:World) (S0:Nat->Prop) (t:Trm) (x:Int) (i:Nat) (ts:List Trm) (e:Ending) (w':World):Prop:=
 Below w.heap.size w w' ∧
 (((ZM t x).2.2=0/\∃ us A c,ZmY ((ZM t x).1,(ZM t x).2.1) x i ts us/\e=.returned (.tuple #[.slice A us.length c,.bool true])/\ZY w' w.heap.size (.slice A us.length c) us (fun b=>(Value.slice A us.length c).ownBlock=some b\/S0 b)) ∨
  (((ZM t x).2.2≠0\/ZgI ((ZM t x).1,(ZM t x).2.1) x i ts)/\e=.returned (.tuple #[.slice none 0 0,.bool false])))
structure TakS (w wr:World) (b8:Nat) (q1 q2:Int):Prop where
 b:Below w.heap.size w wr
 r:RatAt wr b8 q1 q2
theorem TakS.keep {w wr w2:World} {b8:Nat} {q1 q2:Int} (h:TakS w wr b8 q1 q2) (hb:Below wr.heap.size wr w2):TakS w w2 b8 q1 q2:=⟨h.b.trans (hb.mono h.b.size),h.r.keep hb⟩
abbrev Zo5 (w':World) (ad:Addr) (i:Nat) (x0:Value) (x1 x2:Int):Prop:=w'.cell? (ad.add (i*3))=some x0/\w'.cell? ⟨(ad.add (i*3)).block,(ad.add (i*3)).off+1,none⟩=some (.int .i64 x1)/\w'.cell? ⟨(ad.add (i*3)).block,(ad.add (i*3)).off+2,none⟩=some (.int .i64 x2)
abbrev ZqO (w':World) (ad:Addr) (i b8:Nat) (x0:Value) (x1 x2 q1 q2:Int):Prop:=(w'.cell? (ad.add (i*3))=some x0/\w'.cell? ⟨(ad.add (i*3)).block,(ad.add (i*3)).off+1,none⟩=some (.int .i64 x1)/\w'.cell? ⟨(ad.add (i*3)).block,(ad.add (i*3)).off+2,none⟩=some (.int .i64 x2))/\w'.cell? ⟨b8,0,none⟩=some (.int .i64 q1)/\w'.cell? ⟨b8,1,none⟩=some (.int .i64 q2)
section
variable {w wr w2 wA:World} {ad:Addr} {i b8 c d:Nat} {x0:Value} {x1 x2 q1 q2 m1 m2 e:Int} {C:Prop} {M:List (Int×Int)} {A:Option Addr} {S0:Nat->Prop}
theorem Zdi (CE:∀ w',Below w.heap.size w w'->Zo5 w' ad i x0 x1 x2) (hb:Below wr.heap.size wr w2) (h:C/\TakS w wr b8 q1 q2):ZqO w2 ad i b8 x0 x1 x2 q1 q2/\TakS w w2 b8 q1 q2:=
 have s:=h.2.keep hb
 ⟨⟨CE w2 s.b,s.r.k0,s.r.k1⟩,s⟩
theorem ZjC {wo:World} {o:Obj} (CE:∀ w',Below w.heap.size w w'->Zo5 w' ad i x0 x1 x2) (h:C/\TakS w wo.drew b8 q1 q2):ZqO (wo.alloc o).drew ad i b8 x0 x1 x2 q1 q2/\TakS w (wo.alloc o).drew b8 q1 q2:=Zdi CE (Za wo.drew o) h
theorem ZiX (h:C/\TakS w wr b8 q1 q2):TakS w wr b8 q1 q2:=h.2
theorem ZkS {wA:World} {ty:TypeId} (_:C/\TakS w (wA.alloc (.cells #[.slice none 0 0,.int .i64 0,.int .i64 0] ty)) b8 q1 q2):HoleT wA (wA.alloc (.cells #[.slice none 0 0,.int .i64 0,.int .i64 0] ty)) wA.heap.size:=HoleT.start wA ty
theorem ZjD {wq:World} {ty:TypeId} (_:C/\TakS w (wq.alloc (.cells #[.slice none 0 0,.int .i64 0,.int .i64 0] ty)).drew b8 q1 q2):HoleT wq.drew (wq.alloc (.cells #[.slice none 0 0,.int .i64 0,.int .i64 0] ty)).drew wq.heap.size:=HoleT.start wq.drew ty
def ZkB (w:World) (S0:Nat->Prop) (M:List (Int×Int)) (m1 m2 e:Int) (v10 v9:Value) (wx:World):Prop:=
 ∃ c A d,v10=.pointer (some ⟨c,0,none⟩)/\v9=.int .i64 e/\FracBox wx c (.slice A M.length d) (.int .i64 m1) (.int .i64 m2)/\Zb wx (.slice A M.length d) M/\Off S0 (.slice A M.length d) M/\Below w.heap.size w wx
theorem ZoS (D:TakS w wr b8 q1 q2) (ty:TypeId) (hr:Zb wr (.slice A M.length d) M) (h0:Off S0 (.slice A M.length d) M) :
  ZkB w S0 M m1 m2 e (.pointer (some ⟨wr.heap.size,0,none⟩)) (.int .i64 e) (wr.alloc (.cells #[.slice A M.length d,.int .i64 m1,.int .i64 m2] ty)):=
 ⟨_,A,d,rfl,rfl,FracBox.start _ _ _ _ _,hr.below (Za _ _),h0,(D.keep (Za _ _)).b⟩
theorem ZpV (D:TakS w wA b8 q1 q2) (hc:HoleT wA wr c) (hr:Zb wr (.slice A M.length d) M) (h0:Off S0 (.slice A M.length d) M) (hf:Off (fun b=>b=c) (.slice A M.length d) M) :
  ZkB w S0 M m1 m2 e (.pointer (some ⟨c,0,none⟩)) (.int .i64 e) (((wr.setCell ⟨c,0,none⟩ (.slice A M.length d)).setCell ⟨c,1,none⟩ (.int .i64 m1)).setCell ⟨c,2,none⟩ (.int .i64 m2)):=by
 obtain ⟨a,F⟩:=hc.fill (.slice A M.length d) (.int .i64 m1) (.int .i64 m2)
 refine ⟨_,A,d,rfl,rfl,F,?_,h0,(D.keep a).b⟩
 exact hr.off hf (Zaa (Zaa ZaK ZaK) ZaK) (fun b hb=>by injection hb with hb;exact hb.symm)
end
structure TakL (w wr:World) (S0:Nat->Prop) (b10:Nat) (vp:Value) (p:Trm) (vo:Value) (us:List Trm):Prop where
 F:FracBox wr b10 vp (.int .i64 p.2.1) (.int .i64 p.2.2)
 r:Zb wr vp p.1
 o:ZY wr w.heap.size vo us (fun b=>vo.ownBlock=some b\/S0 b)
 op:Off (fun b=>vo.ownBlock=some b\/S0 b) vp p.1
 nb:vo.ownBlock≠some b10
 below:Below w.heap.size w wr
theorem TakL.keep {w wr w2:World} {b10:Nat} {vp vo:Value} {p:Trm} {us:List Trm} {S0:Nat->Prop} (h:TakL w wr S0 b10 vp p vo us) (hb:Below wr.heap.size wr w2):TakL w w2 S0 b10 vp p vo us:=
 ⟨h.F.keep hb,h.r.below hb,h.o.below hb,h.op,h.nb,h.below.trans (hb.mono h.below.size)⟩
theorem TakL.push {w wr w2:World} {b10:Nat} {vp vo vo' vt:Value} {p t:Trm} {us:List Trm} {rs:List (Value×Trm)} {S0:Nat->Prop} (h:TakL w wr S0 b10 vp p vo us) (h1:rs.map (·.2)=us) (h3:∀ x∈rs,Zb wr x.1 x.2.1/\Off (fun b=>vo.ownBlock=some b\/S0 b) x.1 x.2.1)
  (hown:w2.ownsRow w.heap.size 27 3 vo' (us.length+1) (Zg rs++[vt,.int .i64 t.2.1,.int .i64 t.2.2])) (hg:wr.grownBy w2 vo.ownBlock) (hv:vo'.ownBlock=vo.ownBlock\/vo'.ownBlock=some wr.heap.size) (hr:Zb wr vt t.1) (ho:Off (fun b=>vo.ownBlock=some b\/S0 b) vt t.1) :
  TakL w w2 S0 b10 vp p vo' (us++[t]):=by
 have hs:∀ b,vo'.ownBlock=some b\/S0 b->(vo.ownBlock=some b\/S0 b)\/wr.heap.size<=b:=fun b hb=>by
  rcases hb with hb | hb
  ·rcases hv with e | e
   ·exact .inl (.inl (e▸hb))
   ·rw [e] at hb
    injection hb with hb
    exact .inr (by omega)
  ·exact .inl (.inr hb)
 refine ⟨h.F.grown hg h.nb,h.r.off h.op hg (fun _ q=>.inl q),ZY.appended h1 h3 hown hg (fun _ q=>.inl q) hr ho hs,h.op.more h.r hs,?_,h.below.grown hg h.below.size fun k hk=>(h.o.lt k hk).1⟩
 rcases hv with e | e
 ·rw [e];exact h.nb
 ·rw [e]
  intro q
  injection q with q
  have:=h.F.lt
  omega
def ZmX (p:Trm) (x:Int) (i:Nat) (ts us:List Trm) (k:Nat):Prop:=us.length=k/\∀ (j:Nat) (t:Trm),j<k->ts[j]? = some t->∃ u,us[j]? = some u/\ZeS p x i j t=some u
theorem ZmX.next {p t u:Trm} {x:Int} {i k:Nat} {ts us:List Trm} (h:ZmX p x i ts us k) (ht:ts[k]? = some t) (hu:ZeS p x i k t=some u):ZmX p x i ts (us++[u]) (k+1):=by
 refine ⟨by rw [List.length_append,h.1];rfl,fun j s hj hs=>?_⟩
 rcases Nat.lt_or_ge j k with g | g
 ·obtain ⟨a,ha,e⟩:=h.2 j s g hs
  exact ⟨a,by rw [List.getElem?_append_left (Za4 ha)];exact ha,e⟩
 ·obtain rfl:j=k:=by omega
  rw [ht] at hs
  obtain rfl:=Option.some.inj hs
  exact ⟨u,by rw [List.getElem?_append_right (by rw [h.1];exact Nat.le_refl _),h.1,Nat.sub_self];rfl,hu⟩
theorem Zrg {b B:Nat} {v:Value} (h:Zs B v) (hb:b<B):Zs (b+1) v:=h.mono hb
theorem ZjI {p t:Trm} {x:Int} (h:(atL t.1 x).1≠0):Zar t.1 t.2 p.1 p.2 x=ZdB t.1 t.2 p.1 p.2 (atL t.1 x):=if_neg h
theorem Zos {w:World} {base:Nat} {v:Value} {ts:List Trm} {S:Nat->Prop} (h:ZY w base v ts S):∃ A c rs,v=.slice A ts.length c/\ts.length<=c/\c<=maxLen/\rs.map (·.2)=ts/\ZB w w.heap.size 3 A ts.length (Zg rs)/\∀ x∈rs,Zb w x.1 x.2.1/\Off S x.1 x.2.1:=by
 obtain ⟨rs,h1,h2,h3⟩:=h
 have h0:=h2
 rcases h2.2 with ⟨rfl,hn⟩ | ⟨g,cap,cur,rfl,_,hh,hnc,hrest⟩
 ·have hts:ts=[]:=List.eq_nil_of_length_eq_zero hn
  subst hts
  have hrs:rs=[]:=by simpa using h1
  subst hrs
  exact ⟨none,0,[],rfl,Nat.le_refl _,by decide,rfl,ZB.none_,fun x hx=>by cases hx⟩
 ·exact ⟨some _,cap,rs,rfl,hnc,hrest.1,h1,ZB.of_own h0,h3⟩
theorem ZoG (w:World) (base0:Nat) (S0:Nat->Prop) (v:Value) (ts:List Trm) (i:Nat) (x:Int) (t:Trm) (h:ZY w base0 v ts S0) (hS0:∀ b,S0 b->b<w.heap.size) (hok:∀ u∈ts,TrmOk u) (ht:ts[i]? = some t) (hp:Zbb x t=true) (hl:ts.length<=1000) :
  Calls Tryz.prog 103 #[v,.int .i64 i,.int .i64 x] w (Zd9 w S0 t x i ts):=by
 obtain ⟨iT,hiT,zT0,zT1,zT2⟩:=info_parts Zf3
 obtain ⟨A,c,rs,rfl,h2,h3,h4,h5,h60⟩:=Zos h
 have h6:=fun x hx=>(h60 x hx).1
 have HS0:=Lib.hid hS0
 have HOF:=Lib.hid (fun x hx=>(h60 x hx).2)
 have htm:=List.mem_of_getElem? ht
 have tok:=hok t htm
 have hn0:(atL t.1 x).1≠0:=by unfold Zbb at hp;simpa using hp
 have hil:=Za4 ht
 obtain ⟨n,hn⟩:∃ n,n=ts.length:=⟨_,rfl⟩
 have hrn:rs.length=n:=by rw [hn,<- h4,List.length_map]
 rw [<- hn] at h2 h5 hl hil ⊢
 obtain ⟨u,hu⟩:∃ u,rs[i]? = some u:=⟨_,List.getElem?_eq_getElem (by omega)⟩
 have hut:u.2=t:=by
  have:ts[i]? = some u.2:=by rw [<- h4,List.getElem?_map,hu];rfl
  rw [ht] at this
  exact (Option.some.inj this).symm
 subst hut
 obtain ⟨ad,rfl,d0,d1,d2⟩:=ZaZ h5 (Below.refl _ _) hu (by omega)
 have hru:=h6 u (List.mem_of_getElem? hu)
 have at_:=fun (w':World) (hb:Below w.heap.size w w')=>ZaX w' u.1 u.2.1 u.2.2.1 u.2.2.2 x (hru.below hb)
 have iv:=fun (w':World)=>ZpN w' (atL u.2.1 x) (tok.ok.at x) hn0
 have tm:=fun (w':World) (hb:Below w.heap.size w w')=>ZiR w' u.1 u.2.1 u.2.2 (Zb7 (atL u.2.1 x)) (hru.below hb) tok.ok.wide tok.k.wide (ZeD (tok.ok.at x) hn0).wide
 have CE:∀ w',Below w.heap.size w w'->Zo5 w' ad i u.1 u.2.2.1 u.2.2.2:=fun w' hb=>by
  obtain ⟨_,e,q⟩:=ZaZ h5 hb hu (by omega)
  injection e with e
  subst e
  exact q
 have CE:=Lib.hid CE
 have hpo:=fun e=>Zfy tok hp e
 have hdv:ZM u.2 x=Zh u.2.1 u.2.2 (Zb7 (atL u.2.1 x)):=rfl
 rw [<- hdv] at tm
 have PUT:Zd9 w S0 u.2 x i ts=Zd9 w S0 u.2 x i ts:=rfl
 clear PUT hdv
 have HN:=Lib.hid (And.intro hrn (And.intro h4 (And.intro h5 (And.intro h6 (And.intro hn (And.intro hok hl))))))
 have i1:(i:Int)<(n:Int):=by omega
 have i2:(0:Int)<=(i:Int):=by omega
 have HP:=Lib.hid hpo
 obtain ⟨Z,hZ⟩:∃ Z,Z=ZM u.2 x:=⟨_,rfl⟩
 have QZ:=Lib.hid hZ
 rw [<- hZ] at tm
 clear hZ hrn h2 h3 h4 h5 h6 h60 hS0 hn hok hl hu hru tok hn0 htm ht hp hpo hil
 generalize Zb7 (atL u.2.1 x)=y at *
 generalize atL u.2.1 x=r at *
 obtain ⟨r1,r2⟩:=r
 obtain ⟨q1,q2⟩:=y
 obtain ⟨M,⟨m1,m2⟩,er⟩:=Z
 obtain ⟨x0,xl,x1,x2⟩:=u
 dsimp only at *
 have AT:=Lib.hid at_;have IV:=Lib.hid iv;have TM:=Lib.hid tm
 clear at_ iv tm
 go_enter Tryz.func103,Tryz.ntmps103
 go_upto_region 3 with (first
  | (go_at_call 41;(with_reducible refine (AT.out _ (Below.refl _ _)).mono ?_);rintro e w1 ⟨rfl,hb⟩;have b1:=hb)
  | (go_at_call 32;(with_reducible refine (IV.out _).mono ?_);rintro e w2 ⟨rfl,hb⟩;have b2:=Lib.hid (b1.trans (hb.mono b1.size));clear hb b1))
 have D8:TakS w (w2.alloc (.cells #[.int .i64 q1,.int .i64 q2] 25)) w2.heap.size q1 q2:=⟨b2.out.trans ((Za w2 _).mono b2.out.size),RatAt.start w2 q1 q2 25⟩
 generalize w2.heap.size=b8 at *
 generalize w2.alloc (.cells #[.int .i64 q1,.int .i64 q2] 25)=w3 at *
 clear d0 d1 d2
 go_upto_region 4 with fail
 go_cut [10,9] from 15 to 72 (fun v10 v9 wx=>ZkB w S0 M m1 m2 er v10 v9 wx)
 case first=>
  have HS:=Zdi CE.out (Zq w3) (And.intro True.intro D8)
  clear D8
  refine wp_region_noPanic ?_
  refine wp_region_held_drew (S:=(fun w'=>((w'.cell? (ad.add (i*3))=some x0/\w'.cell? ⟨(ad.add (i*3)).block,(ad.add (i*3)).off+1,none⟩=some (.int .i64 x1)/\w'.cell? ⟨(ad.add (i*3)).block,(ad.add (i*3)).off+2,none⟩=some (.int .i64 x2))/\w'.cell? ⟨b8,0,none⟩=some (.int .i64 q1)/\w'.cell? ⟨b8,1,none⟩=some (.int .i64 q2))/\TakS w w' b8 q1 q2)) (by kernel_rfl) HS (fun hHeld=>?_)
  clear HS
  refine tk 0 rfl ?_
  refine tk 1 rfl ?_
  refine tk 2 rfl ?_
  refine tk 3 rfl ?_
  refine tk 4 rfl ?_
  (try simp only [cl,Act.put])
  refine wpAnyH_ready (rs:=[5,9]) (by kernel_rfl) (by simp) (AllReadyH.cons (o:=_) rfl (fun K hK=>?_) (AllReadyH.cons (o:=_) rfl (fun K hK=>?_) AllReadyH.nil))
  rotate_left
  go_simp
  (first | refine hK.out _ _ (ZjC CE.out (by with_reducible assumption)) (fun hH2=>?_) | refine hK.out _ _ (Zdi CE.out (Za _ _) (by with_reducible assumption)) (fun hH2=>?_))
  clear hK K
  (first | have HC:=Lib.hid (ZkS hH2) | have HC:=Lib.hid (ZjD hH2))
  have hHeld0:=Lib.hid hHeld
  clear hHeld
  have hHeld:=hH2
  clear hH2
  (try simp only [cl,Act.put])
  refine rd 5 rfl fun K hK=>?_
  rotate_right
  all_goals
   go_simp
   (go_at_call 117;(with_reducible refine (TM.out _ (ZiX (by with_reducible assumption)).b).mono ?_);rintro e6 w6 ⟨v6,rfl,hv6,hb,fr6⟩;obtain ⟨A6,c6,rfl⟩:=Zd hv6;(try (have HF:=Lib.hid (Off.fresh (l:=M) (S:=fun b=>b=_) fr6 (fun b q=>by rw [q];exact HC.out.F.lt));have HC:=Lib.hid (HC.out.keep hb)));have HV:=Lib.hid (And.intro hv6 (Off.fresh (l:=M) (S:=S0) fr6 (fun b q=>Nat.lt_of_lt_of_le (HS0.out b q) (ZiX hHeld).b.size)));clear hv6 fr6)
   go_wp2_with fail
   refine hK.out _ _ (Zdi CE.out (by with_reducible assumption) (by with_reducible assumption)) (fun hH2=>?_)
   clear hK K hHeld hb;have hHeld:=hH2;clear hH2
   (try simp only [cl,Act.put])
  all_goals
   refine tk 6 rfl ?_
   refine tk 7 rfl ?_
   refine tk 8 rfl ?_
   (try simp only [cl,Act.put])
  refine rd 9 rfl fun K hK=>?_
  go_simp
  (first | refine hK.out _ _ (ZjC CE.out (by with_reducible assumption)) (fun hH2=>?_) | refine hK.out _ _ (Zdi CE.out (Za _ _) (by with_reducible assumption)) (fun hH2=>?_))
  clear hK K
  (first | have HC:=Lib.hid (ZkS hH2) | have HC:=Lib.hid (ZjD hH2))
  have hHeld0:=Lib.hid hHeld
  clear hHeld
  have hHeld:=hH2
  clear hH2
  (try simp only [cl,Act.put])
  all_goals
   refine rd 10 rfl fun K hK=>?_
   obtain ⟨⟨h0,h1,h2,h3,h4,h5,h6⟩,h7,h8⟩:=HC.out
   clear h7 h8
   go_simp
   clear h0 h1 h2 h3 h4 h5 h6
   (first
    | refine hK.out _ _ (Zdi CE.out (Za _ _) hHeld0.out) (fun hH2=>?_)
    | refine hK.out _ _ (Zdi CE.out (HC.out.fill _ _ _).1 hHeld0.out) (fun hH2=>?_))
   clear hK K hHeld
   have hHeld:=hH2
   clear hH2
   (try simp only [cl,Act.put])
   refine tk 11 rfl ?_
   (try simp only [cl,Act.put])
   refine wpAnyH_done (by kernel_rfl) ?_ _
   refine NoPanic.normal ?_
   go_wp2_with fail
   go_meet
   case rel=>first | exact ZoS (ZiX hHeld0.out) 27 HV.out.1 HV.out.2 | exact ZpV (ZiX hHeld0.out) HC.out HV.out.1 HV.out.2 HF.out
 case rest=>
  obtain ⟨c10,Ap,dp,rfl,rfl,F,hr,hp0,hb⟩:=hcut
  clear D8
  by_cases he:er=0
  rotate_left
  ·have ne:(er != 0)=true:=by simpa using he
   have FIN:=Lib.hid (show Zd9 w S0 (xl,x1,x2) x i ts (.returned (.tuple #[.slice none 0 0,.bool false])) wc from ⟨hb,.inr ⟨.inl (by rw [<- QZ.out];exact he),rfl⟩⟩)
   clear F hr hb hp0 he
   go_wp2_with fail
   go_ret2
   exact FIN.out
  subst he
  have PK:=Lib.hid (show TrmOk (M,m1,m2) from by have:=HP.out (by rw [<- QZ.out]);rw [<- QZ.out] at this;exact this)
  have L0:=Lib.hid (show TakL w wc S0 c10 (.slice Ap M.length dp) (M,m1,m2) (.slice none 0 0) [] from ⟨F,hr,ZY.nil _ _ _,(fun hl b hb q=>q.elim (fun e=>by cases e) (hp0 hl b hb)),(fun q=>by cases q),hb⟩)
  clear F hr hb hp0
  go_wp2_with fail
  go_loopg [11,12] n (fun g v11 v12 wr=>∃ (k:Nat) (vo:Value) (us:List Trm),vo=v11/\v12=.int .i64 k/\k<=n/\g=n-k/\ZmX (M,m1,m2) x i ts us k/\TakL w wr S0 c10 (.slice Ap M.length dp) (M,m1,m2) vo us)
  case atStart=>exact ⟨0,_,[],rfl,rfl,Nat.zero_le _,rfl,⟨rfl,fun j _ hj=>absurd hj (Nat.not_lt_zero _)⟩,L0.out⟩
  case round=>
   clear L0
   obtain ⟨k,vo,us,rfl,rfl,hk,hg,hK,L⟩:=hrel
   by_cases hkn:k=n
   ·obtain ⟨Ao,co_,e⟩:∃ A c,vo=.slice A us.length c:=by obtain ⟨A,c,_,e,_⟩:=L.o.terms;exact ⟨A,c,e⟩
    subst e
    have FIN:=Lib.hid (show Zd9 w S0 (xl,x1,x2) x i ts (.returned (.tuple #[.slice Ao us.length co_,.bool true])) wr from ⟨L.below,.inl ⟨by rw [<- QZ.out],us,Ao,co_,⟨by rw [hK.1,hkn];exact HN.out.2.2.2.2.1,fun j t hj=>by rw [<- QZ.out];exact hK.2 j t (by have:=Za4 hj;have:=HN.out.2.2.2.2.1;omega) hj⟩,rfl,L.o⟩⟩)
    subst hkn
    clear hk hg hK L
    go_wp2_with fail
    go_ret2
    exact FIN.out
   ·have hlt:k<n:=by omega
    obtain ⟨y,hy⟩:∃ y,rs[k]? = some y:=⟨_,List.getElem?_eq_getElem (by have:=HN.out.1;omega)⟩
    have hyt:ts[k]? = some y.2:=by rw [<- HN.out.2.1,List.getElem?_map,hy];rfl
    obtain ⟨_,e,d0,d1,d2⟩:=ZaZ HN.out.2.2.1 L.below hy (by omega)
    injection e with e
    subst e
    have hr0:=HN.out.2.2.2.1 y (List.mem_of_getElem? hy)
    have tok:=HN.out.2.2.2.2.2.1 y.2 (List.mem_of_getElem? hyt)
    have oy:Off (fun b=>vo.ownBlock=some b\/S0 b) y.1 y.2.1:=fun hl b hb q=>by
     rcases q with q | q
     ·have:=hr0.lt hl b hb
      have:=(L.o.lt b q).1
      omega
     ·exact HOF.out y (List.mem_of_getElem? hy) hl b hb q
    have i5:(k:Int)<(n:Int):=by omega
    have i6:(0:Int)<=(k:Int):=by omega
    have wk:IntKind.i64.wrap ((k:Int)+1)=(k:Int)+1:=IntWalk.i64_in _ (by have:=HN.out.2.2.2.2.2.2;omega)
    have a0:=Za wr (.cells #[y.1,.int .i64 y.2.2.1,.int .i64 y.2.2.2] 27)
    have F3:=FracBox.start wr y.1 (.int .i64 y.2.2.1) (.int .i64 y.2.2.2) 27
    have k0:=F3.k0;have k1:=F3.k1;have k2:=F3.k2
    have AT2:=Lib.hid (ZaX (wr.alloc (.cells #[y.1,.int .i64 y.2.2.1,.int .i64 y.2.2.2] 27)) y.1 y.2.1 y.2.2.1 y.2.2.2 x ((hr0.below L.below).below a0))
    have LL:=Lib.hid L
    have HK:=Lib.hid (And.intro hlt hg)
    have HX:=Lib.hid hyt
    have KU:=Lib.hid hK
    have YY:=Lib.hid (And.intro hr0 (And.intro tok oy))
    have A0:=Lib.hid (And.intro a0 F3)
    have LK:=Lib.hid (And.intro (by have:=HN.out.2.2.2.2.2.2;unfold maxLen;omega:k+1<=maxLen) (by have:=HN.out.2.2.2.2.2.2;omega:(k+1)*40<=140737488355328))
    clear hyt hy hr0 tok oy hkn hlt hk hg hK L a0 F3
    obtain ⟨y0,yl,y1,y2⟩:=y
    dsimp only at *
    obtain ⟨Ay,cy,rfl⟩:=Zd YY.out.1
    obtain ⟨S,hS⟩:∃ S,S=atL yl x:=⟨_,rfl⟩
    rw [<- hS] at AT2
    have HS:=Lib.hid hS
    clear hS
    obtain ⟨s1,s2⟩:=S
    go_upto_region 13 with (go_at_call 41;(with_reducible refine AT2.out.mono ?_);rintro e w4 ⟨rfl,hb4⟩)
    have a4:=Za w4 (.cells #[.int .i64 s1,.int .i64 s2] 25)
    have R4:=RatAt.start w4 s1 s2 25
    have F4:=(A0.out.2.keep hb4).keep a4
    have b4:=(A0.out.1.trans (hb4.mono A0.out.1.size)).trans (a4.mono (by have:=hb4.size;have:=A0.out.1.size;omega))
    have j0:=F4.k0;have j1:=F4.k1;have j2:=F4.k2;have l0:=F4.l0;have l1:=F4.l1;have l2:=F4.l2
    have s0:=R4.k0;have s9:=R4.k1
    have M4:=Lib.hid (And.intro b4 F4)
    have L4:=Lib.hid (LL.out.keep b4)
    have p0:=L4.out.F.k0;have p1:=L4.out.F.k1;have p2:=L4.out.F.k2
    clear hb4 a4 R4 F4 b4 k0 k1 k2 d0 d1 d2 A0 AT2
    generalize w4.heap.size=b14 at *
    generalize w4.alloc (.cells #[.int .i64 s1,.int .i64 s2] 25)=w5 at *
    by_cases hki:k=i
    ·have i7:((k:Int)==(i:Int))=true:=by rw [hki];simp
     have TF:=Lib.hid (show ZeS (M,m1,m2) x i k (yl,y1,y2)=some (M,m1,m2) from if_pos hki)
     clear hki
     go_upto_region 19 with fail
     have bz:=((M4.out.1.setCell (p:=⟨wr.heap.size,0,none⟩) (Nat.le_refl _) (.slice Ap M.length dp)).setCell (p:=⟨wr.heap.size,1,none⟩) (Nat.le_refl _) (.int .i64 m1)).setCell (p:=⟨wr.heap.size,2,none⟩) (Nat.le_refl _) (.int .i64 m2)
     have FZ:=M4.out.2.write (.slice Ap M.length dp) (.int .i64 m1) (.int .i64 m2)
     have LZ:=Lib.hid (LL.out.keep bz)
     have o0:=FZ.k0;have o1:=FZ.k1;have o2:=FZ.k2
     clear j0 j1 j2 l0 l1 l2 s0 s9 p0 p1 p2
     clear FZ bz
     generalize ((w5.setCell ⟨wr.heap.size,0,none⟩ (.slice Ap M.length dp)).setCell ⟨wr.heap.size,1,none⟩ (.int .i64 m1)).setCell ⟨wr.heap.size,2,none⟩ (.int .i64 m2)=wz at *
     have LA:=LZ.out.keep (Za wz (.cells #[.slice Ap M.length dp,.int .i64 m1,.int .i64 m2] 27))
     obtain ⟨rs2,z1,z2,z3⟩:=LA.o
     rw [KU.out.1] at z2
     have QW:=Lib.hid (And.intro z1 (And.intro z2 (And.intro z3 LA)))
     have RR:=Lib.hid (And.intro (LZ.out.r.below (Za wz (.cells #[.slice Ap M.length dp,.int .i64 m1,.int .i64 m2] 27))) (LZ.out.op))
     have NW:=Lib.hid ((Zav (wo:=wz) (x:=#[.slice Ap M.length dp,.int .i64 m1,.int .i64 m2]) (ty:=27) (Nat.zero_le _)).reads (size:=3) rfl)
     have ONE:=Lib.hid (fun (u:Value) (hu:u∈[(.slice Ap M.length dp:Value),.int .i64 m1,.int .i64 m2])=>(by simp at hu;rcases hu with rfl | rfl | rfl<;>rfl:u.oneCell'=true))
     have NK:=Lib.hid (KU.out.next HX.out (TF.out))
     clear z1 z2 z3 LA
     go_wp2_with (at_builtin;refine Zm _ rfl _ _ 49 rfl w.heap.size 27 iT (.agg #[.slice none 0 0,.int .i64 0,.int .i64 0]) 3 40 Tryz.underlying49 hiT zT0 zT1 zT2 rfl (by decide) _ k (Zg rs2) rfl QW.out.2.1 (wz.heap.size+1) (some ⟨wz.heap.size,0,none⟩) 1 1 [.slice Ap M.length dp,.int .i64 m1,.int .i64 m2] rfl NW.out ONE.out LK.out.1 LK.out.2 QW.out.2.2.2.below.size ?_)
     intro v8 w8 hown hgrow hat
     have LP:=Lib.hid (TakL.push (t:=(M,m1,m2)) QW.out.2.2.2 QW.out.1 QW.out.2.2.1 (by rw [KU.out.1];exact hown) hgrow (by rw [World.size_alloc];exact hat) RR.out.1 RR.out.2)
     clear hown hgrow hat
     go_wp2_with fail
     go_roundg (n-(k+1))
     case measure=>have:=HK.out;omega
     case rel=>exact ⟨k+1,v8,_,rfl,by push_cast;rfl,by have:=HK.out;omega,rfl,NK.out,LP.out⟩
    ·have i7:((k:Int)==(i:Int))=false:=by rw [beq_eq_false_iff_ne];omega
     have TE:ZeS (M,m1,m2) x i k (yl,y1,y2)=ZQ (M,m1,m2) x (yl,y1,y2):=if_neg hki
     by_cases hs0:s1=0
     ·have i8:(s1 != 0)=false:=by rw [hs0];rfl
      have TF:=Lib.hid (show ZeS (M,m1,m2) x i k (yl,y1,y2)=some (yl,y1,y2) from TE.trans (Zn9 (by show (atL yl x).1=0;rw [<- HS.out];exact hs0)))
      clear TE hs0
      go_upto_region 19 with fail
      clear i8 l0 l1 l2 s0 s9 p0 p1 p2
      have LZ:=Lib.hid L4.out
      have HY5:=Lib.hid ((YY.out.1.below LL.out.below).below (show Below wr.heap.size wr w5 from M4.out.1))
      clear L4 M4
      generalize w5=wz at *
      have LA:=LZ.out.keep (Za wz (.cells #[.slice Ay yl.length cy,.int .i64 y1,.int .i64 y2] 27))
      obtain ⟨rs2,z1,z2,z3⟩:=LA.o
      rw [KU.out.1] at z2
      have QW:=Lib.hid (And.intro z1 (And.intro z2 (And.intro z3 LA)))
      have RR:=Lib.hid (And.intro (HY5.out.below (Za wz (.cells #[.slice Ay yl.length cy,.int .i64 y1,.int .i64 y2] 27))) (YY.out.2.2))
      have NW:=Lib.hid ((Zav (wo:=wz) (x:=#[.slice Ay yl.length cy,.int .i64 y1,.int .i64 y2]) (ty:=27) (Nat.zero_le _)).reads (size:=3) rfl)
      have ONE:=Lib.hid (fun (u:Value) (hu:u∈[(.slice Ay yl.length cy:Value),.int .i64 y1,.int .i64 y2])=>(by simp at hu;rcases hu with rfl | rfl | rfl<;>rfl:u.oneCell'=true))
      have NK:=Lib.hid (KU.out.next HX.out (TF.out))
      clear z1 z2 z3 LA
      go_wp2_with (at_builtin;refine Zm _ rfl _ _ 49 rfl w.heap.size 27 iT (.agg #[.slice none 0 0,.int .i64 0,.int .i64 0]) 3 40 Tryz.underlying49 hiT zT0 zT1 zT2 rfl (by decide) _ k (Zg rs2) rfl QW.out.2.1 (wz.heap.size+1) (some ⟨wz.heap.size,0,none⟩) 1 1 [.slice Ay yl.length cy,.int .i64 y1,.int .i64 y2] rfl NW.out ONE.out LK.out.1 LK.out.2 QW.out.2.2.2.below.size ?_)
      intro v8 w8 hown hgrow hat
      have LP:=Lib.hid (TakL.push (t:=(yl,y1,y2)) QW.out.2.2.2 QW.out.1 QW.out.2.2.1 (by rw [KU.out.1];exact hown) hgrow (by rw [World.size_alloc];exact hat) RR.out.1 RR.out.2)
      clear hown hgrow hat
      go_wp2_with fail
      go_roundg (n-(k+1))
      case measure=>have:=HK.out;omega
      case rel=>exact ⟨k+1,v8,_,rfl,by push_cast;rfl,by have:=HK.out;omega,rfl,NK.out,LP.out⟩
     ·have i8:(s1 != 0)=true:=by simpa using hs0
      have LS:=Lib.hid (ZjW w5 (.slice Ay yl.length cy) (.slice Ap M.length dp) yl M (y1,y2) (m1,m2) (s1,s2) ((YY.out.1.below LL.out.below).below (show Below wr.heap.size wr w5 from M4.out.1)) L4.out.r YY.out.2.1.ok.wide PK.out.ok.wide YY.out.2.1.k.wide PK.out.k.wide (by rw [HS.out];exact YY.out.2.1.ok.at x))
      obtain ⟨P,hP⟩:∃ P,P=ZdB yl (y1,y2) M (m1,m2) (s1,s2):=⟨_,rfl⟩
      rw [<- hP] at LS
      have eT:Zar yl (y1,y2) M (m1,m2) x=P:=by
       rw [hP,HS.out]
       exact ZjI (p:=(M,m1,m2)) (t:=(yl,y1,y2)) (by show (atL yl x).1≠0;rw [<- HS.out];exact hs0)
      have eO:ZQ (M,m1,m2) x (yl,y1,y2)=if P.2.2=0 then some (P.1,P.2.1) else none:=by
       unfold ZQ
       show (if (Zar yl (y1,y2) M (m1,m2) x).2.2=0 then some ((Zar yl (y1,y2) M (m1,m2) x).1,(Zar yl (y1,y2) M (m1,m2) x).2.1) else none)=_
       rw [eT]
      rw [eO] at TE
      have TEH:=Lib.hid TE
      clear eO eT TE hP hs0
      obtain ⟨N,⟨n1,n2⟩,er⟩:=P
      dsimp only at *
      go_upto_region 17 with (go_at_call 104;(with_reducible refine LS.out.mono ?_);rintro e7 w7 ⟨v7,rfl,hv7,hb7,fr7⟩;obtain ⟨A7,c7,rfl⟩:=Zd hv7;have F7:=M4.out.2.keep hb7;have b7:=M4.out.1.trans (hb7.mono M4.out.1.size);clear j0 j1 j2 l0 l1 l2;have j0:=F7.k0;have j1:=F7.k1;have j2:=F7.k2;have l0:=F7.l0;have l1:=F7.l1;have l2:=F7.l2;have M7:=Lib.hid (And.intro b7 (And.intro F7 (And.intro hv7 fr7)));clear hv7 fr7 hb7 b7 F7)
      have FR7:=Lib.hid (Zrg (M7.out.2.2.2) M4.out.2.lt)
      have bz:=((M7.out.1.setCell (p:=⟨wr.heap.size,0,none⟩) (Nat.le_refl _) (.slice A7 N.length c7)).setCell (p:=⟨wr.heap.size,1,none⟩) (Nat.le_refl _) (.int .i64 n1)).setCell (p:=⟨wr.heap.size,2,none⟩) (Nat.le_refl _) (.int .i64 n2)
      have FZ:=M7.out.2.1.write (.slice A7 N.length c7) (.int .i64 n1) (.int .i64 n2)
      have LZ:=Lib.hid (LL.out.keep bz)
      have o0:=FZ.k0;have o1:=FZ.k1;have o2:=FZ.k2
      have HZ:=Lib.hid (((M7.out.2.2.1.setCell FR7.out (p:=⟨wr.heap.size,0,none⟩) (Nat.lt_succ_self _) (.slice A7 N.length c7)).setCell FR7.out (p:=⟨wr.heap.size,1,none⟩) (Nat.lt_succ_self _) (.int .i64 n1)).setCell FR7.out (p:=⟨wr.heap.size,2,none⟩) (Nat.lt_succ_self _) (.int .i64 n2))
      have OFZ:=Lib.hid (Off.fresh (l:=N) (S:=fun b=>vo.ownBlock=some b\/S0 b) FR7.out (fun b q=>q.elim (fun q=>Nat.lt_succ_of_lt (LL.out.o.lt b q).2) (fun q=>Nat.lt_succ_of_lt (Nat.lt_of_lt_of_le (HS0.out b q) LL.out.below.size))))
      clear i8 j0 j1 j2 l0 l1 l2 s0 s9 p0 p1 p2 L4
      clear FZ bz
      generalize ((w7.setCell ⟨wr.heap.size,0,none⟩ (.slice A7 N.length c7)).setCell ⟨wr.heap.size,1,none⟩ (.int .i64 n1)).setCell ⟨wr.heap.size,2,none⟩ (.int .i64 n2)=wz at *
      by_cases he7:er=0
      rotate_left
      ·have ne7:(er != 0)=true:=by simpa using he7
       have FIN:=Lib.hid (show Zd9 w S0 (xl,x1,x2) x i ts (.returned (.tuple #[.slice none 0 0,.bool false])) wz from ⟨LZ.out.below,.inr ⟨.inr ⟨k,_,HX.out,by rw [<- QZ.out];exact TEH.out.trans (if_neg he7)⟩,rfl⟩⟩)
       clear he7
       go_wp2_with fail
       go_ret2
       exact FIN.out
      ·subst he7
       have TF:=Lib.hid (TEH.out.trans (if_pos rfl))
       clear TEH
       go_upto_region 19 with fail
       have LA:=LZ.out.keep (Za wz (.cells #[.slice A7 N.length c7,.int .i64 n1,.int .i64 n2] 27))
       obtain ⟨rs2,z1,z2,z3⟩:=LA.o
       rw [KU.out.1] at z2
       have QW:=Lib.hid (And.intro z1 (And.intro z2 (And.intro z3 LA)))
       have RR:=Lib.hid (And.intro (HZ.out.below (Za wz (.cells #[.slice A7 N.length c7,.int .i64 n1,.int .i64 n2] 27))) (OFZ.out))
       have NW:=Lib.hid ((Zav (wo:=wz) (x:=#[.slice A7 N.length c7,.int .i64 n1,.int .i64 n2]) (ty:=27) (Nat.zero_le _)).reads (size:=3) rfl)
       have ONE:=Lib.hid (fun (u:Value) (hu:u∈[(.slice A7 N.length c7:Value),.int .i64 n1,.int .i64 n2])=>(by simp at hu;rcases hu with rfl | rfl | rfl<;>rfl:u.oneCell'=true))
       have NK:=Lib.hid (KU.out.next HX.out (TF.out))
       clear z1 z2 z3 LA
       go_wp2_with (at_builtin;refine Zm _ rfl _ _ 49 rfl w.heap.size 27 iT (.agg #[.slice none 0 0,.int .i64 0,.int .i64 0]) 3 40 Tryz.underlying49 hiT zT0 zT1 zT2 rfl (by decide) _ k (Zg rs2) rfl QW.out.2.1 (wz.heap.size+1) (some ⟨wz.heap.size,0,none⟩) 1 1 [.slice A7 N.length c7,.int .i64 n1,.int .i64 n2] rfl NW.out ONE.out LK.out.1 LK.out.2 QW.out.2.2.2.below.size ?_)
       intro v8 w8 hown hgrow hat
       have LP:=Lib.hid (TakL.push (t:=(N,n1,n2)) QW.out.2.2.2 QW.out.1 QW.out.2.2.1 (by rw [KU.out.1];exact hown) hgrow (by rw [World.size_alloc];exact hat) RR.out.1 RR.out.2)
       clear hown hgrow hat
       go_wp2_with fail
       go_roundg (n-(k+1))
       case measure=>have:=HK.out;omega
       case rel=>exact ⟨k+1,v8,_,rfl,by push_cast;rfl,by have:=HK.out;omega,rfl,NK.out,LP.out⟩
end
end Go.Proofs.YtolookeddknmoaaGreat
