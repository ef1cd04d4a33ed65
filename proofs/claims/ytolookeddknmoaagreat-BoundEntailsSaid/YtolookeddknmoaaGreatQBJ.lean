import Derived.Test.YtolookeddknmoaaGreatQBI
set_option maxRecDepth 100000
set_option maxHeartbeats 8000000
namespace Go.Proofs.YtolookeddknmoaaGreat
section
open Go.RowKit
abbrev Ch:=Int×Sum (List Rw×List Rw) Trm
def Zax:List (Value×Ch)->List Value
 | []=>[]
 | x::r=>.int .i64 x.2.1::x.1::Zax r
theorem ZfZ:∀ (l:List (Value×Ch)) (k:Nat) (x:Value×Ch),l[k]? = some x->(Zax l)[k*2]? = some (.int .i64 x.2.1)/\(Zax l)[k*2+1]? = some x.1
 | [],k,x,h=>by simp at h
 | y::r,0,x,h=>by
  obtain rfl:y=x:=by simpa using h
  exact ⟨rfl,rfl⟩
 | y::r,k+1,x,h=>by
  rw [List.getElem?_cons_succ] at h
  obtain ⟨a,b⟩:=ZfZ r k x h
  exact ⟨by rw [show (k+1)*2=k*2+1+1 by omega];exact a,by rw [show (k+1)*2+1=k*2+1+1+1 by omega];exact b⟩
theorem Zfx:∀ (l m:List (Value×Ch)),Zax (l++m)=Zax l++Zax m
 | [],m=>rfl
 | x::r,m=>by rw [List.cons_append,Zax,Zax,Zfx r m];rfl
theorem ZhO:∀ (l:List (Value×Ch)) (k:Nat) (x:Value×Ch),Zax (l.set k x)=((Zax l).set (k*2) (.int .i64 x.2.1)).set (k*2+1) x.1
 | [],k,x=>by simp [Zax]
 | y::r,0,x=>by simp [Zax]
 | y::r,k+1,x=>by
  rw [List.set_cons_succ,Zax,Zax,ZhO r k x,show (k+1)*2=k*2+1+1 by omega,show k*2+1+1+1=(k*2+1)+1+1 by omega]
  simp only [List.set_cons_succ]
def Zbg (w:World) (f:Value) (x:Sum (List Rw×List Rw) Trm) (S:Nat->Prop):Prop:=
 match x with
 | .inl y=>∃ b1 b2 v1 v2,f=.func (.func 85) #[] #[.pointer (some ⟨b1,0,none⟩),.pointer (some ⟨b2,0,none⟩)]/\Blk w b1 #[v1]/\Blk w b2 #[v2]/\¬ S b1/\¬ S b2/\ZV w v1 y.1 S/\ZV w v2 y.2 S
 | .inr s=>∃ b vs,f=.func (.func 64) #[] #[.pointer (some ⟨b,0,none⟩)]/\Blk w b #[vs,.int .i64 s.2.1,.int .i64 s.2.2]/\¬ S b/\Zb w vs s.1/\Off S vs s.1
section
variable {w w':World} {f:Value} {x:Sum (List Rw×List Rw) Trm} {S S':Nat->Prop}
theorem Zbg.below (h:Zbg w f x S) (hb:Below w.heap.size w w'):Zbg w' f x S:=by
 cases x with
 | inl y=>
  obtain ⟨b1,b2,v1,v2,e,h1,h2,h3,h4,h5,h6⟩:=h
  exact ⟨b1,b2,v1,v2,e,h1.keep hb,h2.keep hb,h3,h4,h5.below hb,h6.below hb⟩
 | inr s=>
  obtain ⟨b,vs,e,h1,h2,h3,h4⟩:=h
  exact ⟨b,vs,e,h1.keep hb,h2,h3.below hb,h4⟩
theorem Zbg.grown {row:Option Nat} (h:Zbg w f x S) (hg:w.grownBy w' row) (hr:∀ b,row=some b->S b):Zbg w' f x S:=by
 cases x with
 | inl y=>
  obtain ⟨b1,b2,v1,v2,e,h1,h2,h3,h4,h5,h6⟩:=h
  exact ⟨b1,b2,v1,v2,e,h1.grown hg (fun q=>h3 (hr _ q)),h2.grown hg (fun q=>h4 (hr _ q)),h3,h4,h5.grown hg hr,h6.grown hg hr⟩
 | inr s=>
  obtain ⟨b,vs,e,h1,h2,h3,h4⟩:=h
  exact ⟨b,vs,e,h1.grown hg (fun q=>h2 (hr _ q)),h2,h3.off h4 hg hr,h4⟩
theorem Zbg.mono (h:Zbg w f x S) (hs:∀ b,S' b->S b\/w.heap.size<=b):Zbg w f x S':=by
 cases x with
 | inl y=>
  obtain ⟨b1,b2,v1,v2,e,h1,h2,h3,h4,h5,h6⟩:=h
  exact ⟨b1,b2,v1,v2,e,h1,h2,fun q=>(hs _ q).elim h3 (fun q=>by have:=h1.lt;omega),fun q=>(hs _ q).elim h4 (fun q=>by have:=h2.lt;omega),h5.mono hs,h6.mono hs⟩
 | inr s=>
  obtain ⟨b,vs,e,h1,h2,h3,h4⟩:=h
  exact ⟨b,vs,e,h1,fun q=>(hs _ q).elim h2 (fun q=>by have:=h1.lt;omega),h3,h4.more h3 hs⟩
theorem Zbg.one (h:Zbg w f x S):f.oneCell'=true:=by
 cases x with
 | inl y=>obtain ⟨_,_,_,_,rfl,_⟩:=h;rfl
 | inr s=>obtain ⟨_,_,rfl,_⟩:=h;rfl
end
def ZmW (w:World) (v:Value) (cs:List Ch) (S:Nat->Prop):Prop:=
 ∃ A c rs,v=.slice A cs.length c/\cs.length<=c/\c<=maxLen/\rs.map (·.2)=cs/\ZB w w.heap.size 2 A cs.length (Zax rs)/\∀ x∈rs,Zbg w x.1 x.2.2 S
def Za0 (w:World) (base:Nat) (v:Value) (cs:List Ch) (S:Nat->Prop):Prop:=
 ∃ rs,rs.map (·.2)=cs/\w.ownsRow base 93 2 v cs.length (Zax rs)/\∀ x∈rs,Zbg w x.1 x.2.2 S
section
variable {w w':World} {base bas2:Nat} {v v':Value} {cs ds:List Ch} {S S':Nat->Prop}
theorem Za0.nil (w:World) (base:Nat) (S:Nat->Prop):Za0 w base (.slice none 0 0) [] S:=⟨[],rfl,World.ownsRow_nil w base _ _,fun x hx=>by cases hx⟩
theorem Za0.chs (h:Za0 w base v cs S):ZmW w v cs S:=by
 obtain ⟨rs,h1,h2,h3⟩:=h
 have h0:=h2
 rcases h2.2 with ⟨rfl,hn⟩ | ⟨g,cap,cur,rfl,_,hh,hnc,hrest⟩
 ·have hts:cs=[]:=List.eq_nil_of_length_eq_zero hn
  subst hts
  exact ⟨none,0,[],rfl,Nat.le_refl _,by decide,rfl,ZB.none_,fun x hx=>by cases hx⟩
 ·exact ⟨some _,cap,rs,rfl,hnc,hrest.1,h1,ZB.of_own h0,h3⟩
theorem Za0.lt (h:Za0 w base v cs S):∀ k,v.ownBlock=some k->base<=k/\k<w.heap.size:=by
 obtain ⟨rs,_,h2,_⟩:=h
 exact h2.lt
theorem Za0.below (h:Za0 w base v cs S) (hb:Below w.heap.size w w'):Za0 w' base v cs S:=by
 obtain ⟨rs,h1,h2,h3⟩:=h
 exact ⟨rs,h1,h2.kept (Zac hb none) (by cases hv:v.ownBlock<;>simp),fun x hx=>(h3 x hx).below hb⟩
theorem Za0.mono (h:Za0 w base v cs S) (hs:∀ b,S' b->S b\/w.heap.size<=b):Za0 w base v cs S':=by
 obtain ⟨rs,h1,h2,h3⟩:=h
 exact ⟨rs,h1,h2,fun x hx=>(h3 x hx).mono hs⟩
theorem Za0.appended {rs ns:List (Value×Ch)} {m:Nat} (h1:rs.map (·.2)=cs) (h3:∀ x∈rs,Zbg w x.1 x.2.2 S) (n1:ns.map (·.2)=ds) (n3:∀ x∈ns,Zbg w x.1 x.2.2 S) (hm:ds.length=m)
  (hown:w'.ownsRow base 93 2 v' (cs.length+m) (Zax rs++Zax ns)) (hg:w.grownBy w' v.ownBlock) (hv:∀ b,v.ownBlock=some b->S b) (hs:∀ b,S' b->S b\/w.heap.size<=b) :
  Za0 w' base v' (cs++ds) S':=by
 refine ⟨rs++ns,by rw [List.map_append,h1,n1],by rw [List.length_append,hm,Zfx];exact hown,fun x hx=>?_⟩
 have key:Zbg w x.1 x.2.2 S:=(List.mem_append.1 hx).elim (h3 x) (n3 x)
 exact ((key.mono (S':=fun b=>S b\/S' b) (fun b q=>q.elim .inl (hs b))).grown hg (fun b q=>.inl (hv b q))).mono fun b q=>.inl (.inr q)
theorem Za0.one {rs:List (Value×Ch)} (h3:∀ x∈rs,Zbg w x.1 x.2.2 S):∀ u∈Zax rs,u.oneCell'=true:=by
 induction rs with
 | nil=>intro u hu;cases hu
 | cons x r ih=>
  intro u hu
  rw [Zax,List.mem_cons,List.mem_cons] at hu
  rcases hu with rfl | rfl | hu
  ·rfl
  ·exact (h3 x (by simp)).one
  ·exact ih (fun y hy=>h3 y (by simp [hy])) u hu
end
theorem ZkW:(Tryz.prog.info? 93).map (fun i=>(i.zero,i.size,i.bytes))=some (some (.agg #[.int .i64 0,Value.nilFunc]),2,16):=by kernel_rfl
theorem ZlJ (w:World) (A1 A2:Option Addr) (n1 c1 n2 c2:Nat) :
  Calls Tryz.prog 60 #[.slice A1 n1 c1,.slice A2 n2 c2] w fun e w'=>e=.returned (.func (.func 85) #[] #[.pointer (some ⟨w.heap.size,0,none⟩),.pointer (some ⟨w.heap.size+1,0,none⟩)]) ∧
   Blk w' w.heap.size #[.slice A1 n1 c1]/\Blk w' (w.heap.size+1) #[.slice A2 n2 c2]/\Below w.heap.size w w':=by
 have hmf:∀ (fn:Fn) (first cap:Array Value) (w:World),(Instr.makeFunc fn first cap).run Tryz.prog w=.ok (.func fn first cap) w:=fun _ _ _ _=>rfl
 have B1:=(Blk.start w #[.slice A1 n1 c1] 22).keep (Za _ (.cells #[.slice A2 n2 c2] 22))
 have B2:=Blk.start (w.alloc (.cells #[.slice A1 n1 c1] 22)) #[.slice A2 n2 c2] 22
 rw [World.size_alloc] at B2
 have FIN:=Lib.hid (And.intro B1 (And.intro B2 (ZI w (.cells #[.slice A1 n1 c1] 22) (.cells #[.slice A2 n2 c2] 22))))
 clear B1 B2
 go_enter Tryz.func60,Tryz.ntmps60
 go_wp2_with fail
 go_ret
 exact ⟨rfl,FIN.out.1,FIN.out.2.1,FIN.out.2.2⟩
def ZaM (Z:List (Trm×Int)):List Ch:=Z.map fun s=>(s.2,.inr s.1)
theorem Zkn (w0 w:World) (hb0:Below w0.heap.size w0 w) (vs vp:Value) (sel:List Trm) (piv:List Int) (hs:Zal w0 vs sel) (hp:ZaT w vp piv) (hlen:sel.length=piv.length) (hl:sel.length<=1000) :
  Calls Tryz.prog 27 #[vs,vp] w fun e w'=>∃ v,e=.returned v/\Za0 w' w.heap.size v (ZaM (sel.zip piv)) (fun b=>v.ownBlock=some b\/(w0.heap.size<=b/\b<w.heap.size))/\Below w.heap.size w w':=by
 have hmf:∀ (fn:Fn) (first cap:Array Value) (w:World),(Instr.makeFunc fn first cap).run Tryz.prog w=.ok (.func fn first cap) w:=fun _ _ _ _=>rfl
 obtain ⟨iC,hiC,zC0,zC1,zC2⟩:=info_parts ZkW
 obtain ⟨A,c,ss,rfl,g2,g3,g4,g5,g6⟩:=hs
 obtain ⟨Ap,cp,rfl,f2,f3,f4⟩:=hp
 obtain ⟨m,hm⟩:∃ m,m=sel.length:=⟨_,rfl⟩
 have hsm:ss.length=m:=by rw [hm,<- g4,List.length_map]
 rw [<- hlen] at f2 f4 ⊢
 rw [<- hm] at g2 g5 f2 f4 hl ⊢
 have hpm:piv.length=m:=by rw [hm,hlen]
 have HM:=Lib.hid (And.intro hsm (And.intro g4 (And.intro g5 (And.intro g6 (And.intro hm (And.intro hl (And.intro hpm f4)))))))
 obtain ⟨Z,hZ⟩:∃ Z,Z=sel.zip piv:=⟨_,rfl⟩
 rw [<- hZ]
 have HZ:=Lib.hid (And.intro hZ (show Z.length=m by rw [hZ,List.length_zip,hpm,<- hm];omega))
 clear hm hsm g2 g3 g4 g5 g6 f2 f3 f4 hpm hlen hl hZ
 go_enter Tryz.func27,Tryz.ntmps27
 go_wp2_with fail
 go_loopg [5,10] m (fun g v5 v10 wr=>∃ (k:Nat) (va:Value),va=v5/\v10=.int .i64 k/\k<=m/\g=m-k/\Za0 wr w.heap.size va (ZaM (Z.take k)) (fun b=>va.ownBlock=some b\/(w0.heap.size<=b/\b<w.heap.size))/\Below w.heap.size w wr)
 case atStart=>exact ⟨0,_,rfl,rfl,Nat.zero_le _,rfl,Za0.nil _ _ _,Below.refl _ _⟩
 case round=>
  obtain ⟨k,va,rfl,rfl,hk,hg,D,hb⟩:=hrel
  by_cases hkm:k=m
  ·have he:Z.take k=Z:=by rw [hkm,<- HZ.out.2];exact List.take_length
   rw [he] at D
   have FIN:=Lib.hid (And.intro D hb)
   obtain ⟨Av,cv,rfl⟩:∃ A c,va=.slice A (ZaM Z).length c:=by obtain ⟨A,c,_,e,_⟩:=D.chs;exact ⟨A,c,e⟩
   subst hkm
   clear hk hg D hb he
   generalize (ZaM Z).length=z at *
   go_wp2_with fail
   go_ret
   exact ⟨_,rfl,FIN.out.1,FIN.out.2⟩
  ·have hlt:k<m:=by omega
   obtain ⟨x,hx⟩:∃ x,ss[k]? = some x:=⟨_,List.getElem?_eq_getElem (by have:=HM.out.1;omega)⟩
   have hxt:sel[k]? = some x.2:=by rw [<- HM.out.2.1,List.getElem?_map,hx];rfl
   obtain ⟨p,hpk⟩:∃ p,piv[k]? = some p:=⟨_,List.getElem?_eq_getElem (by have:=HM.out.2.2.2.2.2.2.1;omega)⟩
   obtain ⟨ads,rfl,d0,d1,d2⟩:=ZaZ HM.out.2.2.1 (hb0.trans (hb.mono hb0.size)) hx (by omega)
   obtain ⟨adp,rfl,pj⟩:=ZbL HM.out.2.2.2.2.2.2.2 hb hpk (by omega)
   have hrx:=HM.out.2.2.2.1 x (List.mem_of_getElem? hx)
   have hzk:Z[k]? = some (x.2,p):=by rw [HZ.out.1,List.getElem?_zip_eq_some];exact ⟨hxt,hpk⟩
   have tk:ZaM (Z.take (k+1))=ZaM (Z.take k)++[(p,.inr x.2)]:=by
    unfold ZaM
    rw [List.take_add_one,hzk]
    simp
   have le:(ZaM (Z.take k)).length<=k:=by unfold ZaM;rw [List.length_map,List.length_take];omega
   have i1:(k:Int)<(m:Int):=by omega
   have i2:(0:Int)<=(k:Int):=by omega
   have wk:IntKind.i64.wrap ((k:Int)+1)=(k:Int)+1:=IntWalk.i64_in _ (by have:=HM.out.2.2.2.2.2.1;omega)
   have LK:=Lib.hid (And.intro (show k+1<=maxLen by have:=HM.out.2.2.2.2.2.1;unfold maxLen;omega) (And.intro le (And.intro hlt hg)))
   obtain ⟨xv,xl,x1,x2⟩:=x
   dsimp only at *
   obtain ⟨Ax,cx,rfl⟩:=Zd hrx
   have a1:=Za wr (.cells #[.slice Ax xl.length cx,.int .i64 x1,.int .i64 x2] 27)
   have SB:=Blk.start wr #[.slice Ax xl.length cx,.int .i64 x1,.int .i64 x2] 27
   have b1:=hb.trans (a1.mono hb.size)
   have b01:=hb0.trans (b1.mono hb0.size)
   have fo:Off (fun b=>va.ownBlock=some b\/(w0.heap.size<=b/\b<w.heap.size)) (.slice Ax xl.length cx) xl:=(ZfH (W:=w0) hrx).mono fun b q=>q.elim (fun q=>Nat.le_trans hb0.size (D.lt b q).1) (fun q=>q.1)
   have FA:Zbg (wr.alloc (.cells #[.slice Ax xl.length cx,.int .i64 x1,.int .i64 x2] 27)) (.func (.func 64) #[] #[.pointer (some ⟨wr.heap.size,0,none⟩)]) (.inr (xl,x1,x2)) (fun b=>va.ownBlock=some b\/(w0.heap.size<=b/\b<w.heap.size)):=
    ⟨_,_,rfl,SB,fun q=>q.elim (fun q=>by have:=(D.lt _ q).2;omega) (fun q=>by have:=q.2;have:=hb.size;omega),hrx.below b01,fo⟩
   have DD:=Lib.hid (And.intro (D.below a1) (And.intro FA b1))
   have TK:=Lib.hid tk
   clear hk hkm hpk hrx hxt hx hzk tk le hlt hg a1 SB b1 b01 fo FA D hb
   go_upto_region 5 with fail
   clear d0 d1 d2
   have pj:=ZU (Za wr (.cells #[.slice Ax xl.length cx,.int .i64 x1,.int .i64 x2] 27)) pj
   generalize wr.heap.size=bs at *
   generalize wr.alloc (.cells #[.slice Ax xl.length cx,.int .i64 x1,.int .i64 x2] 27)=w1 at *
   have a2:=Za w1 (.cells #[.int .i64 p,.func (.func 64) #[] #[.pointer (some ⟨bs,0,none⟩)]] 93)
   have D2:=DD.out.1.below a2
   obtain ⟨rs,z1,z2,z3⟩:=D2
   have RD:=(Zav (wo:=w1) (x:=#[.int .i64 p,.func (.func 64) #[] #[.pointer (some ⟨bs,0,none⟩)]]) (ty:=93) (Nat.zero_le _)).reads (size:=2) rfl
   have QW:=Lib.hid (And.intro z1 (And.intro z2 (And.intro z3 (And.intro RD (And.intro (DD.out.2.1.below a2) (DD.out.2.2.trans (a2.mono DD.out.2.2.size)))))))
   have ONE:=Lib.hid (show ∀ u∈[Value.int .i64 p,.func (.func 64) #[] #[.pointer (some ⟨bs,0,none⟩)]],u.oneCell'=true from fun u hu=>by simp at hu;rcases hu with rfl | rfl<;>rfl)
   clear z1 z2 z3 RD a2 DD
   go_wp2_with (at_builtin;refine Zm _ rfl _ _ 57 rfl w.heap.size 93 iC (.agg #[.int .i64 0,Value.nilFunc]) 2 16 Tryz.underlying57 hiC zC0 zC1 zC2 rfl (by decide) _ (ZaM (Z.take k)).length (Zax rs) rfl QW.out.2.1 (w1.heap.size+1) (some ⟨w1.heap.size,0,none⟩) 1 1 [.int .i64 p,.func (.func 64) #[] #[.pointer (some ⟨bs,0,none⟩)]] rfl QW.out.2.2.2.1 ONE.out (by have:=LK.out;omega) (by have:=LK.out;have:=HM.out.2.2.2.2.2.1;omega) QW.out.2.2.2.2.2.size ?_)
   intro v8 w8 hown hgrow hat
   have hat:v8.ownBlock=va.ownBlock\/v8.ownBlock=some (w1.alloc (.cells #[.int .i64 p,.func (.func 64) #[] #[.pointer (some ⟨bs,0,none⟩)]] 93)).heap.size:=by first | exact hat | simpa using hat
   have D8:=Za0.appended (S':=fun b=>v8.ownBlock=some b\/(w0.heap.size<=b/\b<w.heap.size)) (ns:=[(.func (.func 64) #[] #[.pointer (some ⟨bs,0,none⟩)],(p,.inr (xl,x1,x2)))]) QW.out.1 QW.out.2.2.1 rfl (fun x hx=>by rw [List.mem_singleton] at hx;subst hx;exact QW.out.2.2.2.2.1) rfl hown hgrow (fun b q=>.inl q) (fun b q=>by
    rcases q with q | q
    ·rcases hat with e | e
     ·rw [e] at q;exact .inl (.inl q)
     ·rw [e] at q;injection q with q;exact .inr (by omega)
    ·exact .inl (.inr q))
   have FIN:=Lib.hid (And.intro D8 (QW.out.2.2.2.2.2.grown hgrow QW.out.2.2.2.2.2.size (fun b q=>(World.ownsRow.lt QW.out.2.1 b q).1)))
   clear hown hgrow hat D8
   go_wp2_with fail
   go_roundg (m-(k+1))
   case measure=>have:=LK.out;omega
   case rel=>exact ⟨k+1,_,rfl,by push_cast;rfl,by have:=LK.out;omega,rfl,by rw [TK.out];exact FIN.out.1,FIN.out.2⟩
end
section
open Go.RowKit
theorem Za0.cells {w:World} {base g n cap k:Nat} {cs:List Ch} {S:Nat->Prop} (h:Za0 w base (.slice (some ⟨g,0,none⟩) n cap) cs S) {c:Ch} (hc:cs[k]? = some c) :
  ∃ f,Zbg w f c.2 S/\w.cell? ⟨g,k*2,none⟩=some (.int .i64 c.1)/\w.cell? ⟨g,k*2+1,none⟩=some f/\w.frozen? ⟨g,k*2,none⟩=false/\w.frozen? ⟨g,k*2+1,none⟩=false:=by
 obtain ⟨rs,h1,h2,h3⟩:=h
 have hn:n=cs.length:=by
  rcases h2.2 with ⟨e,_⟩ | ⟨g',cap',cur,e,_⟩
  ·cases e
  ·injection e
 subst hn
 have hk:k<cs.length:=by
  rcases Nat.lt_or_ge k cs.length with q | q
  ·exact q
  ·rw [List.getElem?_eq_none q] at hc;cases hc
 obtain ⟨x,hx⟩:∃ x,rs[k]? = some x:=⟨_,List.getElem?_eq_getElem (by rw [<- h1,List.length_map] at hk;exact hk)⟩
 have e:x.2=c:=by
  rw [<- h1,List.getElem?_map,hx] at hc
  exact Option.some.inj hc
 subst e
 obtain ⟨a,b⟩:=ZfZ rs k x hx
 refine ⟨x.1,h3 x (List.mem_of_getElem? hx),?_,?_,h2.frozenAt _,h2.frozenAt _⟩
 ·rw [h2.cellAt _ (by omega)];exact a
 ·rw [h2.cellAt _ (by omega)];exact b
theorem Za0.stored {w:World} {base g n cap k:Nat} {cs:List Ch} {S:Nat->Prop} (h:Za0 w base (.slice (some ⟨g,0,none⟩) n cap) cs S) (hS:S g) {f:Value} {c:Ch} (hf:Zbg w f c.2 S) :
  Za0 ((w.setCell ⟨g,k*2,none⟩ (.int .i64 c.1)).setCell ⟨g,k*2+1,none⟩ f) base (.slice (some ⟨g,0,none⟩) n cap) (cs.set k c) S ∧
  w.grownBy ((w.setCell ⟨g,k*2,none⟩ (.int .i64 c.1)).setCell ⟨g,k*2+1,none⟩ f) (some g):=by
 obtain ⟨rs,h1,h2,h3⟩:=h
 have hn:n=cs.length:=by
  rcases h2.2 with ⟨e,_⟩ | ⟨g',cap',cur,e,_⟩
  ·cases e
  ·injection e
 subst hn
 obtain ⟨a1,b1⟩:=h2.stored (k*2) (.int .i64 c.1)
 obtain ⟨a2,b2⟩:=a1.stored (k*2+1) f
 have hg:=Zaa b1 b2
 refine ⟨⟨rs.set k (f,c),by rw [List.map_set,h1],?_,fun x hx=>?_⟩,hg⟩
 ·rw [List.length_set,ZhO]
  exact a2
 ·have key:Zbg w x.1 x.2.2 S:=by
   rcases List.mem_or_eq_of_mem_set hx with q | rfl
   ·exact h3 x q
   ·exact hf
  exact key.grown hg (fun b e=>by injection e with e;exact e▸hS)
theorem Za0.form {w:World} {base:Nat} {v:Value} {cs:List Ch} {S:Nat->Prop} (h:Za0 w base v cs S) (hn:0<cs.length):∃ g cap,v=.slice (some ⟨g,0,none⟩) cs.length cap/\base<=g/\g<w.heap.size/\cs.length<=cap/\cap<=maxLen:=by
 obtain ⟨rs,_,h2,_⟩:=h
 rcases h2.2 with ⟨_,hz⟩ | ⟨g,cap,cur,rfl,hb,hg,hc,hm,_⟩
 ·omega
 ·exact ⟨g,cap,rfl,hb,(Array.getElem?_eq_some_iff.1 hg).1,hc,hm⟩
theorem Zbg.shape {w:World} {f:Value} {x:Sum (List Rw×List Rw) Trm} {S:Nat->Prop} (h:Zbg w f x S):∃ fn cs,f=.func fn #[] cs:=by
 cases x with
 | inl y=>obtain ⟨_,_,_,_,rfl,_⟩:=h;exact ⟨_,_,rfl⟩
 | inr s=>obtain ⟨_,_,rfl,_⟩:=h;exact ⟨_,_,rfl⟩
theorem Za0.drew {w:World} {base:Nat} {v:Value} {cs:List Ch} {S:Nat->Prop} (h:Za0 w base v cs S):Za0 w.drew base v cs S:=h.below (Zq _)
def Zfu (cs l:List Ch) (i:Nat):Prop:=l.length=cs.length/\∀ q,q<cs.length->l[q]? = if q<i\/cs.length<=q+i then cs[cs.length-1-q]? else cs[q]?
theorem Zko (cs:List Ch):Zfu cs cs 0:=⟨rfl,fun q hq=>by rw [if_neg (by omega)]⟩
theorem Zmj {cs l:List Ch} {i:Nat} (h:Zfu cs l i) (hi:cs.length<=2*i+1):l=cs.reverse:=by
 apply List.ext_getElem?
 intro q
 rcases Nat.lt_or_ge q cs.length with hq | hq
 ·rw [h.2 q hq,List.getElem?_reverse hq]
  split
  ·rfl
  ·rename_i g
   rw [show cs.length-1-q=q by omega]
 ·rw [List.getElem?_eq_none (by rw [h.1];exact hq),List.getElem?_eq_none (by rw [List.length_reverse];exact hq)]
theorem Zlx {cs l:List Ch} {i:Nat} (h:Zfu cs l i) (hi:i<cs.length-1-i) {x y:Ch} (hx:l[i]? = some x) (hy:l[cs.length-1-i]? = some y):Zfu cs ((l.set i y).set (cs.length-1-i) x) (i+1):=by
 have ex:=h.2 i (by omega)
 have ey:=h.2 (cs.length-1-i) (by omega)
 rw [if_neg (by omega),hx] at ex
 rw [if_neg (by omega),hy] at ey
 refine ⟨by simp only [List.length_set];exact h.1,fun q hq=>?_⟩
 have hl:=h.1
 rw [List.getElem?_set,List.getElem?_set]
 by_cases h1:cs.length-1-i=q
 ·rw [if_pos h1,if_pos (by simp only [List.length_set];omega),if_pos (by omega),show cs.length-1-q=i by omega]
  exact ex
 ·rw [if_neg h1]
  by_cases h2:i=q
  ·rw [if_pos h2,if_pos (by omega),if_pos (by omega),<- h2]
   exact ey
  ·rw [if_neg h2,h.2 q hq]
   by_cases h3:q<i\/cs.length<=q+i
   ·rw [if_pos h3,if_pos (by omega)]
   ·rw [if_neg h3,if_neg (by omega)]
def Zkx (w:World) (base:Nat) (v:Value) (cs:List Ch) (S:Nat->Prop) (e:Ending) (w':World):Prop:=e=.returned (.tuple #[])/\Za0 w' base v cs.reverse S/\w.grownBy w' v.ownBlock
theorem Zmb (w:World) (base:Nat) (v:Value) (cs:List Ch) (S:Nat->Prop) (h:Za0 w base v cs S) (hv:∀ b,v.ownBlock=some b->S b) (hl:cs.length<=1000) :
  Calls Tryz.prog 61 #[v] w (Zkx w base v cs S):=by
 by_cases h0:cs=[]
 ·subst h0
  obtain ⟨A,c,rfl⟩:∃ A c,v=.slice A 0 c:=by obtain ⟨A,c,_,e,_⟩:=h.chs;exact ⟨A,c,e⟩
  have FIN:=Lib.hid (show Zkx w base (.slice A 0 c) [] S (.returned (.tuple #[])) w from ⟨rfl,h,Zac (Below.refl _ _) _⟩)
  clear h hv hl
  go_enter Tryz.func61,Tryz.ntmps61
  go_wp2_with fail
  go_loopg [2,3] 0 (fun _ s2 s3 wr=>s2=.int .i64 0/\s3=.int .i64 (-1)/\wr=w)
  case atStart=>exact ⟨rfl,rfl,rfl⟩
  case round=>
   obtain ⟨rfl,rfl,rfl⟩:=hrel
   go_wp2_with fail
   go_end0
   exact FIN.out
 ·obtain ⟨g,cap,rfl,hbase,hglt,hnc,hcm⟩:=h.form (List.length_pos_iff.2 h0)
  obtain ⟨n,hn⟩:∃ n,n=cs.length:=⟨_,rfl⟩
  have hpos:0<n:=by rw [hn];exact List.length_pos_iff.2 h0
  have hS:S g:=hv g rfl
  rw [<- hn] at h hl ⊢
  have HN:=Lib.hid (And.intro hn (And.intro hpos (And.intro hS hl)))
  have H0:=Lib.hid h
  have hsf:∀ (a:Addr) (m:Mode) (fn:Fn) (f c:Array Value) (w:World),(store a (.func fn f c) m).run Tryz.prog w=stored Tryz.prog w a (.func fn f c) m:=fun a m fn f c w=>run_store Tryz.prog w a _ m rfl
  have w0:IntKind.i64.wrap ((n:Int)-1)=(n:Int)-1:=IntWalk.i64_in _ (by omega)
  clear h h0 hbase hglt hnc hcm hn hpos hS hv hl
  go_enter Tryz.func61,Tryz.ntmps61
  go_wp2_with fail
  go_loopg [2,3] n (fun k s2 s3 wr=>∃ (i:Nat) (l:List Ch),s2=.int .i64 i/\s3=.int .i64 ((n:Int)-1-i)/\i<=n/\k=n-i/\Zfu cs l i/\Za0 wr base (.slice (some ⟨g,0,none⟩) n cap) l S/\w.grownBy wr (some g))
  case atStart=>exact ⟨0,cs,rfl,by simp,by omega,rfl,Zko cs,H0.out,Zac (Below.refl _ _) _⟩
  case round=>
   clear H0
   obtain ⟨i,l,rfl,rfl,hin,hk,hsw,D,hgr⟩:=hrel
   by_cases hlt:(i:Int)<(n:Int)-1-i
   ·obtain ⟨j,hj⟩:∃ j:Nat,j=n-1-i:=⟨_,rfl⟩
    have ej:(n:Int)-1-(i:Int)=(j:Int):=by omega
    rw [ej] at hlt ⊢
    have hll:l.length=n:=by rw [hsw.1,HN.out.1]
    obtain ⟨x,hx⟩:∃ x,l[i]? = some x:=⟨_,List.getElem?_eq_getElem (by omega)⟩
    obtain ⟨y,hy⟩:∃ y,l[j]? = some y:=⟨_,List.getElem?_eq_getElem (by omega)⟩
    have hnx:=Zlx (x:=x) (y:=y) hsw (by rw [<- HN.out.1];omega) hx (by rw [<- HN.out.1,<- hj];exact hy)
    rw [<- HN.out.1,<- hj] at hnx
    obtain ⟨fx,FX,x0,x1,z0,z1⟩:=D.cells hx
    obtain ⟨fy,FY,y0,y1,u0,u1⟩:=D.cells hy
    obtain ⟨fn1,cs1,rfl⟩:=FX.shape
    obtain ⟨fn2,cs2,rfl⟩:=FY.shape
    obtain ⟨D1,g1⟩:=Za0.stored (k:=i) (c:=y) D HN.out.2.2.1 FY
    have FX1:=FX.grown g1 (fun b e=>by injection e with e;exact e▸HN.out.2.2.1)
    obtain ⟨D2,g2⟩:=Za0.stored (k:=j) (c:=x) D1 HN.out.2.2.1 FX1
    have gg:=Zaa (Zaa hgr g1) g2
    have FIN:=Lib.hid (And.intro hnx (And.intro D2 gg))
    have i2:(0:Int)<=(i:Int):=by omega
    have i3:(i:Int)<(n:Int):=by omega
    have i4:(0:Int)<=(j:Int):=by omega
    have i5:(j:Int)<(n:Int):=by omega
    have wi:IntKind.i64.wrap ((i:Int)+1)=(i:Int)+1:=IntWalk.i64_in _ (by have:=HN.out.2.2.2;omega)
    have wj:IntKind.i64.wrap ((j:Int)-1)=(j:Int)-1:=IntWalk.i64_in _ (by have:=HN.out.2.2.2;omega)
    have HK:=Lib.hid (And.intro hk (And.intro ej (show i+1<=n by omega)))
    clear hin hk hsw D hgr hnx D1 D2 g1 g2 gg FX FY FX1 hll hx hy ej hj
    obtain ⟨xi,xc⟩:=x
    obtain ⟨yi,yc⟩:=y
    dsimp only at *
    go_wp2_with fail
    go_region
    go_wp2_with fail
    go_roundg (n-(i+1))
    case measure=>have:=HK.out;have:=HN.out.2.1;omega
    case rel=>exact ⟨i+1,_,by push_cast;rfl,by first | (congr 1;have:=HK.out;omega) | (have:=HK.out;simp;omega),HK.out.2.2,rfl,FIN.out.1,FIN.out.2.1.drew,Zaa FIN.out.2.2 (Zac (Zq _) _)⟩
   ·have hrev:=Zmj hsw (by rw [<- HN.out.1];omega)
    have FIN:=Lib.hid (show Zkx w base (.slice (some ⟨g,0,none⟩) n cap) cs S (.returned (.tuple #[])) wr from ⟨rfl,by rw [<- hrev];exact D,hgr⟩)
    clear hin hk hsw D hgr hrev
    go_wp2_with fail
    go_end0
    exact FIN.out
end
section
open Go.RowKit
theorem Zj7 (a:Rw):∀ (up acc l:List Rw),Zaq a acc up=some l->l.length=acc.length+up.length
 | [],acc,l,h=>by
  obtain rfl:=Option.some.inj h
  rfl
 | b::r,acc,l,h=>by
  rw [Zaq,Option.bind_eq_some_iff] at h
  obtain ⟨t,_,h⟩:=h
  rw [Zj7 a r _ l h]
  simp only [List.length_append,List.length_cons,List.length_nil]
  omega
theorem Zj8 (up:List Rw):∀ (lo acc l:List Rw),ZaN acc lo up=some l->l.length=acc.length+lo.length*up.length
 | [],acc,l,h=>by
  obtain rfl:=Option.some.inj h
  simp
 | a::r,acc,l,h=>by
  rw [ZaN,Option.bind_eq_some_iff] at h
  obtain ⟨t,h1,h⟩:=h
  rw [Zj8 up r t l h,Zj7 a up acc t h1,List.length_cons,Nat.add_mul,Nat.one_mul]
  omega
theorem ZoY {s:Zbc} {l:List Rw} (h:Za5 s=some l):l.length<=400:=by
 unfold Za5 at h
 split at h
 ·cases h
 ·have:=Zj8 _ _ _ _ h
  omega
theorem ZgP (b:List Int):∀ (a:List Int) (rows:List Rw) (ch:List Zbs),ZaI (a++b) rows ch=(ZaI a rows ch).bind fun x=>ZaI b x.1 x.2
 | [],rows,ch=>rfl
 | v::a,rows,ch=>by
  rw [List.cons_append,ZaI,ZaI]
  cases ZZ v ([],[],[]) rows with
  | none=>rfl
  | some s=>
   simp only [Option.bind_some]
   cases Za5 s with
   | none=>rfl
   | some r=>exact ZgP b a r _
theorem ZeZ:∀ (a:List Int) (rows:List Rw) (ch:List Zbs) (x:List Rw×List Zbs),ZaI a rows ch=some x->x.2.length=ch.length+a.length
 | [],rows,ch,x,h=>by
  obtain rfl:=Option.some.inj h
  rfl
 | v::a,rows,ch,x,h=>by
  rw [ZaI,Option.bind_eq_some_iff] at h
  obtain ⟨s,_,h⟩:=h
  rw [Option.bind_eq_some_iff] at h
  obtain ⟨r,_,h⟩:=h
  rw [ZeZ a r _ x h,List.length_append,List.length_singleton,List.length_cons]
  omega
def Zcd (c:Zbs):Ch:=(c.1,.inl (c.2.1,c.2.2))
def Zmp (w:World) (o:Option (List Rw×List Zbs)) (e:Ending) (w':World):Prop:=
 (∃ x vr vch,o=some x/\e=.returned (.tuple #[vr,vch,.int .i64 0])/\ZD w' vr x.1/\Za0 w' w.heap.size vch (x.2.map Zcd).reverse (fun b=>vch.ownBlock=some b)/\Below w.heap.size w w') ∨
 (o=none/\∃ z:Int,(z != 0)=true/\e=.returned (.tuple #[.slice none 0 0,.slice none 0 0,.int .i64 z])/\Below w.heap.size w w')
structure ElmS (w wr:World) (vr:Value) (rows:List Rw) (vch:Value) (ch:List Zbs):Prop where
 c:Za0 wr w.heap.size vch (ch.map Zcd) (fun b=>vch.ownBlock=some b)
 r:ZV wr vr rows (fun b=>vch.ownBlock=some b)
 g:Zb4 rows
 len:rows.length<=400
 below:Below w.heap.size w wr
def ZdL (b:Nat):Value:=.func (.func 85) #[] #[.pointer (some ⟨b,0,none⟩),.pointer (some ⟨b+1,0,none⟩)]
section
variable {w wr w2 w3 w5:World} {vr vch va vb vc v8:Value} {rows l xb xc:List Rw} {ch:List Zbs} {p:Int} {rs:List (Value×Ch)}
theorem Zm3 (D:ElmS w wr vr rows vch ch) (T:Tri (fun b=>vch.ownBlock=some b) wr w2 va l vb xb vc xc) (B1:Blk w3 w2.heap.size #[vb]) (B2:Blk w3 (w2.heap.size+1) #[vc]) (hb3:Below w2.heap.size w2 w3) :
  ∃ rs,rs.map (·.2)=ch.map Zcd/\(w3.alloc (.cells #[.int .i64 p,ZdL w2.heap.size] 93)).ownsRow w.heap.size 93 2 vch (ch.map Zcd).length (Zax rs) ∧
   (∀ x∈rs,Zbg (w3.alloc (.cells #[.int .i64 p,ZdL w2.heap.size] 93)) x.1 x.2.2 (fun b=>vch.ownBlock=some b)) ∧
   ZB (w3.alloc (.cells #[.int .i64 p,ZdL w2.heap.size] 93)) (w3.heap.size+1) 2 (some ⟨w3.heap.size,0,none⟩) 1 [.int .i64 p,ZdL w2.heap.size] ∧
   Zbg (w3.alloc (.cells #[.int .i64 p,ZdL w2.heap.size] 93)) (ZdL w2.heap.size) (.inl (xb,xc)) (fun b=>vch.ownBlock=some b) ∧
   Below w.heap.size w (w3.alloc (.cells #[.int .i64 p,ZdL w2.heap.size] 93))/\ZV (w3.alloc (.cells #[.int .i64 p,ZdL w2.heap.size] 93)) va l (fun b=>vch.ownBlock=some b):=by
 have a4:=Za w3 (.cells #[.int .i64 p,ZdL w2.heap.size] 93)
 have b3:=T.below.trans (hb3.mono T.below.size)
 have b4:=b3.trans (a4.mono b3.size)
 have b24:=hb3.trans (a4.mono hb3.size)
 have T4:=T.keep b24
 have hlt:∀ b,vch.ownBlock=some b->b<wr.heap.size:=fun b q=>(D.c.lt b q).2
 have hsz:=T.below.size
 obtain ⟨rs,z1,z2,z3⟩:=D.c.below b4
 refine ⟨rs,z1,z2,z3,(Zav (wo:=w3) (x:=#[.int .i64 p,ZdL w2.heap.size]) (ty:=93) (Nat.zero_le _)).reads (size:=2) rfl,⟨_,_,vb,vc,rfl,B1.keep a4,B2.keep a4,fun q=>?_,fun q=>?_,?_,?_⟩,D.below.trans (b4.mono D.below.size),?_⟩
 ·have:=hlt _ q;omega
 ·have:=hlt _ q;omega
 ·exact T4.b.isin (fun b q r=>by have:=(T4.b.lt b q).1;have:=hlt b r;omega) (fun b q=>.inl (.inr (.inr (.inr q))))
 ·exact T4.c.isin (fun b q r=>by have:=(T4.c.lt b q).1;have:=hlt b r;omega) (fun b q=>.inl (.inr (.inr (.inr q))))
 ·exact T4.a.isin (fun b q r=>by have:=(T4.a.lt b q).1;have:=hlt b r;omega) (fun b q=>.inl (.inr (.inr (.inr q))))
theorem Zn8 {w4:World} {f:Value} (z1:rs.map (·.2)=ch.map Zcd) (z2:w4.ownsRow w.heap.size 93 2 vch (ch.map Zcd).length (Zax rs)) (z3:∀ x∈rs,Zbg w4 x.1 x.2.2 (fun b=>vch.ownBlock=some b)) (hf:Zbg w4 f (.inl (xb,xc)) (fun b=>vch.ownBlock=some b)) (hb:Below w.heap.size w w4) (hr:ZV w4 va l (fun b=>vch.ownBlock=some b)) (hg:Zb4 l) (hl:l.length<=400)
  (hown:w5.ownsRow w.heap.size 93 2 v8 ((ch.map Zcd).length+1) (Zax rs++[.int .i64 p,f])) (hgrow:w4.grownBy w5 vch.ownBlock) (hat:v8.ownBlock=vch.ownBlock\/v8.ownBlock=some w4.heap.size) :
  ElmS w w5 va l v8 (ch++[(p,xb,xc)]):=by
 have hs:∀ b,v8.ownBlock=some b->vch.ownBlock=some b\/w4.heap.size<=b:=fun b q=>by
  rcases hat with e | e
  ·rw [e] at q;exact .inl q
  ·rw [e] at q;injection q with q;exact .inr (by omega)
 refine ⟨?_,?_,hg,hl,hb.grown hgrow hb.size (fun b q=>(World.ownsRow.lt z2 b q).1)⟩
 ·rw [List.map_append]
  exact Za0.appended (S':=fun b=>v8.ownBlock=some b) (ns:=[(f,(p,.inl (xb,xc)))]) z1 z3 rfl (fun x hx=>by rw [List.mem_singleton] at hx;subst hx;exact hf) rfl hown hgrow (fun b q=>q) hs
 ·exact ((hr.mono (S':=fun b=>vch.ownBlock=some b\/v8.ownBlock=some b) (fun b q=>q.elim .inl (hs b))).grown hgrow (fun b q=>.inl q)).mono fun b q=>.inl (.inr q)
end
theorem Zjd (w:World) (v vs:Value) (rows0:List Rw) (vars:List Int) (h:ZD w v rows0) (hs:ZaT w vs vars) (hg:Zb4 rows0) (hv:∀ v∈vars,∃ n:Nat,v=n/\n<8) (hl:rows0.length<=400) (hl2:vars.length<=8) :
  Calls Tryz.prog 22 #[v,vs] w (Zmp w (ZaI vars rows0 [])):=by
 obtain ⟨iC,hiC,zC0,zC1,zC2⟩:=info_parts ZkW
 obtain ⟨Av,cv,rfl,f2,f3,f4⟩:=hs
 obtain ⟨n,hn⟩:∃ n,n=vars.length:=⟨_,rfl⟩
 rw [<- hn] at f2 f4 hl2 ⊢
 have HN:=Lib.hid (And.intro hn (And.intro f4 (And.intro hl2 hv)))
 have S0:=Lib.hid (show ElmS w w v rows0 (.slice none 0 0) [] from ⟨Za0.nil _ _ _,ZV.of h (fun b q=>by cases q),hg,hl,Below.refl _ _⟩)
 clear hn f2 f3 f4 hl2 hv h hg hl
 go_enter Tryz.func22,Tryz.ntmps22
 go_wp2_with fail
 go_loopg [0,7,16] n (fun g v0 v7 v16 wr=>∃ (k:Nat) (x:List Rw×List Zbs) (vr vch:Value),vr=v0/\vch=v7/\v16=.int .i64 k/\k<=n/\g=n-k/\ZaI (vars.take k) rows0 []=some x/\ElmS w wr vr x.1 vch x.2)
 case atStart=>exact ⟨0,(rows0,[]),_,_,rfl,rfl,rfl,Nat.zero_le _,rfl,rfl,S0.out⟩
 case round=>
  clear S0
  obtain ⟨k,⟨rows,ch⟩,vr,vch,rfl,rfl,rfl,hk,hg,hso,D⟩:=hrel
  dsimp only at D
  by_cases hkn:k=n
  ·have he:vars.take k=vars:=by rw [hkn,HN.out.1];exact List.take_length
   rw [he] at hso
   have hcl:=ZeZ _ _ _ _ hso
   have RV:=Lib.hid (Zmb wr w.heap.size vch (ch.map Zcd) _ D.c (fun _ q=>q) (by have:=HN.out.1;have:=HN.out.2.2.1;rw [List.length_map];simp at hcl;omega))
   have DD:=Lib.hid (And.intro hso D)
   subst hkn
   clear hk hg D he hso hcl
   go_wp2_with (go_at_call 61;(with_reducible refine RV.out.mono ?_);rintro e9 w9 ⟨rfl,c9,g9⟩)
   go_ret3
   exact .inl ⟨_,_,_,DD.out.1,rfl,(DD.out.2.r.grown g9 (fun b q=>q)).rows,c9,DD.out.2.below.grown g9 DD.out.2.below.size (fun b q=>(DD.out.2.c.lt b q).1)⟩
  ·have hlt:k<n:=by omega
   obtain ⟨p,hpk⟩:∃ p,vars[k]? = some p:=⟨_,List.getElem?_eq_getElem (by have:=HN.out.1;omega)⟩
   obtain ⟨adp,rfl,pj⟩:=ZbL HN.out.2.1 D.below hpk (by omega)
   obtain ⟨p8,hp8,hp9⟩:=HN.out.2.2.2 p (List.mem_of_getElem? hpk)
   have nx:ZaI (vars.take (k+1)) rows0 []=(ZZ p ([],[],[]) rows).bind fun s=>(Za5 s).bind fun rows'=>some (rows',ch++[(p,s.2.1,s.2.2)]):=by
    rw [List.take_add_one,hpk]
    show ZaI (vars.take k++[p]) rows0 []=_
    rw [ZgP,hso,Option.bind_some]
    rfl
   have nn:ZaI (vars.take (k+1)) rows0 []=none->ZaI vars rows0 []=none:=fun q=>by
    rw [<- List.take_append_drop (k+1) vars,ZgP,q]
    rfl
   have i1:(k:Int)<(n:Int):=by omega
   have i2:(0:Int)<=(k:Int):=by omega
   have wk:IntKind.i64.wrap ((k:Int)+1)=(k:Int)+1:=IntWalk.i64_in _ (by have:=HN.out.2.2.1;omega)
   have hs0:∀ b,vch.ownBlock=some b->b<wr.heap.size:=fun b q=>(D.c.lt b q).2
   have so:=ZnG (fun b=>vch.ownBlock=some b) wr vr rows p D.r hs0 (fun r hr=>(D.g r hr).1) (by have:=D.len;omega)
   have hcl:=ZeZ _ _ _ _ hso
   have hch:(ch.map Zcd).length<=8:=by
    have:=HN.out.2.2.1
    rw [List.length_take] at hcl
    rw [List.length_map]
    simp at hcl
    omega
   have SO:=Lib.hid so
   have FINO:=Lib.hid (fun (q:ZaI (vars.take (k+1)) rows0 []=none) (z:Int) (hz:(z != 0)=true) (w':World) (hb:Below wr.heap.size wr w')=>show Zmp w (ZaI vars rows0 []) (.returned (.tuple #[.slice none 0 0,.slice none 0 0,.int .i64 z])) w' from .inr ⟨nn q,z,hz,rfl,D.below.trans (hb.mono D.below.size)⟩)
   have HK:=Lib.hid (And.intro hlt (And.intro hg (And.intro nx (And.intro hs0 hch))))
   have DD:=Lib.hid D
   have HP:=Lib.hid (And.intro hp8 hp9)
   clear hkn hk hg hpk hso nx nn hs0 so hcl hch D hlt hp8 hp9
   cases hst:ZZ p ([],[],[]) rows with
   | none=>
    have NX:=Lib.hid (FINO.out (by rw [HK.out.2.2.1,hst];rfl))
    rw [hst] at SO
    clear hst
    go_wp2_with (go_at_call 58;(with_reducible refine SO.out.mono ?_);rintro e1 w1 (⟨s,va,vb,vc,q,_⟩ | ⟨_,z,hz,rfl,hb1⟩);(next=>cases q))
    go_ret3
    exact NX.out z hz _ hb1
   | some s=>
    have SI:=Zds p rows ([],[],[]) s (fun r hr=>(DD.out.g r hr).1) hst
    have slen:=Zdr p _ _ _ hst
    have NX0:=HK.out.2.2.1
    rw [hst,Option.bind_some] at NX0
    have EST:∀ l,Za5 s=some l->Zb4 l:=fun l hw=>by
     have h1:=HP.out.1
     subst h1
     exact (ZgR HP.out.2 DD.out.g hst hw).1
    rw [hst] at SO
    have SH:=Lib.hid (And.intro NX0 (And.intro EST (show s.1.length<=1000/\s.2.1.length<=1000/\s.2.2.length<=1000 from by have:=DD.out.len;simp at slen;omega)))
    have SIH:=Lib.hid SI
    clear hst SI slen NX0 EST
    have hob:∀ t∈s.2.1,TrmOk t.2:=fun t ht=>by
     rcases SIH.out.lo t ht with q | ⟨r,_,q,_⟩
     ·cases q
     ·exact q.2.1
    have hoc:∀ t∈s.2.2,TrmOk t.2:=fun t ht=>by
     rcases SIH.out.up t ht with q | ⟨r,_,q,_⟩
     ·cases q
     ·exact q.2.1
    have WS:=Lib.hid (fun (w1:World) (va vb vc:Value) (T:Tri (fun b=>vch.ownBlock=some b) wr w1 va s.1 vb s.2.1 vc s.2.2)=>ZlF (fun b=>vch.ownBlock=some b) wr w1 va s.1 vb s.2.1 vc s.2.2 T hob hoc SH.out.2.2)
    clear hob hoc SIH
    cases hwo:Za5 s with
    | none=>
     have NX:=Lib.hid (FINO.out (by rw [SH.out.1,hwo];rfl))
     have e:Za5 (s.1,s.2.1,s.2.2)=none:=hwo
     rw [e] at WS
     clear hwo e
     go_wp2_with (first
      | (go_at_call 58;(with_reducible refine SO.out.mono ?_);rintro e1 w1 (⟨s2,va,vb,vc,q,rfl,T⟩ | ⟨q,_⟩);rotate_left;(next=>cases q);injection q with q;subst q;have T1:=Lib.hid T;clear T)
      | (go_at_call 59;(with_reducible refine (WS.out _ _ _ _ T1.out).mono ?_);rintro e2 w2 (⟨l,va2,q,_⟩ | ⟨_,z,hz,rfl,hb2⟩);(next=>cases q)))
     go_ret3
     exact NX.out z hz _ hb2
    | some l=>
     have NX:=Lib.hid (show ZaI (vars.take (k+1)) rows0 []=some (l,ch++[(p,s.2.1,s.2.2)]) from by rw [SH.out.1,hwo];rfl)
     have e:Za5 (s.1,s.2.1,s.2.2)=some l:=hwo
     have GL:=Lib.hid (And.intro (SH.out.2.1 l hwo) (ZoY hwo))
     rw [e] at WS
     clear hwo e FINO
     go_upto_region 11 with (first
      | (go_at_call 58;(with_reducible refine SO.out.mono ?_);rintro e1 w1 (⟨s2,va,vb,vc,q,rfl,T⟩ | ⟨q,_⟩);rotate_left;(next=>cases q);injection q with q;subst q;have T1:=Lib.hid T;clear T)
      | (go_at_call 59;(with_reducible refine (WS.out _ _ _ _ T1.out).mono ?_);rintro e2 w2 (⟨l2,va2,q,rfl,T⟩ | ⟨q,_⟩);rotate_left;(next=>cases q);injection q with q;subst q;have T2:=Lib.hid T;clear T))
     obtain ⟨Ab,cb,rfl⟩:∃ A c,vb=.slice A s.2.1.length c:=by obtain ⟨A,c,_,e,_⟩:=T2.out.b.rows;exact ⟨A,c,e⟩
     obtain ⟨Ac,cc,rfl⟩:∃ A c,vc=.slice A s.2.2.length c:=by obtain ⟨A,c,_,e,_⟩:=T2.out.c.rows;exact ⟨A,c,e⟩
     have BW:=Lib.hid (ZlJ w2 Ab Ac s.2.1.length cb s.2.2.length cc)
     have ONE:=Lib.hid (show ∀ u∈[Value.int .i64 p,ZdL w2.heap.size],u.oneCell'=true from fun u hu=>by simp [ZdL] at hu;rcases hu with rfl | rfl<;>rfl)
     go_wp2_with (first
      | (go_at_call 60;(with_reducible refine BW.out.mono ?_);rintro e3 w3 ⟨rfl,B1,B2,hb3⟩;obtain ⟨rs,QV⟩:=Zm3 (p:=p) DD.out T2.out B1 B2 hb3;have QW:=Lib.hid QV;clear B1 B2 hb3 QV)
      | (at_builtin;refine Zm _ rfl _ _ 57 rfl w.heap.size 93 iC (.agg #[.int .i64 0,Value.nilFunc]) 2 16 Tryz.underlying57 hiC zC0 zC1 zC2 rfl (by decide) _ (ch.map Zcd).length (Zax rs) rfl QW.out.2.1 (w3.heap.size+1) (some ⟨w3.heap.size,0,none⟩) 1 1 [.int .i64 p,ZdL w2.heap.size] rfl QW.out.2.2.2.1 ONE.out (by have:=HK.out.2.2.2.2;unfold maxLen;omega) (by have:=HK.out.2.2.2.2;omega) QW.out.2.2.2.2.2.1.size ?_))
     intro v8 w8 hown hgrow hat
     have D8:=Lib.hid (Zn8 QW.out.1 QW.out.2.1 QW.out.2.2.1 QW.out.2.2.2.2.1 QW.out.2.2.2.2.2.1 QW.out.2.2.2.2.2.2 GL.out.1 GL.out.2 (by first | exact hown | (rw [List.length_map];exact hown)) hgrow (by first | exact hat | simpa using hat))
     clear hown hgrow hat
     go_wp2_with fail
     go_roundg (n-(k+1))
     case measure=>have:=HK.out.1;have:=HK.out.2.1;omega
     case rel=>exact ⟨k+1,(l,ch++[(p,s.2.1,s.2.2)]),_,_,rfl,rfl,by push_cast;rfl,by have:=HK.out.1;omega,rfl,NX.out,D8.out⟩
end
end Go.Proofs.YtolookeddknmoaaGreat
