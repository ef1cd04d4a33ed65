import Derived.Test.YtolookeddknmoaaGreatQAY
import Derived.Test.YtolookeddknmoaaGreatQBE
import Derived.Test.YtolookeddknmoaaGreatQBG
set_option maxRecDepth 100000
set_option maxHeartbeats 8000000
namespace Go.Proofs.YtolookeddknmoaaGreat
section
open Go.RowKit
def ZcD (P:World->Prop):Prop:=∀ w1 w2:World,Below w1.heap.size w1 w2->P w1->P w2
theorem Zz (p:Addr) (x:Value):ZcD fun w=>w.cell? p=some x:=fun _ _ hb h=>ZU hb h
theorem ZC {P Q:World->Prop} (hp:ZcD P) (hq:ZcD Q):ZcD fun w=>P w/\Q w:=fun _ _ hb h=>⟨hp _ _ hb h.1,hq _ _ hb h.2⟩
theorem ZbD (wq:World):ZcD fun w=>Below wq.heap.size wq w:=fun _ _ hb h=>h.trans (hb.mono h.size)
theorem ZG {A:Prop} {wq w':World} (h:A/\Below wq.heap.size wq w'):Below wq.heap.size wq w':=h.2
theorem Za9 {P:World->Prop} (hp:ZcD P) {wo:World} {o:Obj} (h:P wo.drew):P (wo.alloc o).drew:=hp _ _ (Za wo.drew o) h
section
variable {wq wA wo wr w6:World} {A:Prop} {ty:TypeId} {c d:Nat} {M:List (Int×Int)} {m1 m2:Int} {Ad:Option Addr}
theorem ZbB (_:A/\Below wq.heap.size wq (wA.alloc (.cells #[.slice none 0 0,.int .i64 0,.int .i64 0] ty))):HoleT wA (wA.alloc (.cells #[.slice none 0 0,.int .i64 0,.int .i64 0] ty)) wA.heap.size:=HoleT.start wA ty
theorem Zbm (_:A/\Below wq.heap.size wq (wo.alloc (.cells #[.slice none 0 0,.int .i64 0,.int .i64 0] ty)).drew):HoleT wo.drew (wo.alloc (.cells #[.slice none 0 0,.int .i64 0,.int .i64 0] ty)).drew wo.heap.size:=HoleT.start wo.drew ty
def Zfv (wq:World) (M:List (Int×Int)) (m1 m2:Int) (v:Value) (wx:World):Prop:=
 ∃ c A d,v=.pointer (some ⟨c,0,none⟩)/\FracBox wx c (.slice A M.length d) (.int .i64 m1) (.int .i64 m2)/\Zb wx (.slice A M.length d) M/\Below wq.heap.size wq wx
theorem Zgt (h:Below wq.heap.size wq w6) (ty:TypeId) (hr:Zb w6 (.slice Ad M.length d) M):Zfv wq M m1 m2 (.pointer (some ⟨w6.heap.size,0,none⟩)) (w6.alloc (.cells #[.slice Ad M.length d,.int .i64 m1,.int .i64 m2] ty)):=
 ⟨_,Ad,d,rfl,FracBox.start _ _ _ _ _,hr.below (Za _ _),h.trans ((Za _ _).mono h.size)⟩
theorem Zfb (h:Below wq.heap.size wq wA) (hc:HoleT wA wr c) (hr:Zb wr (.slice Ad M.length d) M) (hf:Off (fun b=>b=c) (.slice Ad M.length d) M) :
  Zfv wq M m1 m2 (.pointer (some ⟨c,0,none⟩)) (((wr.setCell ⟨c,0,none⟩ (.slice Ad M.length d)).setCell ⟨c,1,none⟩ (.int .i64 m1)).setCell ⟨c,2,none⟩ (.int .i64 m2)):=by
 obtain ⟨a,F⟩:=hc.fill (.slice Ad M.length d) (.int .i64 m1) (.int .i64 m2)
 exact ⟨_,Ad,d,rfl,F,hr.off hf (Zaa (Zaa ZaK ZaK) ZaK) (fun b hb=>by injection hb with hb;exact hb.symm),h.trans (a.mono h.size)⟩
end
theorem Zgq:∀ (a b:List (Trm×Int)) (t:Trm),Za2 (a++b) t=(Za2 a t).bind (Za2 b)
 | [],b,t=>rfl
 | s::r,b,t=>by
  rw [List.cons_append,Za2,Za2]
  cases ZaL s.1 (ZA (atL t.1 s.2)) with
  | none=>rfl
  | some m=>
   simp only [Option.bind_some]
   cases Zcc t m with
   | none=>rfl
   | some u=>exact Zgq r b u
theorem Ziu (sel:List (Trm×Int)):∀ (a b:List Rw),Zbj sel (a++b)=(Zbj sel a).bind fun l=>(Zbj sel b).map fun m=>l++m
 | [],b=>by simp [Zbj]
 | r::a,b=>by
  rw [List.cons_append,Zbj,Zbj,Ziu sel a b]
  cases Za2 sel r.2 with
  | none=>rfl
  | some t=>
   simp only [Option.bind_some]
   cases Zbj sel a with
   | none=>rfl
   | some l=>cases Zbj sel b<;>rfl
theorem Zgp (sel:List (Trm×Int)):∀ (a l:List Rw),Zbj sel a=some l->l.length=a.length
 | [],l,h=>by
  obtain rfl:=Option.some.inj h
  rfl
 | r::a,l,h=>by
  rw [Zbj,Option.bind_eq_some_iff] at h
  obtain ⟨t,_,h⟩:=h
  obtain ⟨m,hm,rfl⟩:=Option.map_eq_some_iff.1 h
  rw [List.length_cons,List.length_cons,Zgp sel a m hm]
def ZkA (w:World) (o:Option (List Rw)) (e:Ending) (w':World):Prop:=
 (∃ l v,o=some l/\e=.returned (.tuple #[v,.int .i64 0])/\ZD w' v l/\Below w.heap.size w w') ∨
 (o=none/\∃ z:Int,(z != 0)=true/\e=.returned (.tuple #[.slice none 0 0,.int .i64 z])/\Below w.heap.size w w')
def Zce:Value:=.slice none 0 0
def noB:Nat->Prop:=fun _=>False
structure SubS (S:Nat->Prop) (wo wr:World) (br:Nat) (xo:Int) (vt:Value) (t:Trm):Prop where
 B:Blk wr br #[.int .i64 xo,vt,.int .i64 t.2.1,.int .i64 t.2.2]
 r:Zb wr vt t.1
 off:Off S vt t.1
 below:Below br wo wr
theorem SubS.keep {S:Nat->Prop} {wo wr w2:World} {br:Nat} {xo:Int} {vt:Value} {t:Trm} (h:SubS S wo wr br xo vt t) (hb:Below wr.heap.size wr w2):SubS S wo w2 br xo vt t:=
 ⟨h.B.keep hb,h.r.below hb,h.off,h.below.trans (hb.mono (Nat.le_of_lt h.B.lt))⟩
theorem ZiW (w:World) (v vs vp:Value) (ts:List Rw) (sel:List Trm) (piv:List Int) (h:ZD w v ts) (hs:Zal w vs sel) (hp:ZaT w vp piv) (hlen:sel.length=piv.length) (hok:∀ r∈ts,TrmOk r.2) (hso:∀ s∈sel,TrmOk s) (hl:ts.length<=1000) (hl2:sel.length<=1000) :
  Calls Tryz.prog 21 #[v,vs,vp] w (ZkA w (Zbj (sel.zip piv) ts)):=by
 obtain ⟨iR,hiR,zR0,zR1,zR2⟩:=info_parts Zc6
 obtain ⟨A,c,rs,rfl,h2,h3,h4,h5,h6⟩:=h
 obtain ⟨As0,cs0,ss,rfl,g2,g3,g4,g5,g6⟩:=hs
 obtain ⟨Ap,cp,rfl,f2,f3,f4⟩:=hp
 obtain ⟨n,hn⟩:∃ n,n=ts.length:=⟨_,rfl⟩
 obtain ⟨m,hm⟩:∃ m,m=sel.length:=⟨_,rfl⟩
 have hrn:rs.length=n:=by rw [hn,<- h4,List.length_map]
 have hsm:ss.length=m:=by rw [hm,<- g4,List.length_map]
 rw [<- hlen] at f2 f4 ⊢
 rw [<- hn] at h2 h5 hl ⊢
 rw [<- hm] at g2 g5 f2 f4 hl2 ⊢
 have hpm:piv.length=m:=by rw [hm,hlen]
 have HN:=Lib.hid (And.intro hrn (And.intro h4 (And.intro h5 (And.intro h6 (And.intro hn (And.intro hl hok))))))
 have HM:=Lib.hid (And.intro hsm (And.intro g4 (And.intro g5 (And.intro g6 (And.intro hm (And.intro hl2 (And.intro hso (And.intro hpm f4))))))))
 obtain ⟨Z,hZ⟩:∃ Z,Z=sel.zip piv:=⟨_,rfl⟩
 rw [<- hZ]
 have HZ:=Lib.hid hZ
 clear hn hrn h2 h3 h4 h5 h6 hl hok hm hsm g2 g3 g4 g5 g6 f2 f3 f4 hpm hlen hso hl2 hZ
 go_enter Tryz.func21,Tryz.ntmps21
 go_wp2_with fail
 go_loopg [8,17] n (fun g v8 v17 wr=>∃ (k:Nat) (l:List Rw) (va:Value),va=v8/\v17=.int .i64 k/\k<=n/\g=n-k/\Zbj Z (ts.take k)=some l/\Tri noB w wr va l Zce [] Zce [])
 case atStart=>exact ⟨0,[],_,rfl,rfl,Nat.zero_le _,rfl,rfl,Tri.start (fun _ q=>q.elim)⟩
 case round=>
  obtain ⟨k,l,va,rfl,rfl,hk,hg,hso,D⟩:=hrel
  by_cases hkn:k=n
  ·have he:ts.take k=ts:=by rw [hkn,HN.out.2.2.2.2.1];exact List.take_length
   rw [he] at hso
   have FIN:=Lib.hid (show ZkA w (Zbj Z ts) (.returned (.tuple #[va,.int .i64 0])) wr from .inl ⟨_,va,hso,rfl,D.a.rows,D.below⟩)
   subst hkn
   clear hk hg D he hso
   go_wp2_with fail
   go_ret2
   exact FIN.out
  ·have hlt:k<n:=by omega
   obtain ⟨y,hy⟩:∃ y,rs[k]? = some y:=⟨_,List.getElem?_eq_getElem (by have:=HN.out.1;omega)⟩
   have hyt:ts[k]? = some y.2:=by rw [<- HN.out.2.1,List.getElem?_map,hy];rfl
   obtain ⟨ad,rfl,d0,d1,d2,d3⟩:=ZaF HN.out.2.2.1 D.below hy (by omega)
   have hry:=HN.out.2.2.2.1 y (List.mem_of_getElem? hy)
   have hok:=HN.out.2.2.2.2.2.2 y.2 (List.mem_of_getElem? hyt)
   have hoff:Off (Zaf noB va Zce Zce) y.1 y.2.2.1:=(ZfH (W:=w) hry).mono fun b q=>(D.old b q).elim (fun a=>a.elim) id
   have hr:=hry.below D.below
   have slen:=Zgp Z _ _ hso
   have nx:Zbj Z (ts.take (k+1))=(Za2 Z y.2.2).map fun t=>l++[(y.2.1,t)]:=by
    rw [List.take_add_one,hyt]
    show Zbj Z (ts.take k++[y.2])=_
    rw [Ziu,hso,Option.bind_some,Zbj,Zbj]
    cases Za2 Z y.2.2<;>rfl
   have nn:Za2 Z y.2.2=none->Zbj Z ts=none:=fun q=>by
    rw [<- List.take_append_drop (k+1) ts,Ziu,nx,q]
    rfl
   have i1:(k:Int)<(n:Int):=by omega
   have i2:(0:Int)<=(k:Int):=by omega
   have wk:IntKind.i64.wrap ((k:Int)+1)=(k:Int)+1:=IntWalk.i64_in _ (by have:=HN.out.2.2.2.2.2.1;omega)
   have hll:l.length<=1000:=by
    have:=HN.out.2.2.2.2.2.1
    rw [List.length_take] at slen
    omega
   obtain ⟨yv,xo,xl,x1,x2⟩:=y
   dsimp only at *
   obtain ⟨Ax,cx,rfl⟩:=Zd hr
   have HK:=Lib.hid (And.intro hlt (And.intro hg (And.intro nx (And.intro nn hok))))
   have LK:=Lib.hid (show l.length+1<=maxLen/\(l.length+1)*48<=140737488355328 from by unfold maxLen;omega)
   have DD:=Lib.hid D
   have a1:=Za wr (.cells #[.int .i64 xo,.slice Ax xl.length cx,.int .i64 x1,.int .i64 x2] 29)
   have S1:=Lib.hid (show SubS (Zaf noB va Zce Zce) wr (wr.alloc (.cells #[.int .i64 xo,.slice Ax xl.length cx,.int .i64 x1,.int .i64 x2] 29)) wr.heap.size xo (.slice Ax xl.length cx) (xl,x1,x2) from ⟨Blk.start wr #[.int .i64 xo,.slice Ax xl.length cx,.int .i64 x1,.int .i64 x2] 29,hr.below a1,hoff,a1⟩)
   clear hkn hk hg hyt hy hry hok hoff hr slen nx nn hso hlt hll D a1
   go_upto_region 5 with fail
   clear d0 d1 d2 d3
   generalize wr.alloc (.cells #[.int .i64 xo,.slice Ax xl.length cx,.int .i64 x1,.int .i64 x2] 29)=w1 at *
   generalize hbr:wr.heap.size=br at *
   generalize wr=wo at *
   have S1:=Lib.hid (And.intro S1.out (show Za2 (Z.take 0) (xl,x1,x2)=some (xl,x1,x2) from rfl))
   go_wp2_with fail
   go_loopg [23] m (fun g v23 wr=>∃ (j:Nat) (t:Trm) (vt:Value),v23=.int .i64 j/\j<=m/\g=m-j/\Za2 (Z.take j) (xl,x1,x2)=some t/\SubS (Zaf noB va Zce Zce) wo wr br xo vt t)
   case atStart=>exact ⟨0,(xl,x1,x2),_,rfl,Nat.zero_le _,rfl,S1.out.2,S1.out.1⟩
   case round=>
    clear S1
    obtain ⟨j,t,vt,rfl,hj,hgj,hst,D⟩:=hrel
    by_cases hjm:j=m
    ·
     have ez:Z.take j=Z:=by
      rw [hjm,HZ.out]
      have e:(sel.zip piv).length<=m:=by
       rw [List.length_zip,<- HM.out.2.2.2.2.1]
       omega
      exact List.take_of_length_le e
     rw [ez] at hst
     obtain ⟨At,ct,rfl⟩:=Zd D.r
     obtain ⟨tl,t1,t2⟩:=t
     dsimp only at D
     have NX:=Lib.hid (show Zbj Z (ts.take (k+1))=some (l++[(xo,tl,t1,t2)]) from by rw [HK.out.2.2.1,hst];rfl)
     have D6:=DD.out.keep (by rw [hbr];exact D.below)
     have QW:=Lib.hid (D6.ahead (n:=tl.length) (op:=xo) (kn:=t1) (kd:=t2) (A:=At) (c:=ct) rfl 29)
     obtain ⟨rs2,QV⟩:=QW.out
     have QW:=Lib.hid QV
     have DR:=Lib.hid (And.intro D.r D.off)
     have r0:=D.B.cell 0
     have r1:=D.B.cell 1
     have r2:=D.B.cell 2
     have r3:=D.B.cell 3
     subst hjm
     clear QV D6 hst ez hj hgj D
     have i3:¬ (j:Int)<(j:Int):=by omega
     go_wp2_with (at_builtin;refine Zm _ rfl _ _ 22 rfl w.heap.size 29 iR (.agg #[.int .i64 0,.slice none 0 0,.int .i64 0,.int .i64 0]) 4 48 Tryz.underlying22 hiR zR0 zR1 zR2 rfl (by decide) _ l.length (Zt rs2) rfl QW.out.2.1 (wr.heap.size+1) (some ⟨wr.heap.size,0,none⟩) 1 1 [.int .i64 xo,.slice At tl.length ct,.int .i64 t1,.int .i64 t2] rfl QW.out.2.2.2.2 (Zcw _ _ _ _ _ _) (by have:=LK.out;omega) (by have:=LK.out;omega) QW.out.2.2.2.1.below.size ?_)
     intro v9 w9 hown hgrow hat
     have hrx:=DR.out.1.below (Za wr (.cells #[.int .i64 xo,.slice At tl.length ct,.int .i64 t1,.int .i64 t2] 29))
     have D8:=Lib.hid (Tri.push (t:=(xo,tl,t1,t2)) QW.out.2.2.2.1 QW.out.1 QW.out.2.2.1 hown hgrow (by first | exact hat | simpa using hat) hrx DR.out.2)
     clear hown hgrow hat
     go_wp2_with fail
     go_roundg (n-(k+1))
     case measure=>have:=HK.out.1;have:=HK.out.2.1;omega
     case rel=>exact ⟨k+1,l++[(xo,tl,t1,t2)],_,rfl,by push_cast;rfl,by have:=HK.out.1;omega,rfl,NX.out,D8.out⟩
    ·have hltj:j<m:=by omega
     obtain ⟨x,hx⟩:∃ x,ss[j]? = some x:=⟨_,List.getElem?_eq_getElem (by have:=HM.out.1;omega)⟩
     have hxt:sel[j]? = some x.2:=by rw [<- HM.out.2.1,List.getElem?_map,hx];rfl
     obtain ⟨p,hpj⟩:∃ p,piv[j]? = some p:=⟨_,List.getElem?_eq_getElem (by have:=HM.out.2.2.2.2.2.2.2.1;omega)⟩
     have bl:Below w.heap.size w wr:=DD.out.below.trans ((show Below wo.heap.size wo wr by rw [hbr];exact D.below).mono DD.out.below.size)
     obtain ⟨ads,rfl,d0,d1,d2⟩:=ZaZ HM.out.2.2.1 bl hx (by omega)
     obtain ⟨adp,rfl,pj⟩:=ZbL HM.out.2.2.2.2.2.2.2.2 bl hpj (by omega)
     have hrs:=(HM.out.2.2.2.1 x (List.mem_of_getElem? hx)).below bl
     have hsok:=HM.out.2.2.2.2.2.2.1 x.2 (List.mem_of_getElem? hxt)
     have hzj:Z[j]? = some (x.2,p):=by rw [HZ.out,List.getElem?_zip_eq_some];exact ⟨hxt,hpj⟩
     have nxj:Za2 (Z.take (j+1)) (xl,x1,x2)=Za2 [(x.2,p)] t:=by
      rw [List.take_add_one,hzj]
      show Za2 (Z.take j++[(x.2,p)]) _=_
      rw [Zgq,hst,Option.bind_some]
     have nnj:Za2 [(x.2,p)] t=none->Za2 Z (xl,x1,x2)=none:=fun q=>by
      rw [<- List.take_append_drop (j+1) Z,Zgq,nxj,q]
      rfl
     have tok:TrmOk t:=by
      refine (Zls (Z.take j) _ t (fun s hs=>?_) HK.out.2.2.2.2 hst).1
      have:=List.mem_of_mem_take hs
      rw [HZ.out] at this
      exact HM.out.2.2.2.2.2.2.1 _ (List.of_mem_zip this).1
     have s1o:Za2 [(x.2,p)] t=(ZaL x.2 (ZA (atL t.1 p))).bind fun m=>(Zcc t m).bind fun u=>some u:=rfl
     unfold ZaL Zcc at s1o
     have okn:=Zbv (tok.ok.at p)
     have okc:=tok.ok.at p
     obtain ⟨Ar,cr,rfl⟩:=Zd D.r
     have ta:=fun (w':World) (hb:Below wr.heap.size wr w')=>Zbx w' (.slice Ar t.1.length cr) t.1 t.2.1 t.2.2 p (D.r.below hb)
     have sc:=fun (w':World) (hb:Below wr.heap.size wr w')=>ZcN w' x.1 x.2.1 x.2.2 (ZA (atL t.1 p)) (hrs.below hb) hsok.ok.wide hsok.k.wide okn.wide
     have ng:=fun (w':World)=>ZkG w' (atL t.1 p) okc
     have wd:=ZaR hsok.ok.wide hsok.k.wide okn.wide
     have i3:(j:Int)<(m:Int):=by omega
     have i4:(0:Int)<=(j:Int):=by omega
     have wj:IntKind.i64.wrap ((j:Int)+1)=(j:Int)+1:=IntWalk.i64_in _ (by have:=HM.out.2.2.2.2.2.1;omega)
     unfold ZA at *
     generalize atL t.1 p=cq at *
     obtain ⟨cn,cd⟩:=cq
     dsimp only at ta sc ng s1o wd
     generalize Zh x.2.1 x.2.2 (-cn,cd)=P at *
     obtain ⟨M,⟨m1,m2⟩,er⟩:=P
     obtain ⟨tl,t1,t2⟩:=t
     obtain ⟨xv,sl,s1,s2⟩:=x
     dsimp only at *
     obtain ⟨As,cs,rfl⟩:=Zd hrs
     have ad1:=fun (w':World) (v6:Value) (hb:Below wr.heap.size wr w') (h6:Zb w' v6 M)=>Ziw w' (.slice Ar tl.length cr) v6 tl M (t1,t2) (m1,m2) (D.r.below hb) h6 tok.ok.wide wd.1 tok.k.wide wd.2
     have TA:=Lib.hid ta
     have SC:=Lib.hid sc
     have NG:=Lib.hid ng
     have AD:=Lib.hid ad1
     have HJ:=Lib.hid (And.intro hltj (And.intro hgj (And.intro nxj (And.intro nnj s1o))))
     have DJ:=Lib.hid D
     have r1:=D.B.cell 1
     have r2:=D.B.cell 2
     have r3:=D.B.cell 3
     clear hjm hj hgj hst D hxt hx bl hpj hrs hsok hzj nxj nnj tok s1o okn okc ta sc ng wd ad1 hltj
     go_upto_region 8 with fail
     have a2:=Za wr (.cells #[.slice As sl.length cs,.int .i64 s1,.int .i64 s2] 27)
     have SB:=Blk.start wr #[.slice As sl.length cs,.int .i64 s1,.int .i64 s2] 27
     have D2:=Lib.hid (And.intro (DJ.out.keep a2) a2)
     clear d0 d1 d2
     have r1:=D2.out.1.B.cell 1
     have r2:=D2.out.1.B.cell 2
     have r3:=D2.out.1.B.cell 3
     have pj:=ZU a2 pj
     have z0:=SB.cell 0
     have z1:=SB.cell 1
     have z2:=SB.cell 2
     clear a2 SB
     generalize hbs:wr.heap.size=bs at *
     generalize hwq:wr.alloc (.cells #[.slice As sl.length cs,.int .i64 s1,.int .i64 s2] 27)=wq at *
     have TA:=Lib.hid (fun (w':World) (hb:Below wq.heap.size wq w')=>TA.out w' (Zl hbs D2.out.2 hb))
     have SC:=Lib.hid (fun (w':World) (hb:Below wq.heap.size wq w')=>SC.out w' (Zl hbs D2.out.2 hb))
     go_cut [13,14] from 24 to 55 (fun v13 v14 wx=>v14=.int .i64 er/\Zfv wq M m1 m2 v13 wx)
     case first=>
      have STB:=Lib.hid (show ZcD (fun w'=>(((w'.cell? ⟨bs,0,none⟩=some (.slice As sl.length cs)/\w'.cell? ⟨bs,1,none⟩=some (.int .i64 s1)/\w'.cell? ⟨bs,2,none⟩=some (.int .i64 s2))/\(w'.cell? ⟨br,1,none⟩=some (.slice Ar tl.length cr)/\w'.cell? ⟨br,2,none⟩=some (.int .i64 t1)/\w'.cell? ⟨br,3,none⟩=some (.int .i64 t2)))/\w'.cell? (adp.add j)=some (.int .i64 p))/\Below wq.heap.size wq w') from ZC (ZC (ZC (ZC (Zz _ _) (ZC (Zz _ _) (Zz _ _))) (ZC (Zz _ _) (ZC (Zz _ _) (Zz _ _)))) (Zz _ _)) (ZbD wq))
      have HS:(((wq.drew.cell? ⟨bs,0,none⟩=some (.slice As sl.length cs)/\wq.drew.cell? ⟨bs,1,none⟩=some (.int .i64 s1)/\wq.drew.cell? ⟨bs,2,none⟩=some (.int .i64 s2))/\(wq.drew.cell? ⟨br,1,none⟩=some (.slice Ar tl.length cr)/\wq.drew.cell? ⟨br,2,none⟩=some (.int .i64 t1)/\wq.drew.cell? ⟨br,3,none⟩=some (.int .i64 t2)))/\wq.drew.cell? (adp.add j)=some (.int .i64 p))/\Below wq.heap.size wq wq.drew:=⟨⟨⟨⟨z0,z1,z2⟩,⟨r1,r2,r3⟩⟩,pj⟩,Zq _⟩
      clear z0 z1 z2 r1 r2 r3 pj
      refine wp_region_noPanic ?_
      refine wp_region_held_drew (S:=(fun w'=>(((w'.cell? ⟨bs,0,none⟩=some (.slice As sl.length cs)/\w'.cell? ⟨bs,1,none⟩=some (.int .i64 s1)/\w'.cell? ⟨bs,2,none⟩=some (.int .i64 s2))/\(w'.cell? ⟨br,1,none⟩=some (.slice Ar tl.length cr)/\w'.cell? ⟨br,2,none⟩=some (.int .i64 t1)/\w'.cell? ⟨br,3,none⟩=some (.int .i64 t2)))/\w'.cell? (adp.add j)=some (.int .i64 p))/\Below wq.heap.size wq w')) (by kernel_rfl) HS (fun hHeld=>?_)
      clear HS
      refine tk 0 rfl ?_
      refine tk 1 rfl ?_
      refine tk 2 rfl ?_
      refine tk 3 rfl ?_
      refine tk 4 rfl ?_
      refine tk 5 rfl ?_
      refine tk 6 rfl ?_
      (try simp only [cl,Act.put])
      refine wpAnyH_ready (rs:=[7,13]) (by kernel_rfl) (by simp) (AllReadyH.cons (o:=_) rfl (fun K hK=>?_) (AllReadyH.cons (o:=_) rfl (fun K hK=>?_) AllReadyH.nil))
      rotate_left
      go_simp
      (first | refine hK.out _ _ (Za9 STB.out (by with_reducible assumption)) (fun hH2=>?_) | refine hK.out _ _ (STB.out _ _ (Za _ _) (by with_reducible assumption)) (fun hH2=>?_))
      clear hK K
      (try dsimp only at hH2)
      (first | have HC:=Lib.hid (ZbB hH2) | have HC:=Lib.hid (Zbm hH2))
      have hHeld0:=Lib.hid hHeld
      clear hHeld
      have hHeld:=hH2
      clear hH2
      (try simp only [cl,Act.put])
      refine rd 7 rfl fun K hK=>?_
      rotate_right
      all_goals
       go_simp
       (first
        | (go_at_call 56;(with_reducible refine (TA.out _ (ZG (by with_reducible assumption))).mono ?_);rintro e4 w4 ⟨rfl,hb⟩;(try have HC:=Lib.hid (HC.out.keep hb)))
        | (go_at_call 55;(with_reducible refine (NG.out _).mono ?_);rintro e5 w5 ⟨rfl,hb⟩;(try have HC:=Lib.hid (HC.out.keep hb)))
        | (go_at_call 13;(with_reducible refine (SC.out _ (ZG (by with_reducible assumption))).mono ?_);rintro e6 w6 ⟨v6,rfl,hv6,hb,fr6⟩;obtain ⟨A6,c6,rfl⟩:=Zd hv6;(try (have HF:=Lib.hid (Off.fresh (l:=M) (S:=fun b=>b=_) fr6 (fun b q=>by rw [q];exact HC.out.F.lt));have HC:=Lib.hid (HC.out.keep hb)));have HV:=Lib.hid hv6;clear hv6 fr6))
       go_wp2_with fail
       refine hK.out _ _ (STB.out _ _ hb (by with_reducible assumption)) (fun hH2=>?_)
       clear hK K hHeld hb;have hHeld:=hH2;clear hH2
       (try simp only [cl,Act.put])
      all_goals (try (have _:=HC.out;refine rd 8 rfl fun K hK=>?_))
      refine wpAnyH_ready (rs:=[8,13]) (by kernel_rfl) (by simp) (AllReadyH.cons (o:=_) rfl (fun K hK=>?_) (AllReadyH.cons (o:=_) rfl (fun K hK=>?_) AllReadyH.nil))
      rotate_left
      go_simp
      (first | refine hK.out _ _ (Za9 STB.out (by with_reducible assumption)) (fun hH2=>?_) | refine hK.out _ _ (STB.out _ _ (Za _ _) (by with_reducible assumption)) (fun hH2=>?_))
      clear hK K
      (try dsimp only at hH2)
      (first | have HC:=Lib.hid (ZbB hH2) | have HC:=Lib.hid (Zbm hH2))
      have hHeld0:=Lib.hid hHeld
      clear hHeld
      have hHeld:=hH2
      clear hH2
      (try simp only [cl,Act.put])
      refine rd 8 rfl fun K hK=>?_
      rotate_right
      all_goals
       go_simp
       (first
        | (go_at_call 56;(with_reducible refine (TA.out _ (ZG (by with_reducible assumption))).mono ?_);rintro e4 w4 ⟨rfl,hb⟩;(try have HC:=Lib.hid (HC.out.keep hb)))
        | (go_at_call 55;(with_reducible refine (NG.out _).mono ?_);rintro e5 w5 ⟨rfl,hb⟩;(try have HC:=Lib.hid (HC.out.keep hb)))
        | (go_at_call 13;(with_reducible refine (SC.out _ (ZG (by with_reducible assumption))).mono ?_);rintro e6 w6 ⟨v6,rfl,hv6,hb,fr6⟩;obtain ⟨A6,c6,rfl⟩:=Zd hv6;(try (have HF:=Lib.hid (Off.fresh (l:=M) (S:=fun b=>b=_) fr6 (fun b q=>by rw [q];exact HC.out.F.lt));have HC:=Lib.hid (HC.out.keep hb)));have HV:=Lib.hid hv6;clear hv6 fr6))
       go_wp2_with fail
       refine hK.out _ _ (STB.out _ _ hb (by with_reducible assumption)) (fun hH2=>?_)
       clear hK K hHeld hb;have hHeld:=hH2;clear hH2
       (try simp only [cl,Act.put])
      all_goals (try (have _:=HC.out;refine rd 9 rfl fun K hK=>?_))
      refine wpAnyH_ready (rs:=[9,13]) (by kernel_rfl) (by simp) (AllReadyH.cons (o:=_) rfl (fun K hK=>?_) (AllReadyH.cons (o:=_) rfl (fun K hK=>?_) AllReadyH.nil))
      rotate_left
      go_simp
      (first | refine hK.out _ _ (Za9 STB.out (by with_reducible assumption)) (fun hH2=>?_) | refine hK.out _ _ (STB.out _ _ (Za _ _) (by with_reducible assumption)) (fun hH2=>?_))
      clear hK K
      (try dsimp only at hH2)
      (first | have HC:=Lib.hid (ZbB hH2) | have HC:=Lib.hid (Zbm hH2))
      have hHeld0:=Lib.hid hHeld
      clear hHeld
      have hHeld:=hH2
      clear hH2
      (try simp only [cl,Act.put])
      refine rd 9 rfl fun K hK=>?_
      rotate_right
      all_goals
       go_simp
       (first
        | (go_at_call 56;(with_reducible refine (TA.out _ (ZG (by with_reducible assumption))).mono ?_);rintro e4 w4 ⟨rfl,hb⟩;(try have HC:=Lib.hid (HC.out.keep hb)))
        | (go_at_call 55;(with_reducible refine (NG.out _).mono ?_);rintro e5 w5 ⟨rfl,hb⟩;(try have HC:=Lib.hid (HC.out.keep hb)))
        | (go_at_call 13;(with_reducible refine (SC.out _ (ZG (by with_reducible assumption))).mono ?_);rintro e6 w6 ⟨v6,rfl,hv6,hb,fr6⟩;obtain ⟨A6,c6,rfl⟩:=Zd hv6;(try (have HF:=Lib.hid (Off.fresh (l:=M) (S:=fun b=>b=_) fr6 (fun b q=>by rw [q];exact HC.out.F.lt));have HC:=Lib.hid (HC.out.keep hb)));have HV:=Lib.hid hv6;clear hv6 fr6))
       go_wp2_with fail
       refine hK.out _ _ (STB.out _ _ hb (by with_reducible assumption)) (fun hH2=>?_)
       clear hK K hHeld hb;have hHeld:=hH2;clear hH2
       (try simp only [cl,Act.put])
      all_goals
       refine tk 10 rfl ?_
       refine tk 11 rfl ?_
       refine tk 12 rfl ?_
       (try simp only [cl,Act.put])
      refine rd 13 rfl fun K hK=>?_
      go_simp
      (first | refine hK.out _ _ (Za9 STB.out (by with_reducible assumption)) (fun hH2=>?_) | refine hK.out _ _ (STB.out _ _ (Za _ _) (by with_reducible assumption)) (fun hH2=>?_))
      clear hK K
      (try dsimp only at hH2)
      (first | have HC:=Lib.hid (ZbB hH2) | have HC:=Lib.hid (Zbm hH2))
      have hHeld0:=Lib.hid hHeld
      clear hHeld
      have hHeld:=hH2
      clear hH2
      (try simp only [cl,Act.put])
      all_goals
       refine rd 14 rfl fun K hK=>?_
       obtain ⟨⟨h0,h1,h2,h3,h4,h5,h6⟩,h7,h8⟩:=HC.out
       clear h7 h8
       go_simp
       clear h0 h1 h2 h3 h4 h5 h6
       (first
        | refine hK.out _ _ (STB.out _ _ (Za _ _) hHeld0.out) (fun hH2=>?_)
        | refine hK.out _ _ (STB.out _ _ (HC.out.fill _ _ _).1 hHeld0.out) (fun hH2=>?_))
       clear hK K hHeld
       (try dsimp only at hH2)
       have hHeld:=hH2
       clear hH2
       (try simp only [cl,Act.put])
       refine tk 15 rfl ?_
       (try simp only [cl,Act.put])
       refine wpAnyH_done (by kernel_rfl) ?_ _
       refine NoPanic.normal ?_
       go_wp2_with fail
       go_meet
       case rel=>first | exact ⟨rfl,Zgt hHeld0.out.2 27 HV.out⟩ | exact ⟨rfl,Zfb hHeld0.out.2 HC.out HV.out HF.out⟩
     case rest=>
      obtain ⟨rfl,c,A6,c6,rfl,F6,r6,hbq⟩:=hcut
      have D3:=Lib.hid (And.intro (D2.out.1.keep hbq) (Zl hbs D2.out.2 hbq))
      have hltr:=Nat.lt_of_lt_of_le D2.out.1.B.lt hbq.size
      have HL:=Lib.hid hltr
      clear z0 z1 z2 r1 r2 r3 pj hltr
      have FINO:=Lib.hid (fun (q:Za2 [((sl,s1,s2),p)] (tl,t1,t2)=none) (z:Int) (hz:(z != 0)=true) (w':World) (hb:Below br wo w')=>show ZkA w (Zbj Z ts) (.returned (.tuple #[.slice none 0 0,.int .i64 z])) w' from .inr ⟨HK.out.2.2.2.1 (HJ.out.2.2.2.1 q),z,hz,rfl,DD.out.below.trans ((show Below wo.heap.size wo w' by rw [hbr];exact hb).mono DD.out.below.size)⟩)
      have s1o:=HJ.out.2.2.2.2
      by_cases he:er=0
      ·subst he
       rw [if_pos rfl,Option.bind_some] at s1o
       have ad:=AD.out _ (.slice A6 M.length c6) D3.out.2 r6
       dsimp only at s1o
       generalize ZaQ tl M (t1,t2) (m1,m2)=Q at *
       obtain ⟨U,⟨u1,u2⟩,e2⟩:=Q
       dsimp only at s1o ad
       have AD2:=Lib.hid ad
       have SO:=Lib.hid s1o
       have k0:=F6.k0;have k1:=F6.k1;have k2:=F6.k2
       have r1:=D3.out.1.B.cell 1
       have r2:=D3.out.1.B.cell 2
       have r3:=D3.out.1.B.cell 3
       clear s1o ad F6 r6 hbq
       go_upto_region 12 with (go_at_call 57;(with_reducible refine AD2.out.mono ?_);rintro e7 w7 ⟨v7,rfl,hv7,hb7,fr7⟩;obtain ⟨A7,c7,rfl⟩:=Zd hv7;have HV:=Lib.hid (And.intro hv7 fr7);have D7:=Lib.hid (D3.out.1.keep hb7);clear hv7 fr7 hb7 k0 k1 k2;have n1:=D7.out.B.free 1;have n2:=D7.out.B.free 2;have n3:=D7.out.B.free 3;have r1:=D7.out.B.cell 1;have r2:=D7.out.B.cell 2;have r3:=D7.out.B.cell 3)
       have B8:Blk (((w7.setCell ⟨br,1,none⟩ (.slice A7 U.length c7)).setCell ⟨br,2,none⟩ (.int .i64 u1)).setCell ⟨br,3,none⟩ (.int .i64 u2)) br #[.int .i64 xo,.slice A7 U.length c7,.int .i64 u1,.int .i64 u2]:=by
        have:=((D7.out.B.set 1 (.slice A7 U.length c7)).set 2 (.int .i64 u1)).set 3 (.int .i64 u2)
        simpa using this
       have b8:=((D7.out.below.setCell (p:=⟨br,1,none⟩) (Nat.le_refl _) (.slice A7 U.length c7)).setCell (p:=⟨br,2,none⟩) (Nat.le_refl _) (.int .i64 u1)).setCell (p:=⟨br,3,none⟩) (Nat.le_refl _) (.int .i64 u2)
       have hv8:=((HV.out.1.setCell HV.out.2 (p:=⟨br,1,none⟩) HL.out (.slice A7 U.length c7)).setCell HV.out.2 (p:=⟨br,2,none⟩) HL.out (.int .i64 u1)).setCell HV.out.2 (p:=⟨br,3,none⟩) HL.out (.int .i64 u2)
       have fo:Off (Zaf noB va Zce Zce) (.slice A7 U.length c7) U:=Off.fresh HV.out.2 (fun b q=>by have:=DD.out.lt b q;have:=HL.out;omega)
       have D8:=Lib.hid (show SubS (Zaf noB va Zce Zce) wo (((w7.setCell ⟨br,1,none⟩ (.slice A7 U.length c7)).setCell ⟨br,2,none⟩ (.int .i64 u1)).setCell ⟨br,3,none⟩ (.int .i64 u2)) br xo (.slice A7 U.length c7) (U,u1,u2) from ⟨B8,hv8,fo,b8⟩)
       clear B8 b8 hv8 fo D7 HV n1 n2 n3 r1 r2 r3
       generalize ((w7.setCell ⟨br,1,none⟩ (.slice A7 U.length c7)).setCell ⟨br,2,none⟩ (.int .i64 u1)).setCell ⟨br,3,none⟩ (.int .i64 u2)=w8 at *
       have so:=SO.out
       by_cases h2:e2=0
       ·subst h2
        rw [if_pos rfl,Option.bind_some] at so
        have NXJ:=Lib.hid (HJ.out.2.2.1.trans so)
        clear so
        go_wp2_with fail
        go_roundg (m-(j+1))
        case measure=>have:=HJ.out.1;have:=HJ.out.2.1;omega
        case rel=>exact ⟨j+1,(U,u1,u2),_,by push_cast;rfl,by have:=HJ.out.1;omega,rfl,NXJ.out,D8.out⟩
       ·have ne:(e2 != 0)=true:=by simpa using h2
        rw [if_neg h2] at so
        have FIN:=Lib.hid (FINO.out so e2 ne w8 D8.out.below)
        clear so h2
        go_wp2_with fail
        go_ret2
        exact FIN.out
      ·have ne:(er != 0)=true:=by simpa using he
       rw [if_neg he] at s1o
       have FIN:=Lib.hid (FINO.out s1o er ne _ D3.out.1.below)
       clear s1o he F6 r6 hbq
       go_wp2_with fail
       go_ret2
       exact FIN.out
end
end Go.Proofs.YtolookeddknmoaaGreat
