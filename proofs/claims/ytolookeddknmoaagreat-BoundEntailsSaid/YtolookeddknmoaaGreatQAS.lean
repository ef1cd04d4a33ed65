import Derived.Test.YtolookeddknmoaaGreatQAI
import Derived.Test.YtolookeddknmoaaGreatQAK
import Derived.Test.YtolookeddknmoaaGreatQAL
import Derived.Test.YtolookeddknmoaaGreatQAR
set_option maxRecDepth 100000
set_option maxHeartbeats 8000000
namespace Go.Proofs.YtolookeddknmoaaGreat
section
open Go.RowKit
abbrev Trm:=List (Int×Int)×Int×Int
def Zg:List (Value×Trm)->List Value
 | []=>[]
 | x::r=>x.1::.int .i64 x.2.2.1::.int .i64 x.2.2.2::Zg r
theorem Zcb:∀ l,(Zg l).length=l.length*3
 | []=>rfl
 | x::r=>by rw [Zg,List.length_cons,List.length_cons,List.length_cons,Zcb r,List.length_cons];omega
theorem ZeT:∀ (l:List (Value×Trm)) (k:Nat) (x:Value×Trm),l[k]? = some x->(Zg l)[k*3]? = some x.1/\(Zg l)[k*3+1]? = some (.int .i64 x.2.2.1)/\(Zg l)[k*3+2]? = some (.int .i64 x.2.2.2)
 | [],k,x,h=>by simp at h
 | y::r,0,x,h=>by
  obtain rfl:y=x:=by simpa using h
  exact ⟨rfl,rfl,rfl⟩
 | y::r,k+1,x,h=>by
  rw [List.getElem?_cons_succ] at h
  obtain ⟨a,b,c⟩:=ZeT r k x h
  exact ⟨by rw [show (k+1)*3=k*3+1+1+1 by omega];exact a,by rw [show (k+1)*3+1=k*3+1+1+1+1 by omega];exact b,by rw [show (k+1)*3+2=k*3+2+1+1+1 by omega];exact c⟩
def Zal (w:World) (v:Value) (ts:List Trm):Prop:=
 ∃ A c rs,v=.slice A ts.length c/\ts.length<=c/\c<=maxLen/\rs.map (·.2)=ts/\ZB w w.heap.size 3 A ts.length (Zg rs)/\∀ x∈rs,Zb w x.1 x.2.1
theorem Zal.below {w w':World} {v:Value} {ts:List Trm} (h:Zal w v ts) (hb:Below w.heap.size w w'):Zal w' v ts:=by
 obtain ⟨A,c,rs,h1,h2,h3,h4,h5,h6⟩:=h
 exact ⟨A,c,rs,h1,h2,h3,h4,(h5.below hb).more hb.size,fun x hx=>(h6 x hx).below hb⟩
theorem Zal.nil (w:World):Zal w (.slice none 0 0) []:=⟨none,0,[],rfl,Nat.le_refl _,by decide,rfl,ZB.none_,fun x hx=>by cases hx⟩
theorem ZaZ {w wr:World} {A:Option Addr} {n k:Nat} {rs:List (Value×Trm)} {x:Value×Trm} (h4:ZB w w.heap.size 3 A n (Zg rs)) (hb:Below w.heap.size w wr) (hx:rs[k]? = some x) (hn:0<n) :
  ∃ ad,A=some ad/\wr.cell? (ad.add (k*3))=some x.1/\wr.cell? ⟨(ad.add (k*3)).block,(ad.add (k*3)).off+1,none⟩=some (.int .i64 x.2.2.1)/\wr.cell? ⟨(ad.add (k*3)).block,(ad.add (k*3)).off+2,none⟩=some (.int .i64 x.2.2.2):=by
 obtain ⟨ad,e,hbk,hc⟩:=h4.2 hn
 obtain ⟨a,b,c⟩:=ZeT rs k x hx
 have d0:=(hb.cell (p:=ad.add (k*3)) (by rw [ZL];exact hbk)).trans (hc _ _ a)
 have d1:=(hb.cell (p:=ad.add (k*3+1)) (by rw [ZL];exact hbk)).trans (hc _ _ b)
 have d2:=(hb.cell (p:=ad.add (k*3+2)) (by rw [ZL];exact hbk)).trans (hc _ _ c)
 rw [<- ZcE] at d1 d2
 exact ⟨ad,e,d0,d1,d2⟩
theorem Zo9 {α:Type} {f:α->Bool} {l:List α} {k:Nat} {x:α} (hk:l[k]? = some x) (h:(l.take k).all f=true):(l.take (k+1)).all f=f x:=by
 have hl:k<l.length:=by
  rcases Nat.lt_or_ge k l.length with g | g
  ·exact g
  ·rw [List.getElem?_eq_none g] at hk;cases hk
 rw [List.take_succ_eq_append_getElem hl,List.all_append,h,Bool.true_and]
 have e:l[k]=x:=by rw [List.getElem?_eq_getElem hl] at hk;exact Option.some.inj hk
 rw [e]
 simp
theorem Zqe {α:Type} {f:α->Bool} {l:List α} {k:Nat} {x:α} (hk:l[k]? = some x) (h:f x=false):l.all f=false:=by
 rw [List.all_eq_false]
 exact ⟨x,List.mem_of_getElem? hk,by rw [h];decide⟩
end
section
open Go.RowKit
theorem Zel (w:World) (v:Value) (l:List (Int×Int)) (kn kd i:Int) (h:Zb w v l) :
  Calls Tryz.prog 49 #[.agg #[v,.int .i64 kn,.int .i64 kd],.int .i64 i] w fun r w'=>r=.returned (.bool ((atL l i).1 != 0))/\Below w.heap.size w w':=by
 have hb0:=Za w (.cells #[v,.int .i64 kn,.int .i64 kd] 27)
 have ta:=Zbx _ v l kn kd i (h.below hb0)
 generalize atL l i=x at *
 obtain ⟨x1,x2⟩:=x
 dsimp only at *
 obtain ⟨A,c,rfl,_,_,_⟩:=h
 generalize l.length=n at *
 have hfd:∀ w:World,(Instr.field 25 (.agg #[.int .i64 x1,.int .i64 x2]) 0).run Tryz.prog w=.ok (.int .i64 x1) w:=fun _=>by kernel_rfl
 have TA:=Lib.hid ta
 clear ta
 go_enter Tryz.func49,Tryz.ntmps49
 go_wp2_with (go_at_call 56;(with_reducible refine TA.out.mono ?_);rintro e w1 ⟨rfl,hb⟩)
 go_ret
 exact ⟨rfl,hb0.trans (hb.mono hb0.size)⟩
end
section
open Go.RowKit
abbrev Bd (x:Int×Int):Prop:=(-9223372036854775808<=x.1/\x.1<=9223372036854775807)/\(-9223372036854775808<=x.2/\x.2<=9223372036854775807)
def ZaQ (l m:List (Int×Int)) (kx ky:Int×Int):List (Int×Int)×(Int×Int)×Int:=
 if ZO l kx.1 kx.2=true/\ZO m ky.1 ky.2=true then Za3 Zo l m kx ky else ([],(0,0),2)
def Zh (l:List (Int×Int)) (kx kb:Int×Int):List (Int×Int)×(Int×Int)×Int:=
 if ZO l kx.1 kx.2=true/\Zas kb.1 kb.2=true then Za3 (Zx kb) l [] kx (0,1) else ([],(0,0),2)
theorem ZgL:Bd (0,0):=by decide
theorem ZjS {h:How} (hh:HowOk h) {l m:List (Int×Int)} {kx ky:Int×Int} (hl:ZF l) (hm:ZF m) (hx:OkR kx) (hy:OkR ky):Zv (Za3 h l m kx ky).1/\Bd (Za3 h l m kx ky).2.1:=by
 unfold Za3
 split
 ·rename_i g
  exact ⟨(ZcW hh hl hm g.2).trim.wide,(hh.ok _ _ hx hy g.1).wide⟩
 ·exact ⟨fun x hx=>(by cases hx),ZgL⟩
theorem ZoQ {l m:List (Int×Int)} {kx ky:Int×Int} (hl:Zv l) (hm:Zv m) (hx:Bd kx) (hy:Bd ky):Zv (ZaQ l m kx ky).1/\Bd (ZaQ l m kx ky).2.1:=by
 unfold ZaQ
 split
 ·rename_i g
  obtain ⟨_,a,b⟩:=Zam g.1 hl hx.1.1 hx.1.2 hx.2.1 hx.2.2
  obtain ⟨_,c,d⟩:=Zam g.2 hm hy.1.1 hy.1.2 hy.2.1 hy.2.2
  exact ZjS Zbn a c b d
 ·exact ⟨fun x hx=>(by cases hx),ZgL⟩
theorem ZaR {l:List (Int×Int)} {kx kb:Int×Int} (hl:Zv l) (hx:Bd kx) (hb:Bd kb):Zv (Zh l kx kb).1/\Bd (Zh l kx kb).2.1:=by
 unfold Zh
 split
 ·rename_i g
  obtain ⟨_,a,b⟩:=Zam g.1 hl hx.1.1 hx.1.2 hx.2.1 hx.2.2
  exact ZjS (Zcl (ZfI g.2 hb)) a ZfS b Zah
 ·exact ⟨fun x hx=>(by cases hx),ZgL⟩
theorem Ziw (w:World) (va vb:Value) (l m:List (Int×Int)) (kx ky:Int×Int) (ha:Zb w va l) (hb:Zb w vb m) (hl:Zv l) (hm:Zv m) (hx:Bd kx) (hy:Bd ky) :
  Calls Tryz.prog 57 #[.agg #[va,.int .i64 kx.1,.int .i64 kx.2],.agg #[vb,.int .i64 ky.1,.int .i64 ky.2]] w (ZaS w (ZaQ l m kx ky).1 (ZaQ l m kx ky).2.1 (ZaQ l m kx ky).2.2):=by
 unfold ZaQ
 split
 ·rename_i g
  obtain ⟨p,a,b⟩:=Zam g.1 hl hx.1.1 hx.1.2 hx.2.1 hx.2.2
  obtain ⟨q,c,d⟩:=Zam g.2 hm hy.1.1 hy.1.2 hy.2.1 hy.2.2
  exact ZnJ w va vb l m kx ky ha hb a c b d p q
 ·rename_i g
  refine ZnK w va vb l m kx.1 kx.2 ky.1 ky.2 ha hb hl hm hx.1.1 hx.1.2 hx.2.1 hx.2.2 hy.1.1 hy.1.2 hy.2.1 hy.2.2 ?_
  cases a:ZO l kx.1 kx.2
  ·exact .inl rfl
  ·cases b:ZO m ky.1 ky.2
   ·exact .inr ⟨rfl,rfl⟩
   ·exact absurd ⟨a,b⟩ g
theorem ZcN (w:World) (va:Value) (l:List (Int×Int)) (kx kb:Int×Int) (ha:Zb w va l) (hl:Zv l) (hx:Bd kx) (hb:Bd kb) :
  Calls Tryz.prog 13 #[.agg #[va,.int .i64 kx.1,.int .i64 kx.2],Ze kb.1 kb.2] w (ZaS w (Zh l kx kb).1 (Zh l kx kb).2.1 (Zh l kx kb).2.2):=by
 unfold Zh
 split
 ·rename_i g
  obtain ⟨p,a,b⟩:=Zam g.1 hl hx.1.1 hx.1.2 hx.2.1 hx.2.2
  exact Zlz w va l kx kb ha a b (ZfI g.2 hb) p
 ·rename_i g
  refine ZlA w va l kx.1 kx.2 kb.1 kb.2 ha hl hx.1.1 hx.1.2 hx.2.1 hx.2.2 hb.1.1 hb.1.2 hb.2.1 hb.2.2 ?_
  cases a:ZO l kx.1 kx.2
  ·exact .inl rfl
  ·cases b:Zas kb.1 kb.2
   ·exact .inr ⟨rfl,rfl⟩
   ·exact absurd ⟨a,b⟩ g
structure Put (h:How) (l m:List (Int×Int)) (kx ky:Int×Int) (L:List (Int×Int)) (k:Int×Int):Prop where
 ok:ZF L
 len:L.length<=8
 own:Zw L=L
 okk:OkR k
 k:(h kx ky).2=0/\k=(h kx ky).1
 at_:∀ i:Nat,(h (atL l i) (atL m i)).2=0/\atL L i=(h (atL l i) (atL m i)).1
theorem Zow {h:How} (hh:HowOk h) (h0:h (0,1) (0,1)=((0,1),0)) {l m:List (Int×Int)} {kx ky:Int×Int} (hl:ZF l) (hm:ZF m) (hx:OkR kx) (hy:OkR ky) (h8:l.length<=8) (h8':m.length<=8) (he:(Za3 h l m kx ky).2.2=0) :
  Put h l m kx ky (Za3 h l m kx ky).1 (Za3 h l m kx ky).2.1:=by
 obtain ⟨a,b,c,d,e,f⟩:=Zqq hh hl hm hx hy h8 h8' he
 rw [c]
 refine ⟨d.trim,Nat.le_trans (Zhn _) e,Zh7 _,f,⟨a,rfl⟩,fun i=>?_⟩
 rw [Zbq d,ZeI]
 by_cases g:i<max l.length m.length
 ·rw [if_pos g]
  exact ⟨b i g,rfl⟩
 ·rw [if_neg g,Zbt (l:=l) (.inr (by omega)),Zbt (l:=m) (.inr (by omega)),h0]
  exact ⟨rfl,rfl⟩
theorem Zms:Zo (0,1) (0,1)=((0,1),0):=Zc9 Zah
theorem Zk5 {k:Int×Int} (hk:OkR k):ZT (0,1) k=((0,1),0):=ZhC Zah hk Zah (by show 0*(1*k.2)=0*k.1*1;grind)
theorem Zc8 {l m:List (Int×Int)} {kx ky:Int×Int} (hl:Zv l) (hm:Zv m) (hx:Bd kx) (hy:Bd ky) (he:(ZaQ l m kx ky).2.2=0):ZF l/\ZF m/\OkR kx/\OkR ky/\l.length<=8/\m.length<=8/\Put Zo l m kx ky (ZaQ l m kx ky).1 (ZaQ l m kx ky).2.1:=by
 by_cases g:ZO l kx.1 kx.2=true/\ZO m ky.1 ky.2=true
 ·obtain ⟨p,a,b⟩:=Zam g.1 hl hx.1.1 hx.1.2 hx.2.1 hx.2.2
  obtain ⟨q,c,d⟩:=Zam g.2 hm hy.1.1 hy.1.2 hy.2.1 hy.2.2
  have e:ZaQ l m kx ky=Za3 Zo l m kx ky:=if_pos g
  rw [e] at he ⊢
  exact ⟨a,c,b,d,p,q,Zow Zbn Zms a c b d p q he⟩
 ·unfold ZaQ at he
  rw [if_neg g] at he
  cases he
theorem Zcm {l:List (Int×Int)} {kx kb:Int×Int} (hl:Zv l) (hx:Bd kx) (hb:Bd kb) (he:(Zh l kx kb).2.2=0):ZF l/\OkR kx/\OkR kb/\l.length<=8/\Put (Zx kb) l [] kx (0,1) (Zh l kx kb).1 (Zh l kx kb).2.1:=by
 by_cases g:ZO l kx.1 kx.2=true/\Zas kb.1 kb.2=true
 ·obtain ⟨p,a,b⟩:=Zam g.1 hl hx.1.1 hx.1.2 hx.2.1 hx.2.2
  have c:=ZfI g.2 hb
  have e:Zh l kx kb=Za3 (Zx kb) l [] kx (0,1):=if_pos g
  rw [e] at he ⊢
  exact ⟨a,b,c,p,Zow (Zcl c) (Zk5 c) a ZfS b Zah p (by simp) he⟩
 ·unfold Zh at he
  rw [if_neg g] at he
  cases he
theorem Zrf (a1 a2 c1 c2 b1 b2 s1 s2 x1 x2 y1 y2 z1 z2 w1 w2:Int) (h1:s1*(a2*c2)=(a1*c2+c1*a2)*s2) (h2:x1*(s2*b2)=s1*b1*x2) (h3:y1*(a2*b2)=a1*b1*y2) (h4:z1*(c2*b2)=c1*b1*z2)
  (h5:w1*(y2*z2)=(y1*z2+z1*y2)*w2):x1*w2*(a2*c2*b2*s2*y2*z2)=w1*x2*(a2*c2*b2*s2*y2*z2):=by
 have e1:x1*w2*(a2*c2*b2*s2*y2*z2)=(x1*(s2*b2))*(a2*c2)*(y2*z2)*w2:=by grind
 have e2:w1*x2*(a2*c2*b2*s2*y2*z2)=(w1*(y2*z2))*(a2*c2*b2*s2)*x2:=by grind
 have e3:(y1*z2+z1*y2)*(a2*b2*(c2*b2))=(y1*(a2*b2))*z2*(c2*b2)+(z1*(c2*b2))*y2*(a2*b2):=by grind
 grind
theorem OkR.same {x w:Int×Int} (hx:OkR x) (hw:OkR w) {D:Int} (hD:0<D) (h:x.1*w.2*D=w.1*x.2*D):x=w:=
 hx.ext hw (Int.eq_of_mul_eq_mul_right (by omega) h)
theorem ZkM {a c b s x y z w:Int×Int} (ha:OkR a) (hc:OkR c) (hb:OkR b) (e1:(Zo a c).2=0) (hs:s=(Zo a c).1) (e2:(ZT s b).2=0) (hx:x=(ZT s b).1) (e3:(ZT a b).2=0) (hy:y=(ZT a b).1) (e4:(ZT c b).2=0) (hz:z=(ZT c b).1)
  (e5:(Zo y z).2=0) (hw:w=(Zo y z).1):x=w:=by
 obtain ⟨os,f1⟩:=Zi6 ha hc e1
 rw [<- hs] at os f1
 obtain ⟨ox,f2⟩:=ZhB os hb e2
 rw [<- hx] at ox f2
 obtain ⟨oy,f3⟩:=ZhB ha hb e3
 rw [<- hy] at oy f3
 obtain ⟨oz,f4⟩:=ZhB hc hb e4
 rw [<- hz] at oz f4
 obtain ⟨ow,f5⟩:=Zi6 oy oz e5
 rw [<- hw] at ow f5
 exact ox.same ow (Int.mul_pos (Int.mul_pos (Int.mul_pos (Int.mul_pos (Int.mul_pos ha.den hc.den) hb.den) os.den) oy.den) oz.den) (Zrf _ _ _ _ _ _ _ _ _ _ _ _ _ _ _ _ f1 f2 f3 f4 f5)
theorem Zru {l m:List (Int×Int)} {kx ky kb:Int×Int} (hl:Zv l) (hm:Zv m) (hx:Bd kx) (hy:Bd ky) (hb:Bd kb) (e1:(ZaQ l m kx ky).2.2=0) (e2:(Zh (ZaQ l m kx ky).1 (ZaQ l m kx ky).2.1 kb).2.2=0) (e3:(Zh l kx kb).2.2=0) (e4:(Zh m ky kb).2.2=0)
  (e5:(ZaQ (Zh l kx kb).1 (Zh m ky kb).1 (Zh l kx kb).2.1 (Zh m ky kb).2.1).2.2=0) :
  let X:=Zh (ZaQ l m kx ky).1 (ZaQ l m kx ky).2.1 kb
  let W:=ZaQ (Zh l kx kb).1 (Zh m ky kb).1 (Zh l kx kb).2.1 (Zh m ky kb).2.1
  X.1=W.1/\X.2.1=W.2.1/\ZO X.1 X.2.1.1 X.2.1.2=true/\ZO W.1 W.2.1.1 W.2.1.2=true:=by
 intro X W
 obtain ⟨sw,sb⟩:=ZoQ hl hm hx hy
 obtain ⟨yw,yb⟩:=ZaR hl hx hb
 obtain ⟨zw,zb⟩:=ZaR hm hy hb
 obtain ⟨al,am,ox,oy,l8,m8,P1⟩:=Zc8 hl hm hx hy e1
 obtain ⟨_,_,ob,_,P2⟩:=Zcm sw sb hb e2
 obtain ⟨_,_,_,_,P3⟩:=Zcm hl hx hb e3
 obtain ⟨_,_,_,_,P4⟩:=Zcm hm hy hb e4
 obtain ⟨_,_,_,_,_,_,P5⟩:=Zc8 yw zw yb zb e5
 refine ⟨?_,ZkM ox oy ob P1.k.1 P1.k.2 P2.k.1 P2.k.2 P3.k.1 P3.k.2 P4.k.1 P4.k.2 P5.k.1 P5.k.2,ZaA P2.len P2.ok P2.okk,ZaA P5.len P5.ok P5.okk⟩
 rw [<- P2.own,<- P5.own]
 exact Zgv P2.ok P5.ok fun i=>ZkM (al.at i) (am.at i) ob (P1.at_ i).1 (P1.at_ i).2 (P2.at_ i).1 (P2.at_ i).2 (P3.at_ i).1 (P3.at_ i).2 (P4.at_ i).1 (P4.at_ i).2 (P5.at_ i).1 (P5.at_ i).2
end
section
open Go.RowKit
theorem ZkY (n d:Int) (w:World) (h1:-9223372036854775807<=n) (h2:n<0) (h3:0<d) (h4:d<=9223372036854775807) :
  Calls Tryz.prog 108 #[Ze n d] w fun e w'=>e=.returned (Ze (-d) (-n))/\Below w.heap.size w w':=by
 go_enter Tryz.func108,Tryz.ntmps108
 go_wp2
 exact bodyPost_ret (v:=Ze (-d) (-n)) (by simp [results,Tryz.results108,go_sem]) rfl ⟨rfl,((Below.refl _ _).alloc (Nat.le_refl _) _).alloc (by simp) _⟩
theorem ZkZ (n d:Int) (w:World) (h2:¬ n<0) :
  Calls Tryz.prog 108 #[Ze n d] w fun e w'=>e=.returned (Ze d n)/\Below w.heap.size w w':=by
 go_enter Tryz.func108,Tryz.ntmps108
 go_wp2
 exact bodyPost_ret (v:=Ze d n) (by simp [results,Tryz.results108,go_sem]) rfl ⟨rfl,((Below.refl _ _).alloc (Nat.le_refl _) _).alloc (by simp) _⟩
theorem Valid.neg {n:Int} {d:Nat} (v:Valid n d):Valid (-n) d:=⟨v.pos,v.d_le,by rw [Int.natAbs_neg];exact v.n_le,by rw [Int.natAbs_neg];exact v.low⟩
theorem ZjG {w w1 w2:World} {n d m e:Value} (hb:Below w1.heap.size w1 w2)
  (h:(w1.cell? ⟨w.heap.size,0,none⟩=some n/\w1.cell? ⟨w.heap.size,1,none⟩=some d/\w1.cell? ⟨w.heap.size+1,0,none⟩=some m/\w1.cell? ⟨w.heap.size+1,1,none⟩=some e)/\w.heap.size+2<w1.heap.size/\Below w.heap.size w w1/\(w1.cell? ⟨w.heap.size+1+1,0,none⟩=some (Zi w1 ⟨w.heap.size+1+1,0,none⟩)/\w1.cell? ⟨w.heap.size+1+1,1,none⟩=some (Zi w1 ⟨w.heap.size+1+1,1,none⟩))/\(w1.frozen? ⟨w.heap.size+1+1,0,none⟩=false/\w1.frozen? ⟨w.heap.size+1+1,1,none⟩=false)) :
  (w2.cell? ⟨w.heap.size,0,none⟩=some n/\w2.cell? ⟨w.heap.size,1,none⟩=some d/\w2.cell? ⟨w.heap.size+1,0,none⟩=some m/\w2.cell? ⟨w.heap.size+1,1,none⟩=some e)/\w.heap.size+2<w2.heap.size/\Below w.heap.size w w2/\(w2.cell? ⟨w.heap.size+1+1,0,none⟩=some (Zi w2 ⟨w.heap.size+1+1,0,none⟩)/\w2.cell? ⟨w.heap.size+1+1,1,none⟩=some (Zi w2 ⟨w.heap.size+1+1,1,none⟩))/\(w2.frozen? ⟨w.heap.size+1+1,0,none⟩=false/\w2.frozen? ⟨w.heap.size+1+1,1,none⟩=false):=by
 obtain ⟨⟨a,b,c,f⟩,g,k,⟨i0,i1⟩,j0,j1⟩:=h
 have hs:=hb.size
 have q:∀ o,w2.cell? ⟨w.heap.size+1+1,o,none⟩=w1.cell? ⟨w.heap.size+1+1,o,none⟩:=fun o=>hb.cell (p:=⟨w.heap.size+1+1,o,none⟩) (by simp;omega)
 have r:∀ o,w2.frozen? ⟨w.heap.size+1+1,o,none⟩=w1.frozen? ⟨w.heap.size+1+1,o,none⟩:=fun o=>hb.frozen (p:=⟨w.heap.size+1+1,o,none⟩) (by simp;omega)
 exact ⟨⟨Zf hb (by omega) a,Zf hb (by omega) b,Zf hb (by omega) c,Zf hb (by omega) f⟩,by omega,k.trans (hb.mono (by omega)),⟨ZJ ((q _).trans i0),ZJ ((q _).trans i1)⟩,by rw [r];exact j0,by rw [r];exact j1⟩
theorem Zgl {w w1:World} {n d m e:Value} {o:Nat} {x:Value}
  (h:(w1.cell? ⟨w.heap.size,0,none⟩=some n/\w1.cell? ⟨w.heap.size,1,none⟩=some d/\w1.cell? ⟨w.heap.size+1,0,none⟩=some m/\w1.cell? ⟨w.heap.size+1,1,none⟩=some e)/\w.heap.size+2<w1.heap.size/\Below w.heap.size w w1/\(w1.cell? ⟨w.heap.size+1+1,0,none⟩=some (Zi w1 ⟨w.heap.size+1+1,0,none⟩)/\w1.cell? ⟨w.heap.size+1+1,1,none⟩=some (Zi w1 ⟨w.heap.size+1+1,1,none⟩))/\(w1.frozen? ⟨w.heap.size+1+1,0,none⟩=false/\w1.frozen? ⟨w.heap.size+1+1,1,none⟩=false)) :
  ((w1.setCell ⟨w.heap.size+1+1,o,none⟩ x).cell? ⟨w.heap.size,0,none⟩=some n/\(w1.setCell ⟨w.heap.size+1+1,o,none⟩ x).cell? ⟨w.heap.size,1,none⟩=some d/\(w1.setCell ⟨w.heap.size+1+1,o,none⟩ x).cell? ⟨w.heap.size+1,0,none⟩=some m/\(w1.setCell ⟨w.heap.size+1+1,o,none⟩ x).cell? ⟨w.heap.size+1,1,none⟩=some e)/\w.heap.size+2<(w1.setCell ⟨w.heap.size+1+1,o,none⟩ x).heap.size/\Below w.heap.size w (w1.setCell ⟨w.heap.size+1+1,o,none⟩ x)/\((w1.setCell ⟨w.heap.size+1+1,o,none⟩ x).cell? ⟨w.heap.size+1+1,0,none⟩=some (Zi (w1.setCell ⟨w.heap.size+1+1,o,none⟩ x) ⟨w.heap.size+1+1,0,none⟩)/\(w1.setCell ⟨w.heap.size+1+1,o,none⟩ x).cell? ⟨w.heap.size+1+1,1,none⟩=some (Zi (w1.setCell ⟨w.heap.size+1+1,o,none⟩ x) ⟨w.heap.size+1+1,1,none⟩))/\((w1.setCell ⟨w.heap.size+1+1,o,none⟩ x).frozen? ⟨w.heap.size+1+1,0,none⟩=false/\(w1.setCell ⟨w.heap.size+1+1,o,none⟩ x).frozen? ⟨w.heap.size+1+1,1,none⟩=false):=by
 obtain ⟨⟨a,b,c,f⟩,g,k,⟨i0,i1⟩,j0,j1⟩:=h
 have q:∀ b' o',b'<w.heap.size+1+1->(w1.setCell ⟨w.heap.size+1+1,o,none⟩ x).cell? ⟨b',o',none⟩=w1.cell? ⟨b',o',none⟩:=fun b' o' hb=>World.cell?_setCell_far _ _ _ _ (by simp;omega)
 exact ⟨⟨by rw [q _ _ (by omega)];exact a,by rw [q _ _ (by omega)];exact b,by rw [q _ _ (by omega)];exact c,by rw [q _ _ (by omega)];exact f⟩,by rw [World.size_setCell];exact g,k.setCell (by simp;omega) _,⟨Zap i0,Zap i1⟩,by rw [World.frozen?_setCell];exact j0,by rw [World.frozen?_setCell];exact j1⟩
theorem Boxes.rats {w w1:World} {n d m e:Int} (h:Boxes w w1 n d m e) :
  (w1.cell? ⟨w.heap.size,0,none⟩=some (.int .i64 n)/\w1.cell? ⟨w.heap.size,1,none⟩=some (.int .i64 d)/\w1.cell? ⟨w.heap.size+1,0,none⟩=some (.int .i64 m)/\w1.cell? ⟨w.heap.size+1,1,none⟩=some (.int .i64 e))/\w.heap.size+2<w1.heap.size/\Below w.heap.size w w1/\(w1.cell? ⟨w.heap.size+1+1,0,none⟩=some (Zi w1 ⟨w.heap.size+1+1,0,none⟩)/\w1.cell? ⟨w.heap.size+1+1,1,none⟩=some (Zi w1 ⟨w.heap.size+1+1,1,none⟩))/\(w1.frozen? ⟨w.heap.size+1+1,0,none⟩=false/\w1.frozen? ⟨w.heap.size+1+1,1,none⟩=false):=
 ⟨⟨h.c0,h.c1,h.c2,h.c3⟩,h.size,h.below,⟨ZJ h.i0,ZJ h.i1⟩,h.j0,h.j1⟩
theorem ZiP {w w1:World} {x y:Value} {A B F:Prop} {f:World} (hf:f=(w1.setCell ⟨w.heap.size+1+1,0,none⟩ x).setCell ⟨w.heap.size+1+1,1,none⟩ y)
  (h:A/\B/\Below w.heap.size w f/\(f.cell? ⟨w.heap.size+1+1,0,none⟩=some (Zi f ⟨w.heap.size+1+1,0,none⟩)/\f.cell? ⟨w.heap.size+1+1,1,none⟩=some (Zi f ⟨w.heap.size+1+1,1,none⟩))/\F) :
  f.cell? ⟨w.heap.size+1+1,0,none⟩=some x/\f.cell? ⟨w.heap.size+1+1,1,none⟩=some y/\Below w.heap.size w f:=by
 obtain ⟨_,_,k,⟨i0,i1⟩,_⟩:=h
 subst hf
 refine ⟨?_,i1.trans (congrArg some (ZbA i1)),k⟩
 have e:=i0
 rw [ZfL (by decide)] at e
 exact i0.trans (congrArg some (ZbA e))
theorem ZoO {n m:Int} {d e:Nat} (v:Valid n d) (u:Valid m e) (w:World) :
  Calls Tryz.prog 87 #[Ze n d,Ze m e] w fun r w'=>r=.returned (ZcQ (n*e-m*d) (d*e))/\Below w.heap.size w w':=by
 have ra:=fun w=>Zb1 v w
 have rb:=fun w=>Zb1 u w
 have su:=fun w=>Zj6 v u.neg w
 have hp:n*e+-m*d=n*e-m*d:=by rw [Int.neg_mul];omega
 rw [hp] at su
 clear hp
 unfold ZcQ at su ⊢
 generalize ZcK (n*e-m*d) (d*e)=F1 at *
 generalize ZcP (n*e-m*d) (d*e)=F2 at *
 generalize ZcJ (n*e-m*d) (d*e)=F3 at *
 have un:=u.n_le
 have ne:=fun w=>ZgB m e w (by omega) (by omega)
 clear v u un
 go_enter Tryz.func87,Tryz.ntmps87
 go_upto_region 1 with fail
 have B:=Boxes.start w n d m e 0 25
 go_wp2_with (go_at_call 34;(first | with_reducible refine (ra _).mono ?_ | with_reducible refine (rb _).mono ?_);rintro e w1 ⟨rfl,hb⟩;have B:=B.keep hb;have c0:=B.c0;have c1:=B.c1;have c2:=B.c2;have c3:=B.c3)
 go_region_held3 (fun w'=>(w'.cell? ⟨w.heap.size,0,none⟩=some (.int .i64 n)/\w'.cell? ⟨w.heap.size,1,none⟩=some (.int .i64 d)/\w'.cell? ⟨w.heap.size+1,0,none⟩=some (.int .i64 m)/\w'.cell? ⟨w.heap.size+1,1,none⟩=some (.int .i64 e))/\w.heap.size+2<w'.heap.size/\Below w.heap.size w w'/\(w'.cell? ⟨w.heap.size+1+1,0,none⟩=some (Zi w' ⟨w.heap.size+1+1,0,none⟩)/\w'.cell? ⟨w.heap.size+1+1,1,none⟩=some (Zi w' ⟨w.heap.size+1+1,1,none⟩))/\(w'.frozen? ⟨w.heap.size+1+1,0,none⟩=false/\w'.frozen? ⟨w.heap.size+1+1,1,none⟩=false))
  (first
   | with_reducible assumption
   | with_reducible exact ZjG (by with_reducible assumption) (by with_reducible assumption)
   | with_reducible exact Zgl (Zgl (by with_reducible assumption))
   | exact (B.keep (Zq _)).rats)
  (first
   | (go_at_call 110;(with_reducible refine (ne _).mono ?_);rintro e w' ⟨rfl,hb⟩)
   | (go_at_call 92;(with_reducible refine (su _).mono ?_);rintro e w' ⟨rfl,hb⟩))
 go_wp2_with fail
 obtain ⟨c0,c1,hB⟩:=ZiP rfl (by with_reducible assumption)
 exact bodyPost_ret (v:=.tuple #[Ze F1 F2,.int .i64 F3]) (by simp [results,Tryz.results87,go_sem,c0,c1]) rfl ⟨rfl,hB⟩
theorem Valid.inv {m:Int} {e:Nat} (u:Valid m e) (h:m≠0):Valid (if m<0 then -(e:Int) else e) m.natAbs:=by
 have up:=u.pos;have ud:=u.d_le
 refine ⟨by omega,u.n_le,by split<;>omega,?_⟩
 have:(if m<0 then -(e:Int) else (e:Int)).natAbs=e:=by split<;>omega
 rw [this,Nat.gcd_comm];exact u.low
theorem Zjg {m:Int} {e:Nat} (u:Valid m e) (w:World) :
  Calls Tryz.prog 108 #[Ze m e] w fun r w'=>r=.returned (Ze (if m<0 then -(e:Int) else e) m.natAbs)/\Below w.heap.size w w':=by
 have up:=u.pos;have ud:=u.d_le;have un:=u.n_le
 by_cases s:m<0
 ·rw [if_pos s]
  have:=ZkY m e w (by omega) s (by omega) (by omega)
  rwa [show -m=(m.natAbs:Int) by omega] at this
 ·rw [if_neg s]
  have:=ZkZ m e w s
  rwa [show Ze (e:Int) m=Ze (e:Int) (m.natAbs:Int) by rw [show (m.natAbs:Int)=m by omega]] at this
theorem Zn5 {n m:Int} {d e:Nat} (v:Valid n d) (u:Valid m e) (h:m≠0) (w:World) :
  Calls Tryz.prog 83 #[Ze n d,Ze m e] w fun r w'=>r=.returned (ZcQ (n*(if m<0 then -(e:Int) else e)) (d*m.natAbs))/\Below w.heap.size w w':=by
 have ra:=fun w=>Zb1 v w
 have rb:=fun w=>Zb1 u w
 have iv:=fun w=>Zjg u w
 have su:=fun w=>ZgC v (u.inv h) w
 unfold ZcQ at su ⊢
 generalize (if m<0 then -(e:Int) else (e:Int))=E at *
 generalize ZcK (n*E) (d*m.natAbs)=F1 at *
 generalize ZcP (n*E) (d*m.natAbs)=F2 at *
 generalize ZcJ (n*E) (d*m.natAbs)=F3 at *
 have hm:(m==0)=false:=by simpa using h
 clear v u h
 go_enter Tryz.func83,Tryz.ntmps83
 go_upto_region 1 with fail
 have B:=Boxes.start w n d m e 0 25
 go_wp2_with (go_at_call 34;(first | with_reducible refine (ra _).mono ?_ | with_reducible refine (rb _).mono ?_);rintro e w1 ⟨rfl,hb⟩;have B:=B.keep hb;have c0:=B.c0;have c1:=B.c1;have c2:=B.c2;have c3:=B.c3)
 go_region_held3 (fun w'=>(w'.cell? ⟨w.heap.size,0,none⟩=some (.int .i64 n)/\w'.cell? ⟨w.heap.size,1,none⟩=some (.int .i64 d)/\w'.cell? ⟨w.heap.size+1,0,none⟩=some (.int .i64 m)/\w'.cell? ⟨w.heap.size+1,1,none⟩=some (.int .i64 e))/\w.heap.size+2<w'.heap.size/\Below w.heap.size w w'/\(w'.cell? ⟨w.heap.size+1+1,0,none⟩=some (Zi w' ⟨w.heap.size+1+1,0,none⟩)/\w'.cell? ⟨w.heap.size+1+1,1,none⟩=some (Zi w' ⟨w.heap.size+1+1,1,none⟩))/\(w'.frozen? ⟨w.heap.size+1+1,0,none⟩=false/\w'.frozen? ⟨w.heap.size+1+1,1,none⟩=false))
  (first
   | with_reducible assumption
   | with_reducible exact ZjG (by with_reducible assumption) (by with_reducible assumption)
   | with_reducible exact Zgl (Zgl (by with_reducible assumption))
   | exact (B.keep (Zq _)).rats)
  (first
   | (go_at_call 108;(with_reducible refine (iv _).mono ?_);rintro e w' ⟨rfl,hb⟩)
   | (go_at_call 76;(with_reducible refine (su _).mono ?_);rintro e w' ⟨rfl,hb⟩))
 go_wp2_with fail
 obtain ⟨c0,c1,hB⟩:=ZiP rfl (by with_reducible assumption)
 exact bodyPost_ret (v:=.tuple #[Ze F1 F2,.int .i64 F3]) (by simp [results,Tryz.results83,go_sem,c0,c1]) rfl ⟨rfl,hB⟩
theorem ZqV {n m x:Int} {d e y:Nat} (v:Valid n d) (u:Valid m e) (hm:m≠0) (z:Valid x y) (h:x*d*m=n*e*(y:Int)) (w:World) :
  Calls Tryz.prog 83 #[Ze n d,Ze m e] w fun r w'=>r=.returned (.tuple #[Ze x y,.int .i64 0])/\Below w.heap.size w w':=by
 have hp:0<d*m.natAbs:=Nat.mul_pos v.pos (by omega)
 have h2:x*((d*m.natAbs:Nat):Int)=n*(if m<0 then -(e:Int) else e)*(y:Int):=by
  push_cast
  by_cases s:m<0
  ·rw [if_pos s,show ((m.natAbs:Int))=-m by omega,<- Int.mul_assoc,Int.mul_neg,h,Int.mul_neg,Int.neg_mul]
  ·rw [if_neg s,show ((m.natAbs:Int))=m by omega,<- Int.mul_assoc,h]
 obtain ⟨a,b,c⟩:=Zli hp z h2
 have:=Zn5 v u hm w
 unfold ZcQ at this
 rwa [a,b,c] at this
end
section
open Go.RowKit
def Zb7 (x:Int×Int):Int×Int:=(if x.1<0 then -x.2 else x.2,(x.1.natAbs:Int))
theorem Zhp {n:Int} {d:Nat} (v:Valid n d) (h:n≠0):Valid (if n<0 then -(d:Int) else d) n.natAbs:=by
 have e:(if n<0 then -(d:Int) else d).natAbs=d:=by split<;>simp
 exact ⟨by omega,v.n_le,by rw [e];exact v.d_le,by rw [e,Nat.gcd_comm];exact v.low⟩
theorem ZeD {x:Int×Int} (h:OkR x) (hn:x.1≠0):OkR (Zb7 x):=by
 obtain ⟨d,e,v⟩:=h
 refine ⟨x.1.natAbs,rfl,?_⟩
 unfold Zb7
 rw [e]
 exact Zhp v hn
theorem Zq2 {n:Int} {d:Nat} (_:Valid n d) (_:n≠0):(if n<0 then -(d:Int) else d)*((1:Nat):Int)*n=1*(d:Int)*(n.natAbs:Int):=by
 by_cases g:n<0
 ·rw [if_pos g,show ((n.natAbs:Nat):Int)=-n by omega]
  simp [Int.neg_mul,Int.mul_neg]
 ·rw [if_neg g,show ((n.natAbs:Nat):Int)=n by omega]
  simp
theorem ZmD (w:World) (x:Int×Int) (h:OkR x) (hn:x.1≠0) :
  Calls Tryz.prog 83 #[Ze 1 1,Ze x.1 x.2] w fun r w'=>r=.returned (.tuple #[Ze (Zb7 x).1 (Zb7 x).2,.int .i64 0])/\Below w.heap.size w w':=by
 obtain ⟨d,e,v⟩:=h
 have:=ZqV (n:=1) (d:=1) ⟨by decide,by decide,by decide,by decide⟩ v hn (Zhp v hn) (Zq2 v hn) w
 unfold Zb7
 rw [e]
 exact this
theorem ZlT (w:World) (va:Value) (l:List (Int×Int)) (kx:Int×Int) (i:Int) (ha:Zb w va l) (hl:Zv l) (hx:Bd kx) (hq:OkR (atL l i)) (hn:(atL l i).1≠0) :
  Calls Tryz.prog 50 #[.agg #[va,.int .i64 kx.1,.int .i64 kx.2],.int .i64 i] w (ZaS w (Zh l kx (Zb7 (atL l i))).1 (Zh l kx (Zb7 (atL l i))).2.1 (Zh l kx (Zb7 (atL l i))).2.2):=by
 have ta:=fun (w':World) (h:Below w.heap.size w w')=>Zbx w' va l kx.1 kx.2 i (ha.below h)
 have tv:=fun (w':World)=>ZmD w' (atL l i) hq hn
 have ts:=fun (w':World) (h:Below w.heap.size w w')=>ZcN w' va l kx (Zb7 (atL l i)) (ha.below h) hl hx (ZeD hq hn).wide
 generalize Zh l kx (Zb7 (atL l i))=P at *
 generalize Zb7 (atL l i)=y at *
 generalize atL l i=x at *
 obtain ⟨L,⟨p1,p2⟩,e⟩:=P
 obtain ⟨x1,x2⟩:=x
 obtain ⟨y1,y2⟩:=y
 obtain ⟨xn,xd⟩:=kx
 dsimp only at *
 obtain ⟨A,c,rfl⟩:=Zd ha
 generalize l.length=n at *
 have TA:=Lib.hid ta;have TV:=Lib.hid tv;have TS:=Lib.hid ts
 clear ta tv ts ha hl hx hq hn
 have hb0:=ZI w (.cells #[.slice A n c,.int .i64 xn,.int .i64 xd] 27) (.cells #[.slice none 0 0,.int .i64 0,.int .i64 0] 27)
 obtain ⟨F,E⟩:=Zfe w (.slice A n c) (.int .i64 xn) (.int .i64 xd) (.slice none 0 0) (.int .i64 0) (.int .i64 0) 27
 go_enter Tryz.func50,Tryz.ntmps50
 go_upto_region 2 with (first
  | (go_at_call 56;(with_reducible refine (TA.out _ hb0).mono ?_);rintro e w1 ⟨rfl,hb⟩;have F:=F.keep hb;have E:=E.keep hb;have b1:=hb0.trans (hb.mono hb0.size))
  | (go_at_call 83;(with_reducible refine (TV.out _).mono ?_);rintro e w2 ⟨rfl,hb⟩;have F:=F.keep hb;have E:=E.keep hb;have b2:=b1.trans (hb.mono b1.size)))
 have a2:=Za w2 (.cells #[.int .i64 y1,.int .i64 y2] 25)
 have Q:=RatAt.start w2 y1 y2 25
 have F:=F.keep a2
 have E:=E.keep a2
 have b3:=b2.trans (a2.mono b2.size)
 have k0:=F.k0;have k1:=F.k1;have k2:=F.k2;have q0:=Q.k0;have q1:=Q.k1
 clear a2 hb b2 b1 hb0 F Q
 generalize w2.alloc (.cells #[.int .i64 y1,.int .i64 y2] 25)=w3 at *
 go_wp2_with (go_at_call 13;(with_reducible refine (TS.out _ b3).mono ?_);rintro e5 w4 ⟨v4,rfl,hv4,hb4,fr4⟩;obtain ⟨A4,c4,rfl⟩:=Zd hv4;have HV:=Lib.hid (And.intro hv4 fr4);clear hv4 fr4;have hlt:=E.lt;have E:=E.keep hb4;have b4:=b3.trans (hb4.mono b3.size);obtain ⟨e0,e1,e2,g0,g1,g2,_⟩:=id E)
 obtain ⟨c0,c1,c2⟩:=Zaj (x:=.slice A4 L.length c4) (y:=.int .i64 p1) (z:=.int .i64 p2) e0 e1 e2
 refine bodyPost_ret (v:=.tuple #[.agg #[.slice A4 L.length c4,.int .i64 p1,.int .i64 p2],.int .i64 e]) (by simp [results,Tryz.results50,go_sem,c0,c1,c2]) rfl ⟨_,rfl,?_,?_,HV.out.2.mono b3.size⟩
 ·exact ((HV.out.1.setCell HV.out.2 hlt _).setCell HV.out.2 hlt _).setCell HV.out.2 hlt _
 ·exact ((b4.setCell (by show w.heap.size<=w.heap.size+1;omega) _).setCell (by show w.heap.size<=w.heap.size+1;omega) _).setCell (by show w.heap.size<=w.heap.size+1;omega) _
end
section
open Go.RowKit
theorem ZnB (w:World) (v:Value) (l:List (Int×Int)) (kn kd:Int) (h:Zb w v l) (hw:Zv l) (hk:Bd (kn,kd)) :
  Calls Tryz.prog 45 #[.agg #[v,.int .i64 kn,.int .i64 kd]] w fun r w'=>r=.returned (.bool (!ZO l kn kd))/\Below w.heap.size w w':=by
 have hb0:=Za w (.cells #[v,.int .i64 kn,.int .i64 kd] 27)
 have ta:=ZbN _ v l kn kd (h.below hb0) hw hk.1.1 hk.1.2 hk.2.1 hk.2.2
 generalize ZO l kn kd=R at *
 obtain ⟨A,c,rfl⟩:=Zd h
 generalize l.length=n at *
 have TA:=Lib.hid ta
 clear ta h hw hk
 go_enter Tryz.func45,Tryz.ntmps45
 go_wp2_with (go_at_call 33;(with_reducible refine TA.out.mono ?_);rintro e w1 ⟨rfl,hb⟩)
 go_ret
 exact ⟨rfl,hb0.trans (hb.mono hb0.size)⟩
theorem ZnD (w:World) (v:Value) (l:List (Int×Int)) (kn kd:Int) (h:Zb w v l) :
  Calls Tryz.prog 54 #[.agg #[v,.int .i64 kn,.int .i64 kd]] w fun r w'=>r=.returned (.bool (kn != 0))/\Below w.heap.size w w':=by
 obtain ⟨A,c,rfl⟩:=Zd h
 have hb0:=Za w (.cells #[.slice A l.length c,.int .i64 kn,.int .i64 kd] 27)
 generalize l.length=n at *
 clear h
 go_enter Tryz.func54,Tryz.ntmps54
 go_wp2_with fail
 go_ret
 exact ⟨rfl,hb0⟩
theorem ZnC (w:World) (v:Value) (l:List (Int×Int)) (kn kd i:Int) (b:Nat) (h:Zb w v l) (hi:w.cell? ⟨b,0,none⟩=some (.int .i64 i)) :
  Calls Tryz.prog 48 #[.agg #[v,.int .i64 kn,.int .i64 kd],.pointer (some ⟨b,0,none⟩)] w fun r w'=>r=.returned (.bool ((atL l i).1 != 0))/\Below w.heap.size w w':=by
 have hb0:=Za w (.cells #[v,.int .i64 kn,.int .i64 kd] 27)
 have ta:=Zel _ v l kn kd i (h.below hb0)
 have d0:=(hb0.cell (World.block_lt_of_cell? _ _ hi)).trans hi
 generalize ((atL l i).1 != 0)=R at *
 obtain ⟨A,c,rfl⟩:=Zd h
 generalize l.length=n at *
 have TA:=Lib.hid ta
 clear ta h hi
 go_enter Tryz.func48,Tryz.ntmps48
 go_wp2_with (go_at_call 49;(with_reducible refine TA.out.mono ?_);rintro e w1 ⟨rfl,hb⟩)
 go_ret
 exact ⟨rfl,hb0.trans (hb.mono hb0.size)⟩
end
section
open Go.RowKit
def Off (S:Nat->Prop) (v:Value) (l:List (Int×Int)):Prop:=l≠[]->∀ b,v.ownBlock=some b->¬ S b
theorem Off.mono {S S':Nat->Prop} {v:Value} {l:List (Int×Int)} (h:Off S v l) (hs:∀ b,S' b->S b):Off S' v l:=fun hl b hb q=>h hl b hb (hs b q)
theorem Off.none_ (S:Nat->Prop) (v:Value):Off S v []:=fun h=>absurd rfl h
theorem Off.fresh {S:Nat->Prop} {v:Value} {l:List (Int×Int)} {B:Nat} (hf:Zs B v) (hs:∀ b,S b->b<B):Off S v l:=fun _ b hb q=>by
 have:=hf b hb
 have:=hs b q
 omega
theorem Zb.lt {w:World} {v:Value} {l:List (Int×Int)} (h:Zb w v l) (hl:l≠[]):∀ b,v.ownBlock=some b->b<w.heap.size:=by
 obtain ⟨A,c,rfl,_,_,h4⟩:=h
 intro b hb
 have hn:0<l.length:=List.length_pos_iff.2 hl
 obtain ⟨ad,rfl,hlt,_⟩:=h4.2 hn
 have:ad.block=b:=by simpa [Value.ownBlock] using hb
 omega
theorem Off.more {w:World} {S S':Nat->Prop} {v:Value} {l:List (Int×Int)} (h:Off S v l) (hr:Zb w v l) (hs:∀ b,S' b->S b\/w.heap.size<=b):Off S' v l:=fun hl b hb q=>by
 rcases hs b q with g | g
 ·exact h hl b hb g
 ·have:=hr.lt hl b hb
  omega
theorem Zb.grown {w w':World} {row:Option Nat} {v:Value} {l:List (Int×Int)} (h:Zb w v l) (hg:w.grownBy w' row) (ho:l≠[]->∀ b,v.ownBlock=some b->row≠some b):Zb w' v l:=by
 obtain ⟨A,c,rfl,h2,h3,h4⟩:=h
 refine ⟨A,c,rfl,h2,h3,h4.1,fun hn=>?_⟩
 obtain ⟨ad,rfl,hlt,hc⟩:=h4.2 hn
 refine ⟨ad,rfl,Nat.lt_of_lt_of_le hlt hg.size,fun j u hu=>?_⟩
 have hne:row≠some ad.block:=ho (List.length_pos_iff.1 hn) _ rfl
 exact (World.cell?_of_block (hg.block (ad.add j).block (by rw [ZL];exact hlt) (by rw [ZL];exact fun e=>hne e.symm))).trans (hc j u hu)
theorem Zb.off {w w':World} {row:Option Nat} {S:Nat->Prop} {v:Value} {l:List (Int×Int)} (h:Zb w v l) (ho:Off S v l) (hg:w.grownBy w' row) (hr:∀ b,row=some b->S b):Zb w' v l:=
 h.grown hg fun hl b hb e=>ho hl b hb (hr b e)
theorem Zac {w w':World} (h:Below w.heap.size w w') (row:Option Nat):w.grownBy w' row:=⟨h.os,h.tape,h.output,h.size,fun k hk _=>h.block k hk⟩
theorem Zaa {a b c:World} {row:Option Nat} (h:a.grownBy b row) (k:b.grownBy c row):a.grownBy c row:=
 ⟨k.os.trans h.os,k.tape.trans h.tape,k.output.trans h.output,Nat.le_trans h.size k.size,fun i hi hne=>(k.block i (Nat.lt_of_lt_of_le hi h.size) hne).trans (h.block i hi hne)⟩
theorem ZaK {w:World} {g j:Nat} {u:Value}:w.grownBy (w.setCell ⟨g,j,none⟩ u) (some g):=
 ⟨rfl,rfl,rfl,by simp [World.setCell],fun k _ hk=>Below.heap_setCell _ _ _ _ (fun e=>hk (by rw [e]))⟩
def ZY (w:World) (base:Nat) (v:Value) (ts:List Trm) (S:Nat->Prop):Prop:=
 ∃ rs,rs.map (·.2)=ts/\w.ownsRow base 27 3 v ts.length (Zg rs)/\∀ x∈rs,Zb w x.1 x.2.1/\Off S x.1 x.2.1
theorem ZY.nil (w:World) (base:Nat) (S:Nat->Prop):ZY w base (.slice none 0 0) [] S:=⟨[],rfl,World.ownsRow_nil w base _ _,fun x hx=>by cases hx⟩
theorem ZY.terms {w:World} {base:Nat} {v:Value} {ts:List Trm} {S:Nat->Prop} (h:ZY w base v ts S):Zal w v ts:=by
 obtain ⟨rs,h1,h2,h3⟩:=h
 have h0:=h2
 rcases h2.2 with ⟨rfl,hn⟩ | ⟨g,cap,cur,rfl,_,hh,hnc,hrest⟩
 ·have hts:ts=[]:=List.eq_nil_of_length_eq_zero hn
  subst hts
  exact Zal.nil w
 ·exact ⟨some _,cap,rs,rfl,hnc,hrest.1,h1,ZB.of_own h0,fun x hx=>(h3 x hx).1⟩
theorem ZY.lt {w:World} {base:Nat} {v:Value} {ts:List Trm} {S:Nat->Prop} (h:ZY w base v ts S):∀ k,v.ownBlock=some k->base<=k/\k<w.heap.size:=by
 obtain ⟨rs,_,h2,_⟩:=h
 exact h2.lt
theorem ZY.below {w w':World} {base:Nat} {v:Value} {ts:List Trm} {S:Nat->Prop} (h:ZY w base v ts S) (hb:Below w.heap.size w w'):ZY w' base v ts S:=by
 obtain ⟨rs,h1,h2,h3⟩:=h
 exact ⟨rs,h1,h2.kept (Zac hb none) (by cases hv:v.ownBlock<;>simp),fun x hx=>⟨(h3 x hx).1.below hb,(h3 x hx).2⟩⟩
theorem ZY.other {w w':World} {base:Nat} {v:Value} {ts:List Trm} {S:Nat->Prop} {row:Option Nat} (h:ZY w base v ts S) (hg:w.grownBy w' row) (hr:∀ b,row=some b->S b/\v.ownBlock≠some b):ZY w' base v ts S:=by
 obtain ⟨rs,h1,h2,h3⟩:=h
 refine ⟨rs,h1,h2.kept hg ?_,fun x hx=>⟨(h3 x hx).1.off (h3 x hx).2 hg fun b e=>(hr b e).1,(h3 x hx).2⟩⟩
 cases row with
 | none=>cases hv:v.ownBlock<;>simp
 | some b=>exact .inr (hr b rfl).2
theorem ZY.mono {w:World} {base:Nat} {v:Value} {ts:List Trm} {S S':Nat->Prop} (h:ZY w base v ts S) (hs:∀ b,S' b->S b\/w.heap.size<=b):ZY w base v ts S':=by
 obtain ⟨rs,h1,h2,h3⟩:=h
 exact ⟨rs,h1,h2,fun x hx=>⟨(h3 x hx).1,(h3 x hx).2.more (h3 x hx).1 hs⟩⟩
theorem ZY.base {w:World} {base base':Nat} {v:Value} {ts:List Trm} {S:Nat->Prop} (h:ZY w base v ts S) (hb:base'<=base):ZY w base' v ts S:=by
 obtain ⟨rs,h1,h2,h3⟩:=h
 refine ⟨rs,h1,⟨h2.1,?_⟩,h3⟩
 rcases h2.2 with q | ⟨g,cap,cur,e,hg,rest⟩
 ·exact .inl q
 ·exact .inr ⟨g,cap,cur,e,Nat.le_trans hb hg,rest⟩
theorem ZgF:∀ (l:List (Value×Trm)) (k:Nat) (x:Value×Trm),Zg (l.set k x)=(((Zg l).set (k*3) x.1).set (k*3+1) (.int .i64 x.2.2.1)).set (k*3+2) (.int .i64 x.2.2.2)
 | [],k,x=>by simp [Zg]
 | y::r,0,x=>by simp [Zg]
 | y::r,k+1,x=>by
  rw [List.set_cons_succ,Zg,Zg,ZgF r k x,show (k+1)*3=k*3+1+1+1 by omega,show k*3+1+1+1+1=(k*3+1)+1+1+1 by omega,show k*3+1+1+1+2=(k*3+2)+1+1+1 by omega]
  simp only [List.set_cons_succ]
theorem Zdk:∀ (l m:List (Value×Trm)),Zg (l++m)=Zg l++Zg m
 | [],m=>rfl
 | x::r,m=>by rw [List.cons_append,Zg,Zg,Zdk r m];rfl
theorem Zen:∀ (l:List (Value×Trm)) (_:∀ x∈l,∃ A n c,x.1=.slice A n c),∀ u∈Zg l,u.oneCell'=true
 | [],_,u,h=>by cases h
 | x::r,hx,u,h=>by
  rw [Zg,List.mem_cons,List.mem_cons,List.mem_cons] at h
  rcases h with rfl | rfl | rfl | h
  ·obtain ⟨A,n,c,e⟩:=hx x (by simp)
   rw [e]
   rfl
  ·rfl
  ·rfl
  ·exact Zen r (fun y hy=>hx y (by simp [hy])) u h
theorem ZY.stored {w:World} {base g n cap k:Nat} {ts:List Trm} {S:Nat->Prop} (h:ZY w base (.slice (some ⟨g,0,none⟩) n cap) ts S) (hS:S g) {v:Value} {t:Trm} (hr:Zb w v t.1) (ho:Off S v t.1) :
  ZY (((w.setCell ⟨g,k*3,none⟩ v).setCell ⟨g,k*3+1,none⟩ (.int .i64 t.2.1)).setCell ⟨g,k*3+2,none⟩ (.int .i64 t.2.2)) base (.slice (some ⟨g,0,none⟩) n cap) (ts.set k t) S ∧
  w.grownBy (((w.setCell ⟨g,k*3,none⟩ v).setCell ⟨g,k*3+1,none⟩ (.int .i64 t.2.1)).setCell ⟨g,k*3+2,none⟩ (.int .i64 t.2.2)) (some g):=by
 obtain ⟨rs,h1,h2,h3⟩:=h
 have hn:n=ts.length:=by
  rcases h2.2 with ⟨e,_⟩ | ⟨g',cap',cur,e,_⟩
  ·cases e
  ·injection e
 subst hn
 obtain ⟨a1,b1⟩:=h2.stored (k*3) v
 obtain ⟨a2,b2⟩:=a1.stored (k*3+1) (.int .i64 t.2.1)
 obtain ⟨a3,b3⟩:=a2.stored (k*3+2) (.int .i64 t.2.2)
 have hg:=Zaa (Zaa b1 b2) b3
 refine ⟨⟨rs.set k (v,t),by rw [List.map_set,h1],?_,fun x hx=>?_⟩,hg⟩
 ·rw [List.length_set,ZgF]
  exact a3
 ·rcases List.mem_or_eq_of_mem_set hx with q | rfl
  ·exact ⟨(h3 x q).1.off (h3 x q).2 hg (fun b e=>by injection e with e;exact e▸hS),(h3 x q).2⟩
  ·exact ⟨hr.off ho hg (fun b e=>by injection e with e;exact e▸hS),ho⟩
theorem ZY.form {w:World} {base:Nat} {v:Value} {ts:List Trm} {S:Nat->Prop} (h:ZY w base v ts S) (hn:0<ts.length):∃ g cap,v=.slice (some ⟨g,0,none⟩) ts.length cap/\base<=g/\g<w.heap.size/\ts.length<=cap/\cap<=maxLen:=by
 obtain ⟨rs,_,h2,_⟩:=h
 rcases h2.2 with ⟨_,hz⟩ | ⟨g,cap,cur,rfl,hb,hg,hc,hm,_⟩
 ·omega
 ·exact ⟨g,cap,rfl,hb,(Array.getElem?_eq_some_iff.1 hg).1,hc,hm⟩
theorem ZY.cells {w:World} {base g n cap k:Nat} {ts:List Trm} {S:Nat->Prop} (h:ZY w base (.slice (some ⟨g,0,none⟩) n cap) ts S) {t:Trm} (ht:ts[k]? = some t) :
  ∃ v,Zb w v t.1/\Off S v t.1/\w.cell? ⟨g,k*3,none⟩=some v/\w.cell? ⟨g,k*3+1,none⟩=some (.int .i64 t.2.1)/\w.cell? ⟨g,k*3+2,none⟩=some (.int .i64 t.2.2) ∧
   w.frozen? ⟨g,k*3,none⟩=false/\w.frozen? ⟨g,k*3+1,none⟩=false/\w.frozen? ⟨g,k*3+2,none⟩=false:=by
 obtain ⟨rs,h1,h2,h3⟩:=h
 have hn:n=ts.length:=by
  rcases h2.2 with ⟨e,_⟩ | ⟨g',cap',cur,e,_⟩
  ·cases e
  ·injection e
 subst hn
 have hk:k<ts.length:=by
  rcases Nat.lt_or_ge k ts.length with q | q
  ·exact q
  ·rw [List.getElem?_eq_none q] at ht;cases ht
 obtain ⟨x,hx⟩:∃ x,rs[k]? = some x:=⟨_,List.getElem?_eq_getElem (by rw [<- h1,List.length_map] at hk;exact hk)⟩
 have e:x.2=t:=by
  rw [<- h1,List.getElem?_map,hx] at ht
  exact Option.some.inj ht
 subst e
 obtain ⟨a,b,c⟩:=ZeT rs k x hx
 obtain ⟨p,q⟩:=h3 x (List.mem_of_getElem? hx)
 refine ⟨x.1,p,q,?_,?_,?_,h2.frozenAt _,h2.frozenAt _,h2.frozenAt _⟩
 ·rw [h2.cellAt _ (by omega)];exact a
 ·rw [h2.cellAt _ (by omega)];exact b
 ·rw [h2.cellAt _ (by omega)];exact c
theorem ZY.appended {w w':World} {base:Nat} {v v' vt:Value} {ts:List Trm} {rs:List (Value×Trm)} {t:Trm} {S S':Nat->Prop} (h1:rs.map (·.2)=ts) (h3:∀ x∈rs,Zb w x.1 x.2.1/\Off S x.1 x.2.1)
  (hown:w'.ownsRow base 27 3 v' (ts.length+1) (Zg rs++[vt,.int .i64 t.2.1,.int .i64 t.2.2])) (hg:w.grownBy w' v.ownBlock) (hv:∀ b,v.ownBlock=some b->S b) (hr:Zb w vt t.1) (ho:Off S vt t.1) (hs:∀ b,S' b->S b\/w.heap.size<=b) :
  ZY w' base v' (ts++[t]) S':=by
 have key:∀ x∈rs++[(vt,t)],Zb w x.1 x.2.1/\Off S x.1 x.2.1:=by
  intro x hx
  rcases List.mem_append.1 hx with q | q
  ·exact h3 x q
  ·rw [List.mem_singleton] at q
   subst q
   exact ⟨hr,ho⟩
 refine ⟨rs++[(vt,t)],by rw [List.map_append,h1];rfl,?_,fun x hx=>⟨(key x hx).1.off (key x hx).2 hg hv,(key x hx).2.more (key x hx).1 hs⟩⟩
 rw [List.length_append,Zdk]
 exact hown
end
end Go.Proofs.YtolookeddknmoaaGreat
