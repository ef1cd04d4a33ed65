import Derived.Test.YtkongcicmajolaaGreatDoorQAU
set_option maxRecDepth 100000
set_option maxHeartbeats 8000000
namespace Go.Proofs.YtkongcicmajolaaGreatDoor
section
section
variable {L:List Tok}
def ZgL (ns:List Nd) (c:Int):Prop:=∃ a r z,(Za ns c).kind=6/\(Za ns c).words=a::r/\(Za ns c).nums=[z]/\(Za ns c).kids=[]/\0<=z/\z<=2/\∀ x∈a::r,ZN x=true
theorem ZgL.which {ns:List Nd} {c:Int} (h:ZgL ns c):0<=ZaD ns c/\ZaD ns c<=2:=by
 obtain ⟨a,r,z,-,-,hz,-,h0,h2,-⟩:=h
 unfold ZaD
 rw [hz]
 exact ⟨h0,h2⟩
def Zc7 (j:Int):Txt:=if j=0 then [97,116] else if j=1 then [116,111] else [105,110]
theorem Zrt (j:Int):ZiQ j=[(0,Zc7 j)]:=by
 unfold ZiQ Zc7
 split
 ·rfl
 ·split<;>rfl
theorem ZoG {j:Int} (h0:0<=j) (h2:j<=2):isKey (Zc7 j)=true:=by
 have:j=0\/j=1\/j=2:=by omega
 rcases this with rfl | rfl | rfl<;>decide
theorem Zqb {i j:Int} (h0:0<=i) (h1:i<j) (h2:j<=2):Zc7 j≠Zc7 i:=by
 have:(i=0/\j=1)\/(i=0/\j=2)\/(i=1/\j=2):=by omega
 rcases this with ⟨rfl,rfl⟩ | ⟨rfl,rfl⟩ | ⟨rfl,rfl⟩<;>decide
theorem ZoF {j:Int}:Zc7 j≠[124]:=by
 unfold Zc7
 split
 ·decide
 ·split<;>decide
def Zeh (u:Nat×Txt):Prop:=u.2=[44]\/u.2=[41]
theorem Zeh.not {u:Nat×Txt} (h:Zeh u) {x:Txt} (h1:x≠[44]) (h2:x≠[41]):u.2≠x:=by
 rcases h with h | h
 ·rw [h];exact fun e=>h1 e.symm
 ·rw [h];exact fun e=>h2 e.symm
theorem Zeh.head {u:Nat×Txt} (h:Zeh u) (j:Int):u.2≠Zc7 j:=by
 apply h.not
 ·unfold Zc7
  split
  ·decide
  ·split<;>decide
 ·unfold Zc7
  split
  ·decide
  ·split<;>decide
def Zhk (u:Nat×Txt):Prop:=u.2≠[124]/\∀ j,u.2≠Zc7 j
theorem Zeh.noHead {u:Nat×Txt} (h:Zeh u):Zhk u:=⟨h.not (by decide) (by decide),h.head⟩
theorem Zhk.open_:Zhk (2,[123]):=⟨by decide,fun j=>by
 unfold Zc7
 split
 ·decide
 ·split<;>decide⟩
theorem Zi9 {ns:List Nd}:∀ (l:List Int) (a:Int),Zbm ns (a::l)=true->(∀ c∈l,ZaD ns a<ZaD ns c)/\Zbm ns l=true
 | [],_,_=>⟨fun c h=>by simp at h,rfl⟩
 | b::r,a,h=>by
  rw [Zbm,Bool.and_eq_true,decide_eq_true_eq] at h
  have ih:=Zi9 r b h.2
  refine ⟨fun c hc=>?_,h.2⟩
  rcases List.mem_cons.1 hc with rfl | hc
  ·exact h.1
  ·exact Int.lt_trans h.1 (ih.1 c hc)
theorem ZhE {ns:List Nd} {c:Int} (h:ZgL ns c):∃ a r,(Za ns c).words=a::r/\(∀ x∈a::r,ZN x=true)/\Zbr (Za ns c)=[(0,Zc7 (ZaD ns c))]++Zak [(2,[124])] ((a::r).map fun w=>[(0,w)]):=by
 obtain ⟨a,r,z,-,hw,hz,-,-,-,hn⟩:=h
 refine ⟨a,r,hw,hn,?_⟩
 have e:num (Za ns c) 0=ZaD ns c:=by unfold num ZaD;rw [hz];rfl
 unfold Zbr
 rw [e,Zrt,hw]
theorem Zgp {ns:List Nd} {f:Nat} {j:Int} (h0:0<=j) (h2:j<=2) (l:List Int) {s:PS} {u:Nat×Txt} (hl:∀ c∈l,ZgL ns c) (hr:Zbm ns l=true) (hj:∀ c∈l,j<=ZaD ns c) (e0:s.err=0) (hh:Zan L s.at_ ((l.map fun k=>Zbr (Za ns k)).flatten++[u])) (hu:Zhk u) :
  ∃ ts l1 l2,l=l1++l2/\ZB L (Zc7 j) j s=(ts,Zc s ((l1.map fun k=>Zbr (Za ns k)).flatten).length)/\Za5 (fun c=>Zt ns (f+1) (Za ns c)) l1 ts/\Zbm ns l2=true/\(∀ c∈l2,ZgL ns c)/\(∀ c∈l2,j+1<=ZaD ns c)/\Zan L (Zc s ((l1.map fun k=>Zbr (Za ns k)).flatten).length).at_ ((l2.map fun k=>Zbr (Za ns k)).flatten++[u]):=by
 cases l with
 | nil=>
  have k0:kt (Zi L s.at_)=(u.1,u.2):=hh.head
  refine ⟨[],[],[],rfl,?_,Za5.nil _,rfl,fun c h=>by simp at h,fun c h=>by simp at h,hh⟩
  unfold ZB
  rw [ZH e0 k0 (hu.2 j),if_neg (by decide)]
  rfl
 | cons c r=>
  have hc:=hl c List.mem_cons_self
  obtain ⟨hra,hrr⟩:=Zi9 r c hr
  obtain ⟨a,q,hw,hn,ek⟩:=ZhE hc
  have hcj:=hj c List.mem_cons_self
  by_cases hcc:ZaD ns c=j
  ·rw [List.map_cons,List.flatten_cons,List.append_assoc] at hh
   have hnext:∃ v vs,(r.map fun k=>Zbr (Za ns k)).flatten++[u]=v::vs/\v.2≠[124]:=by
    cases r with
    | nil=>exact ⟨u,[],rfl,hu.1⟩
    | cons d r'=>
     obtain ⟨a',q',-,-,ed⟩:=ZhE (hl d (by simp))
     exact ⟨(0,Zc7 (ZaD ns d)),Zak [(2,[124])] ((a'::q').map fun w=>[(0,w)])++(r'.map fun k=>Zbr (Za ns k)).flatten++[u],by rw [List.map_cons,List.flatten_cons,ed];simp only [List.append_assoc,List.cons_append,List.nil_append],ZoF⟩
   obtain ⟨v,vs,ev,hv⟩:=hnext
   have hh1:=hh
   rw [ev,<- List.singleton_append,<- List.append_assoc] at hh1
   have hh2:=hh1.left
   rw [ek,hcc] at hh2
   obtain ⟨p,hp⟩:=ZlQ (which:=j) e0 (ZoG h0 h2) hh2 hv hn
   refine ⟨[.mk 6 (a::q) [j] p []],[c],r,rfl,?_,Za5.cons ?_ (Za5.nil _),hrr,fun d hd=>hl d (List.mem_cons_of_mem _ hd),fun d hd=>?_,?_⟩
   ·rw [hp]
    simp only [List.map_cons,List.map_nil,List.flatten_cons,List.flatten_nil,List.append_nil,ek,List.length_append,List.length_cons,List.length_nil,Nat.zero_add]
   ·obtain ⟨a2,q2,z,g1,g2,g3,g4,-,-,-⟩:=hc
    have ez:z=j:=by rw [<- hcc];unfold ZaD;rw [g3]
    rw [hw] at g2
    exact Zdl g1 hw (by rw [g3,ez]) g4
   ·have:=hra d hd;omega
   ·have h5:=hh.right
    simpa only [List.map_cons,List.map_nil,List.flatten_cons,List.flatten_nil,List.append_nil,ZgE] using h5
  ·refine ⟨[],[],c::r,rfl,?_,Za5.nil _,hr,hl,fun d hd=>?_,hh⟩
   ·have hlt:j<ZaD ns c:=by omega
    rw [List.map_cons,List.flatten_cons,ek] at hh
    have k0:kt (Zi L s.at_)=(0,Zc7 (ZaD ns c)):=hh.head
    unfold ZB
    rw [ZH e0 k0 (Zqb h0 hlt hc.which.2),if_neg (by decide)]
    rfl
   ·rcases List.mem_cons.1 hd with rfl | hd
    ·omega
    ·have:=hra d hd;omega
end
end
section
section
variable {L:List Tok}
theorem Za5.two {β:Type} {P:β->Tr->Prop}:∀ {a b:List β} {ts us:List Tr},Za5 P a ts->Za5 P b us->Za5 P (a++b) (ts++us)
 | [],b,[],us,_,h=>h
 | [],_,_::_,_,h,_=>nomatch h.1
 | _::_,_,[],_,h,_=>nomatch h.1
 | x::a,b,t::ts,us,h,g=>Za5.cons (h.2 0 t x rfl rfl) (Za5.two (a:=a) (ts:=ts) ⟨by have:=h.1;simpa using this,fun i t' b' ht hb=>h.2 (i+1) t' b' ht hb⟩ g)
theorem ZoZ {ns:List Nd} (R:RightP ns) {i:Nat} {c:Int} (hn:ns[i]? = some (Za ns c)) (hk:(Za ns c).kind=6):ZgL ns c:=by
 obtain ⟨hw,hu,hl⟩:=R.node i _ hn
 have el:Zn ns (Za ns c)=(decide (1<=(Za ns c).words.length)&&ZF (Za ns c) (Za ns c).words.length 1&&decide (num (Za ns c) 0<=2)&&Zp ns (Za ns c).kids []):=by simp [Zn,hk]
 rw [el,Bool.and_eq_true,Bool.and_eq_true,Bool.and_eq_true,decide_eq_true_eq,decide_eq_true_eq] at hl
 obtain ⟨z,hz⟩:=ZeJ (ZaL hl.1.1.2).2
 have h2:z<=2:=by have:=hl.1.2;rw [ZcI (k:=0) (z:=z) (by rw [hz];rfl)] at this;exact this
 have h0:0<=z:=(ZaR hu (x:=z) (by rw [hz];simp)).1
 cases hws:(Za ns c).words with
 | nil=>have:=hl.1.1.1;rw [hws] at this;simp at this
 | cons a r=>exact ⟨a,r,z,hk,hws,hz,Zhl hl.2,h0,h2,fun x hx=>List.all_eq_true.mp hw x (by rw [hws];exact hx)⟩
def Zej:Txt:=[108,101,97,115,116]
theorem ZlM (j:Int):Zc7 j≠Zej:=by
 unfold Zc7
 split
 ·decide
 ·split<;>decide
theorem ZlN {q r:Int} (hq:ZaI q) (hr:ZaI r) (h:q=0/\r=0\/1<=q/\1<=r) {s:PS} {v:Nat×Txt} {vs:TS} (e0:s.err=0) (hh:Zan L s.at_ ((if 0<r then [((0:Nat),Zej)]++ZfI q r else [])++v::vs)) (hv:v.2≠Zej) :
  (if isM L Zej s then (let n:=Zao L 1 (Zd s);let d:=Zao L 1 (Zf L [47] n.2);([n.1,d.1],d.2)) else ([0,0],s))=(([q,r],Zc s (if 0<r then [((0:Nat),Zej)]++ZfI q r else []).length):List Int×PS):=by
 rcases h with ⟨rfl,rfl⟩ | ⟨h1,h2⟩
 ·rw [if_neg (show ¬ (0:Int)<0 by decide)] at hh
  rw [if_neg (show ¬ (0:Int)<0 by decide)]
  have k0:kt (Zi L s.at_)=(v.1,v.2):=hh.head
  rw [ZH e0 k0 hv,if_neg (by decide)]
  rfl
 ·have hr0:(0:Int)<r:=by omega
  rw [if_pos hr0] at hh
  rw [if_pos hr0]
  have k0:kt (Zi L s.at_)=(0,Zej):=hh.head
  have k1:kt (Zi L (Zc s 1).at_)=(1,ZbP q):=hh.tail.head
  have k2:kt (Zi L (Zc (Zc s 1) 1).at_)=(2,[47]):=hh.tail.tail.head
  have k3:kt (Zi L (Zc (Zc (Zc s 1) 1) 1).at_)=(1,ZbP r):=hh.tail.tail.tail.head
  rw [Zce e0 k0 (by decide),if_pos rfl,Zah]
  simp only
  rw [Zfr (s:=Zc s 1) (v:=q) e0 k1 (ZeD hq) h1]
  simp only
  rw [Zba (s:=Zc (Zc s 1) 1) e0 k2,Zfr (s:=Zc (Zc (Zc s 1) 1) 1) (v:=r) e0 k3 (ZeD hr) h2,Zk,Zk,Zk]
  rfl
theorem ZlS {ns:List Nd} (R:RightP ns) {f i:Nat} {n:Nd} (hn:ns[i]? = some n) (hk:n.kind=5):ZZ L 0 (ZaC L) (ZdA ns n) Zeh (Zt ns (f+2) n):=fun s u e0 _ hh hg=>by
 obtain ⟨hw,hu,hl⟩:=R.node i n hn
 have el:Zn ns n=(ZF n 1 0&&Zp ns n.kids []||ZF n 2 3&&ZcK ns n):=by simp [Zn,hk]
 rw [el,Bool.or_eq_true,Bool.and_eq_true,Bool.and_eq_true] at hl
 rcases hl with ⟨h1,h2⟩ | ⟨h1,h2⟩
 ·obtain ⟨a,ha⟩:=ZeJ (ZaL h1).1
  have hnu:n.nums=[]:=List.length_eq_zero_iff.1 (ZaL h1).2
  have hks:=Zhl h2
  have ek:ZdA ns n=[(0,a)]:=by simp [ZdA,ha,word]
  rw [ek] at hh ⊢
  have k0:kt (Zi L s.at_)=(0,a):=hh.head
  have k1:kt (Zi L (Zc s 1).at_)=(u.1,u.2):=hh.tail.head
  have hx:ZN a=true:=List.all_eq_true.mp hw a (by rw [ha];simp)
  refine ⟨.mk 5 [a] [] (Ze L s) [],?_,Zdl hk ha hnu hks⟩
  unfold ZaC
  simp only
  rw [Zam e0 k0 hx]
  simp only
  rw [ZH (s:=Zc s 1) e0 k1 (hg.not (by decide) (by decide)),if_neg (by decide)]
  rfl
 ·unfold ZcK at h2
  rw [Bool.and_eq_true,Bool.and_eq_true,Bool.and_eq_true,decide_eq_true_eq] at h2
  obtain ⟨⟨⟨hp4,hqr⟩,hkd⟩,hri⟩:=h2
  obtain ⟨lw,ln⟩:=ZaL h1
  obtain ⟨a,b,hab⟩:∃ a b,n.words=[a,b]:=by
   match hws:n.words,lw with
   | [a,b],_=>exact ⟨a,b,rfl⟩
  obtain ⟨p,q,r,hpq⟩:∃ p q r,n.nums=[p,q,r]:=by
   match hws:n.nums,ln with
   | [a,b,c],_=>exact ⟨a,b,c,rfl⟩
  have n0:num n 0=p:=ZcI (by rw [hpq];rfl)
  have n1:num n 1=q:=ZcI (by rw [hpq];rfl)
  have n2:num n 2=r:=ZcI (by rw [hpq];rfl)
  have hp:=ZaR hu (x:=p) (by rw [hpq];simp)
  have hq:=ZaR hu (x:=q) (by rw [hpq];simp)
  have hr:=ZaR hu (x:=r) (by rw [hpq];simp)
  have hfr:q=0/\r=0\/1<=q/\1<=r:=by
   unfold ZdY at hqr
   rw [n1,n2] at hqr
   simpa using hqr
  rw [n0] at hp4
  have hN:∀ c∈n.kids,ZgL ns c:=fun c hc=>by
   obtain ⟨j,hj⟩:=ZaB R hn hc
   have:=List.all_eq_true.mp hkd c hc
   exact ZoZ R hj (by simpa [isB,ZJ] using this)
  have ek:ZdA ns n=[(0,a),(2,[58]),(0,b),(0,Zax p)]++((if 0<r then [((0:Nat),Zej)]++ZfI q r else [])++(n.kids.map fun k=>Zbr (Za ns k)).flatten):=by
   simp [ZdA,hab,word,n0,n1,n2,Zej]
  rw [ek] at hh ⊢
  rw [List.append_assoc,List.append_assoc] at hh
  have k0:kt (Zi L s.at_)=(0,a):=hh.head
  have k1:kt (Zi L (Zc s 1).at_)=(2,[58]):=hh.tail.head
  have k2:kt (Zi L (Zc (Zc s 1) 1).at_)=(0,b):=hh.tail.tail.head
  have k3:kt (Zi L (Zc (Zc (Zc s 1) 1) 1).at_)=(0,Zax p):=hh.tail.tail.tail.head
  have h4:Zan L (Zc s 4).at_ _:=hh.right
  have hnext:∃ v vs,(n.kids.map fun k=>Zbr (Za ns k)).flatten++[u]=v::vs/\v.2≠Zej:=by
   cases hks:n.kids with
   | nil=>exact ⟨u,[],rfl,hg.not (by decide) (by decide)⟩
   | cons d r'=>
    obtain ⟨a',q',-,-,ed⟩:=ZhE (hN d (by rw [hks];simp))
    exact ⟨(0,Zc7 (ZaD ns d)),Zak [(2,[124])] ((a'::q').map fun w=>[(0,w)])++(r'.map fun k=>Zbr (Za ns k)).flatten++[u],by rw [List.map_cons,List.flatten_cons,ed];simp only [List.append_assoc,List.cons_append,List.nil_append],ZlM _⟩
  obtain ⟨v,vs,ev,hv⟩:=hnext
  have h5:=h4
  rw [ev] at h5
  have LE:=ZlN hq hr hfr (s:=Zc s 4) e0 h5 hv
  have h6:=h4.right
  obtain ⟨m,hm⟩:∃ m,m=(if 0<r then [((0:Nat),Zej)]++ZfI q r else []).length:=⟨_,rfl⟩
  rw [<- hm] at LE h6
  have h7:Zan L (Zc (Zc s 4) m).at_ ((n.kids.map fun k=>Zbr (Za ns k)).flatten++[u]):=h6
  obtain ⟨ts,l1,l2,e1,x1,A1,r2,N2,j2,H2⟩:=Zgp (f:=f) (j:=0) (by decide) (by decide) n.kids hN hri (fun c hc=>(hN c hc).which.1) (s:=Zc (Zc s 4) m) e0 h7 hg.noHead
  obtain ⟨us,m1,m2,e2,x2,A2,r3,N3,j3,H3⟩:=Zgp (f:=f) (j:=1) (by decide) (by decide) l2 N2 r2 (fun c hc=>by have:=j2 c hc;omega) (s:=Zc (Zc (Zc s 4) m) ((l1.map fun k=>Zbr (Za ns k)).flatten).length) e0 H2 hg.noHead
  obtain ⟨vs',o1,o2,e3,x3,A3,r4,N4,j4,H4⟩:=Zgp (f:=f) (j:=2) (by decide) (by decide) m2 N3 r3 (fun c hc=>by have:=j3 c hc;omega) (s:=Zc (Zc (Zc (Zc s 4) m) ((l1.map fun k=>Zbr (Za ns k)).flatten).length) ((m1.map fun k=>Zbr (Za ns k)).flatten).length) e0 H3 hg.noHead
  have e4:o2=[]:=by
   cases o2 with
   | nil=>rfl
   | cons c o=>have g1:=j4 c (by simp);have g2:=(N4 c (by simp)).which.2;omega
  subst e4
  rw [List.append_nil] at e3
  subst e3
  subst e2
  have ha:ZN a=true:=List.all_eq_true.mp hw a (by rw [hab];simp)
  have hb:ZN b=true:=List.all_eq_true.mp hw b (by rw [hab];simp)
  refine ⟨.mk 5 [a,b] (p::[q,r]) (Ze L s) (ts++us++vs'),?_,Zcx hk hab hpq ?_⟩
  ·unfold ZaC
   simp only
   rw [Zam e0 k0 ha]
   simp only
   rw [ZcO (s:=Zc s 1) e0 k1,if_pos rfl,Zah,Zam (s:=Zc (Zc s 1) 1) e0 k2 hb]
   simp only
   rw [ZiX (s:=Zc (Zc (Zc s 1) 1) 1) (.inl rfl) hp.1 hp4 e0 k3,Zk,Zk,Zk]
   simp only
   erw [LE]
   simp only
   erw [x1]
   simp only
   erw [x2]
   simp only
   erw [x3]
   simp only [Zk]
   congr 2
   rw [e1]
   simp only [List.length_append,List.map_append,List.flatten_append,List.length_cons,List.length_nil,<- hm]
   omega
  ·rw [e1]
   rw [List.append_assoc]
   exact A1.two (A2.two A3)
end
end
end Go.Proofs.YtkongcicmajolaaGreatDoor
