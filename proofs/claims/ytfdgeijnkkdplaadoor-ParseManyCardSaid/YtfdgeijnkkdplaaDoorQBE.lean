import Derived.Test.YtfdgeijnkkdplaaDoorQBD
set_option maxRecDepth 100000
set_option maxHeartbeats 8000000
namespace Go.Proofs.YtfdgeijnkkdplaaDoor
section
open Go Go.RowKit
section
variable {w0:World} {bp c:Nat} {ad:Addr} {L:List Tok}
structure LaidP (w0:World):Prop where
 signs:Zaf w0 4 Zbg
 kinds:Zaf w0 1 Zd3
 names:Zaf w0 2 Zbl
 keys:Zaf w0 3 Zs
 err:∃ tp pv,w0.var? Tryd.prog "strconv.ErrSyntax"=some #[.iface tp pv]
theorem Zfq (hL:LaidP w0):∀ (f:Nat) (d:Int),0<=d->d<=200->200<d+f->Zw w0 bp c ad L 80 #[pV bp] (Dd d) (ZG L f)
 | 0,d,h0,h200,hf=>by omega
 | f+1,d,h0,h200,hf=>by
  intro w s h hd
  have IH:d+1<=200->Zw w0 bp c ad L 80 #[pV bp] (Dd (d+1)) (ZG L f):=fun q=>Zfq hL f (d+1) (by omega) q (by omega)
  obtain ⟨tp,pv,hv⟩:=hL.err
  cases q1:isM L [40] s with
  | true=>exact Zhq w s f d h0 h200 hf h hd (fun q w s h hd=>Zfo w0 w bp c ad L s (Dd (d+1)) (ZG L f) (fun _ h=>h) (IH q) h hd hL.signs) q1
  | false=>
   cases q2:isM L [45] s with
   | true=>exact ZkI w s f d h0 h200 hf h hd IH q1 q2
   | false=>
    by_cases q3:(Zak L s).1=1
    ·exact ZkJ w s f d h0 h200 hf h hd tp pv hv q1 q2 q3
    ·exact ZiH w s f d h0 h200 hf h hd hL.keys q1 q2 q3
abbrev exP (L:List Tok):PS->Tr×PS:=Zbb L (ZG L 201)
theorem Zfn (hL:LaidP w0) (d:Int) (h0:0<=d) (h200:d<=200):Zw w0 bp c ad L 62 #[pV bp] (Dd d) (exP L):=fun w s h hd=>Zfo w0 w bp c ad L s (Dd d) (ZG L 201) (fun _ h=>h) (Zfq hL 201 d h0 h200 (by omega)) h hd hL.signs
theorem ZcZ (e:Int) (s:PS):(ZL L e s).deep=s.deep:=by unfold ZL;split<;>rfl
theorem Za1 (x:Txt) (s:PS):(Zd L x s).deep=s.deep:=by
 unfold Zd
 split
 ·rfl
 ·exact ZcZ _ _
theorem Zaj (s:PS):(Za L s).2.deep=s.deep:=by
 unfold Za
 split
 ·rfl
 ·exact ZcZ _ _
theorem ZfP (l:Int) (s:PS):(ZaH L l s).2.deep=s.deep:=by
 unfold ZaH
 split
 ·rfl
 ·exact ZcZ _ _
theorem Ze7:∀ (l:List (Int×Txt)) (s:PS),(Zz L l s).2.deep=s.deep
 | [],s=>ZcZ _ s
 | (i,w)::r,s=>by
  unfold Zz
  split
  ·rfl
  ·exact Ze7 r s
theorem Zki (s:PS):(Zas L s).2.deep=s.deep:=by
 unfold Zas
 exact (ZfP _ _).trans ((Za1 _ _).trans (ZfP _ _))
theorem Zgq:ZJ (Zas L):=fun s=>((Zcf 1 s).trans (Zq _ _)).trans (Zcf 1 _)
def ZhL (w0 wS w:World) (bp c:Nat) (ad:Addr) (L:List Tok) (s:PS):Tr->Nat->List (Nat×TypeId×Array Value)->Prop
 | .mk k ws ns at_ kids,b,xs=>Way w0 wS w bp c ad L s k ws ns at_ kids b xs
def ZS (w0 wS:World) (bp c:Nat) (ad:Addr) (L:List Tok) (b:Nat) (xs:List (Nat×TypeId×Array Value)) (R:Tr×PS) (e:Ending) (w':World):Prop:=
 FrP wS w' bp/\(R.2.err=0->e=.returned (.tuple #[])/\ZhL w0 wS w' bp c ad L R.2 R.1 b xs)/\(R.2.err≠0->e=ZaY R.2.err R.2.fat)
section
variable {wS w:World} {s:PS} {k:Int} {ws:List Txt} {ns:List Int} {at_:Int} {kids:List Tr} {b:Nat} {xs:List (Nat×TypeId×Array Value)}
theorem ZS.bad {s1:PS} {R:Tr×PS} {w':World} (hF:FrP wS w' bp) (hk:Stk s1 R.2) (hz:s1.err≠0):ZS w0 wS bp c ad L b xs R (ZaY s1.err s1.fat) w':=by
 obtain ⟨a,e⟩:=hk hz
 exact ⟨hF,fun e=>absurd (a.symm.trans e) hz,fun _=>by rw [a,e]⟩
theorem ZS.fin {R:Tr×PS} (hR:R=(.mk k ws ns at_ kids,s)) (h:Way w0 wS w bp c ad L s k ws ns at_ kids b xs):ZS w0 wS bp c ad L b xs R (.returned (.tuple #[])) w:=by
 subst hR
 exact ⟨h.F,fun _=>⟨rfl,h⟩,fun e=>absurd h.P.err e⟩
theorem Way.drop {x:Nat×TypeId×Array Value} (h:Way w0 wS w bp c ad L s k ws ns at_ kids b (x::xs)):Way w0 wS w bp c ad L s k ws ns at_ kids b xs:=by
 obtain ⟨vw,vn,vk,bs,K,X⟩:=h.X
 exact ⟨h.P,h.F,⟨vw,vn,vk,bs,K,X.ge,X.box,X.wd,X.nm,X.kd,X.kids,X.own,fun y hy=>X.ex y (.tail _ hy)⟩,h.lt⟩
theorem Way.putA (h:Way w0 wS w bp c ad L s k ws ns at_ kids b xs) (i:Nat) (hi:i<6):(∃ u,w.cell? ⟨b,i,none⟩=some u/\∀ o,(w.alloc o).cell? ⟨b,i,none⟩=some u)/\w.frozen? ⟨b,i,none⟩=false/\∀ o,(w.alloc o).frozen? ⟨b,i,none⟩=false:=by
 obtain ⟨vw,vn,vk,bs,K,X⟩:=h.X
 have T:=X.box
 obtain ⟨u,hu⟩:∃ u,(#[.int .i64 k,vw,vn,.slice none 0 0,.int .i64 at_,vk]:Array Value)[i]? = some u:=⟨_,Array.getElem?_eq_getElem (by simpa using hi)⟩
 refine ⟨⟨u,(T.blk.cell i).trans hu,fun o=>((T.keep (below_alloc1 w o)).blk.cell i).trans hu⟩,T.blk.free i,fun o=>(T.keep (below_alloc1 w o)).blk.free i⟩
end
end
end
section
section
variable {L:List Tok}
theorem Zk {x y:Txt} {s:PS} (h:isM L x s=true) (hne:x≠y):isM L y s=false:=by
 cases q:isM L y s with
 | false=>rfl
 | true=>
  unfold isM at h q
  simp only [Bool.and_eq_true,decide_eq_true_eq] at h q
  exact absurd (h.1.1.symm.trans q.1.1) hne
theorem ZbY {x:Txt} {s:PS} (h:isM L x s=true) (hk:isKey x=true):ZaO L s=false:=by
 cases q:ZaO L s with
 | false=>rfl
 | true=>
  unfold isM at h
  unfold ZaO Zbn at q
  simp only [Bool.and_eq_true,decide_eq_true_eq] at h q
  have e:=h.1.1
  rw [e,hk] at q
  have:=q.1.2.2
  cases this
theorem Zf3 {x:Txt} {s:PS} (h:s.err≠0):isM L x s=false:=by unfold isM;simp [h]
theorem Zew {x:Txt} {s:PS} (h:s.err≠0):Zd L x s=s:=by
 unfold Zd
 rw [if_neg (by rw [Zf3 h];simp)]
 unfold ZL
 rw [if_neg h]
theorem Zgm (hE:ZW L):∀ (F:Nat) (l:List Txt) (s:PS),s.at_<L.length->L.length<=F+s.at_+1->Za3 L (Za L) [124] (F+1) l s=Zbm L F (l++[(Za L s).1]) (Za L s).2
 | 0,l,s,hs,hF=>by
  have g:=ZD hE hs
  have z:¬ (Za L s).2.err=0:=fun z=>by have:=g.on z;have:=g.lt hs;omega
  show (if _ then _ else _)=_
  rw [if_neg z]
  rfl
 | F+1,l,s,hs,hF=>by
  have g:=ZD hE hs
  rw [Za3]
  by_cases z:(Za L s).2.err=0
  ·rw [if_pos z]
   cases q:isM L [124] (Za L s).2 with
   | true=>
    have hb:Zbm L (F+1) (l++[(Za L s).1]) (Za L s).2=Zbm L F (l++[(Za L s).1]++[(Za L (Zb (Za L s).2)).1]) (Za L (Zb (Za L s).2)).2:=by
     conv=>lhs;unfold Zbm
     rw [if_pos q]
    rw [if_pos rfl,hb]
    have g2:=ZU hE (g.lt hs) q
    have:=g.on z
    exact Zgm hE F _ _ (g2.lt (g.lt hs)) (by show L.length<=F+((Za L s).2.at_+1)+1;omega)
   | false=>
    rw [if_neg (by simp)]
    unfold Zbm
    rw [if_neg (by simp [q])]
  ·rw [if_neg z]
   unfold Zbm
   rw [if_neg (by rw [Zf3 z];simp)]
def Zb5 (L:List Tok) (s:PS):(Txt×Txt)×PS:=(((Za L s).1,(Za L (Za L s).2).1),(Za L (Za L s).2).2)
def Zby:List (Txt×Txt)->List Txt
 | []=>[]
 | x::r=>x.1::x.2::Zby r
theorem Zdm (x:Txt×Txt):∀ l:List (Txt×Txt),Zby (l++[x])=Zby l++[x.1,x.2]
 | []=>rfl
 | y::r=>by
  show Zby (y::(r++[x]))=_
  unfold Zby
  rw [Zdm x r]
  rfl
theorem Zfv (w:List Txt):∀ (F:Nat) (l:List (Txt×Txt)) (s:PS),s.err=0->Zb9 L F (w++Zby l) s=(w++Zby (Za3 L (Zb5 L) [44] F l s).1,(Za3 L (Zb5 L) [44] F l s).2)
 | 0,l,s,_=>rfl
 | F+1,l,s,he=>by
  rw [Zb9,if_pos he,Za3]
  dsimp only
  have e1:w++Zby l++[(Za L s).1,(Za L (Za L s).2).1]=w++Zby (l++[(Zb5 L s).1]):=by rw [Zdm,List.append_assoc];rfl
  have e2:(Za L (Za L s).2).2=(Zb5 L s).2:=rfl
  rw [e1,e2]
  by_cases z:(Zb5 L s).2.err=0
  ·rw [if_pos z]
   cases q:isM L [44] (Zb5 L s).2 with
   | true=>
    rw [if_pos rfl,if_pos rfl]
    exact Zfv w F _ _ z
   | false=>rw [if_neg (by simp),if_neg (by simp)]
  ·rw [if_neg z,if_neg (by rw [Zf3 z];simp)]
def Zbh {α:Type} (a b:α×PS):Prop:=a.2.err=b.2.err/\a.2.fat=b.2.fat/\(a.2.err=0->a=b)
theorem ZeM (hE:ZW L) {M:PS->Tr×PS} {d:Int} (hS:ZJ M) (hM:∀ s,s.deep=d->s.at_<L.length->s.err=0->Gon L s (M s).2):∀ (F:Nat) (l:List Tr) (s:PS),s.at_<L.length->s.deep=d->s.err=0->L.length<=F+s.at_+1 ->
  Zbh ((Za3 L M [44] (F+1) l s).1,Zd L [41] (Za3 L M [44] (F+1) l s).2) (Zr L M F false (l++[(M s).1]) (M s).2)
 | F,l,s,hs,hd,he,hF=>by
  have g:=hM s hd hs he
  have h0:(M s).2.err=0->∃ F',F=F'+1:=fun z=>by
   have:=g.on z
   have:=g.lt hs
   exact ⟨F-1,by omega⟩
  rw [Za3]
  by_cases z:(M s).2.err=0
  ·obtain ⟨F',rfl⟩:=h0 z
   rw [if_pos z]
   have hc:Zr L M (F'+1) false (l++[(M s).1]) (M s).2=if isM L [41] (M s).2 then (l++[(M s).1],Zb (M s).2) else Zr L M F' false (l++[(M s).1]++[(M (Zd L [44] (M s).2)).1]) (M (Zd L [44] (M s).2)).2:=by
    conv=>lhs;unfold Zr
    rw [if_pos z]
    rfl
   rw [hc]
   cases q:isM L [44] (M s).2 with
   | true=>
    have hw:Zd L [44] (M s).2=Zb (M s).2:=by unfold Zd;rw [if_pos q]
    rw [if_pos rfl,if_neg (by rw [Zk q (by decide)];simp),hw]
    have g2:=ZU hE (g.lt hs) q
    have:=g.on z
    exact ZeM hE hS hM F' _ _ (g2.lt (g.lt hs)) (show (M s).2.deep=d from g.deep.trans hd) z (by show L.length<=F'+((M s).2.at_+1)+1;omega)
   | false=>
    rw [if_neg (by simp)]
    dsimp only
    have hw:Zd L [44] (M s).2=ZL L 11 (M s).2:=by unfold Zd;rw [if_neg (by simp [q])]
    have hf:ZL L 11 (M s).2={ (M s).2 with err:=11,fat:=(Zx L (M s).2.at_).2.2 }:=by unfold ZL;rw [if_pos z]
    cases q2:isM L [41] (M s).2 with
    | true=>
     rw [if_pos rfl]
     have hw2:Zd L [41] (M s).2=Zb (M s).2:=by unfold Zd;rw [if_pos q2]
     rw [hw2]
     exact ⟨rfl,rfl,fun _=>rfl⟩
    | false=>
     have hw2:Zd L [41] (M s).2=ZL L 11 (M s).2:=by unfold Zd;rw [if_neg (by simp [q2])]
     rw [if_neg (by simp),hw,hw2]
     have k1:=hS (ZL L 11 (M s).2)
     have k:=k1.trans (ZaZ (L:=L) hS F' false (l++[(M s).1]++[(M (ZL L 11 (M s).2)).1]) (M (ZL L 11 (M s).2)).2)
     have hn:(ZL L 11 (M s).2).err≠0:=by rw [hf];show ¬ (11:Int)=0;decide
     obtain ⟨k2,k3⟩:=k hn
     exact ⟨k2.symm,k3.symm,fun e=>absurd e hn⟩
  ·rw [if_neg z]
   dsimp only
   rw [Zew z]
   have hc:Zr L M F false (l++[(M s).1]) (M s).2=(l++[(M s).1],(M s).2):=by
    cases F with
    | zero=>rfl
    | succ F=>unfold Zr;rw [if_neg z]
   rw [hc]
   exact ⟨rfl,rfl,fun _=>rfl⟩
end
end
end Go.Proofs.YtfdgeijnkkdplaaDoor
