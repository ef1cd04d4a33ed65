import Derived.Lib.ItoaLen
import Derived.Test.YtkongcicmajolaaGreatDoorQAB
import Derived.Test.YtkongcicmajolaaGreatDoorQAE
import Derived.Test.YtkongcicmajolaaGreatDoorQAN
set_option maxRecDepth 100000
set_option maxHeartbeats 8000000
namespace Go.Proofs.YtkongcicmajolaaGreatDoor
section
def runT:UInt8->Txt->Option UInt8
 | p,[]=>some p
 | p,c::r=>if c=9\/127<=c\/(c=10/\(p=32\/p=10)) then none else runT c r
theorem Zhb:∀ (a b:Txt) (p:UInt8),runT p (a++b)=(runT p a).bind fun q=>runT q b
 | [],_,_=>rfl
 | c::r,b,p=>by
  rw [List.cons_append,runT,runT]
  split
  ·rfl
  ·exact Zhb r b c
def Any (x:Txt):Prop:=∀ p,∃ q,runT p x=some q
def Ends (x:Txt):Prop:=∀ p,∃ q,runT p x=some q/\33<=q
theorem Ends.any {x:Txt} (h:Ends x):Any x:=fun p=>by
 obtain ⟨q,h,_⟩:=h p
 exact ⟨q,h⟩
theorem any_nil:Any []:=fun p=>⟨p,rfl⟩
theorem Any.app {x y:Txt} (h:Any x) (k:Any y):Any (x++y):=fun p=>by
 obtain ⟨q,h⟩:=h p
 obtain ⟨r,k⟩:=k q
 exact ⟨r,by rw [Zhb,h];exact k⟩
theorem Any.ends {x y:Txt} (h:Any x) (k:Ends y):Ends (x++y):=fun p=>by
 obtain ⟨q,h⟩:=h p
 obtain ⟨r,k,v⟩:=k q
 exact ⟨r,by rw [Zhb,h];exact k,v⟩
theorem Ends.line {x:Txt} (h:Ends x):Any (x++[10]):=fun p=>by
 obtain ⟨q,h,v⟩:=h p
 refine ⟨10,?_⟩
 rw [Zhb,h]
 show runT q [10]=some 10
 have a:q≠32:=fun e=>by rw [e] at v;exact absurd v (by decide)
 have b:q≠10:=fun e=>by rw [e] at v;exact absurd v (by decide)
 simp [runT,a,b]
def Zi4 (c:UInt8):Bool:=decide (32<=c)&&decide (c<127)
def Words (ns:List Nd):Prop:=∀ n∈ns,∀ w∈n.words,w.all Zi4=true
end
section
open Go.RowKit
theorem ZoS {c:UInt8} (h:Za3 c=true):Zi4 c=true:=by
 have all:∀ k:Fin 256,Za3 (UInt8.ofNat k.val)=true->Zi4 (UInt8.ofNat k.val)=true:=by decide +kernel
 have:=all ⟨c.toNat,c.toNat_lt⟩
 simp only [UInt8.ofNat_toNat] at this
 exact this h
theorem ZiA {f:UInt8->Bool}:∀ (l:List UInt8),Zap f l=l.length->l.all f=true
 | [],_=>rfl
 | c::r,h=>by
  unfold Zap at h
  rw [List.all_cons]
  cases hc:f c
  ·simp [hc] at h
  ·simp [hc] at h ⊢
   simpa using ZiA r h
theorem Znx {w:Txt} (h:ZN w=true):w.all Zi4=true/\w.length<=16:=by
 unfold ZN at h
 simp only [Bool.and_eq_true,decide_eq_true_eq] at h
 obtain ⟨⟨⟨_,h16⟩,hs⟩,_⟩:=h
 refine ⟨List.all_eq_true.mpr fun c hc=>ZoS (List.all_eq_true.mp (ZiA _ hs) c hc),h16⟩
end
section
abbrev TS:=List (Nat×Txt)
def kt (t:Tok):Nat×Txt:=(t.1,t.2.1)
def Za4 (c:UInt8):Bool:=!Za3 c&&!(c==61)&&!(c==62)
def Za1 (c:UInt8):Bool:=!(c==61)&&!(c==62)
def ZcN (_:UInt8):Bool:=true
theorem Zbw {c:UInt8} (h:Za4 c=true):Za1 c=true:=by
 unfold Za4 at h
 unfold Za1
 simp only [Bool.and_eq_true] at h ⊢
 exact ⟨h.1.2,h.2⟩
def Lx (x:Txt) (us:TS) (o:UInt8->Bool):Prop:=∀ (rest:Txt) (a:Nat),(∀ c r,rest=c::r->o c=true)->∃ ms:List Tok,ms.map kt=us/\Zbx (x++rest) a=(Zbx rest (a+x.length)).pre ms
theorem Lx.nil (o:UInt8->Bool):Lx [] [] o:=fun rest a _=>⟨[],rfl,by rw [LexAns.pre_nil];rfl⟩
theorem Lx.less {x:Txt} {us:TS} {o o2:UInt8->Bool} (h:Lx x us o) (k:∀ c,o2 c=true->o c=true):Lx x us o2:=fun rest a hr=>h rest a fun c r e=>k c (hr c r e)
theorem LexAns.pre_pre (x:LexAns) (us vs:List Tok):(x.pre vs).pre us=x.pre (us++vs):=by
 cases x with
 | bad a=>rfl
 | ok l=>simp [LexAns.pre]
theorem Lx.app {x y:Txt} {us vs:TS} {o o2:UInt8->Bool} (h:Lx x us o) (k:Lx y vs o2) (hd:∀ c r,y=c::r->o c=true) (he:y=[]->∀ c,o2 c=true->o c=true):Lx (x++y) (us++vs) o2:=fun rest a hr=>by
 obtain ⟨m2,e2,q2⟩:=k rest (a+x.length) hr
 obtain ⟨m1,e1,q1⟩:=h (y++rest) a (fun c r e=>by
  cases y with
  | nil=>exact he rfl c (hr c r e)
  | cons d s=>
   injection e with e1 e2
   subst e1
   exact hd d s rfl)
 refine ⟨m1++m2,by rw [List.map_append,e1,e2],?_⟩
 rw [List.append_assoc,q1,q2,LexAns.pre_pre,List.length_append,Nat.add_assoc]
def Tx (x:Txt) (us:TS) (h o:UInt8->Bool):Prop:=Lx x us o/\∃ c r,x=c::r/\h c=true
theorem Tx.app {x y:Txt} {us vs:TS} {h o h2 o2:UInt8->Bool} (a:Tx x us h o) (b:Tx y vs h2 o2) (k:∀ c,h2 c=true->o c=true):Tx (x++y) (us++vs) h o2:=by
 obtain ⟨c,r,rfl,hc⟩:=a.2
 obtain ⟨d,s,rfl,hd⟩:=b.2
 exact ⟨a.1.app b.1 (fun c r e=>by injection e with e1;subst e1;exact k _ hd) (fun e=>nomatch e),c,r++d::s,rfl,hc⟩
theorem Tx.opt {x y:Txt} {us vs:TS} {h o o2:UInt8->Bool} (a:Tx x us h o) (b:Lx y vs o2) (hd:∀ c r,y=c::r->o c=true) (he:∀ c,o2 c=true->o c=true):Tx (x++y) (us++vs) h o2:=by
 obtain ⟨c,r,rfl,hc⟩:=a.2
 exact ⟨a.1.app b hd (fun _=>he),c,r++y,rfl,hc⟩
theorem Tx.head {x:Txt} {us:TS} {h h2 o:UInt8->Bool} (a:Tx x us h o) (k:∀ c,h c=true->h2 c=true):Tx x us h2 o:=by
 obtain ⟨c,r,e,hc⟩:=a.2
 exact ⟨a.1,c,r,e,k c hc⟩
theorem Tx.less {x:Txt} {us:TS} {h o o2:UInt8->Bool} (a:Tx x us h o) (k:∀ c,o2 c=true->o c=true):Tx x us h o2:=⟨a.1.less k,a.2⟩
theorem Zly {c:UInt8} (hb:ZdZ c=true) {h:UInt8->Bool} (hc:h c=true):Tx [c] [] h ZcN:=
 ⟨fun rest a _=>⟨[],rfl,by rw [LexAns.pre_nil];exact Zk7 hb⟩,c,[],rfl,hc⟩
theorem ZjC {x rest:Txt} {c:UInt8} {q:Txt} {a k:Nat} (hx:x=c::q) (hf:ZaJ (c::(q++rest))=(k,x.length,true)):Zbx (x++rest) a=(Zbx rest (a+x.length)).pre [(k,x,a)]:=by
 subst hx
 have hnb:=ZkP (r:=q++rest) (c:=c) (by rw [hf])
 have b0:ZO (c::(q++rest))=0:=ZgO hnb.1 hnb.2
 have hd:(c::(q++rest)).drop (ZO (c::(q++rest)))=c::(q++rest):=by rw [b0];rfl
 rw [List.cons_append,Ze8 hd (by rw [hf]),hf,b0]
 dsimp only
 have e1:(c::(q++rest)).drop (c::q).length=rest:=by rw [<- List.cons_append,List.drop_left]
 have e2:(c::(q++rest)).take (c::q).length=c::q:=by rw [<- List.cons_append,List.take_left]
 rw [e1,e2]
 cases Zbx rest (a+0+(c::q).length)<;>rfl
theorem ZrO {c:UInt8} (h:Za4 c=true):Za3 c=false/\ZaU c=false/\c≠61/\c≠62:=by
 unfold Za4 at h
 simp only [Bool.and_eq_true,Bool.not_eq_true',beq_eq_false_iff_ne] at h
 refine ⟨h.1.1,?_,h.1.2,h.2⟩
 have:=h.1.1
 unfold Za3 at this
 unfold ZaU
 rw [Bool.or_eq_false_iff] at this
 exact this.2
theorem ZpG {c:UInt8} {q:Txt} {k:Nat} (hf:ZaJ (c::q)=(k,(c::q).length,true)) {h:UInt8->Bool} (hc:h c=true):Tx (c::q) [(k,c::q)] h Za4:=by
 refine ⟨fun rest a hr=>⟨[(k,c::q,a)],rfl,ZjC rfl ?_⟩,c,q,rfl,hc⟩
 cases rest with
 | nil=>rw [List.append_nil];exact hf
 | cons d s=>
  obtain ⟨h1,h2,h3,h4⟩:=ZrO (hr d s rfl)
  have:=Znk h1 h2 h3 h4 s c q
  rw [List.cons_append] at this
  rw [this]
  exact hf
theorem ZhP {p:UInt8->Bool}:∀ (l:Txt),l.all p=true->Zap p l=l.length
 | [],_=>rfl
 | c::r,h=>by
  rw [List.all_cons,Bool.and_eq_true] at h
  rw [ZcH,if_pos h.1,ZhP r h.2]
  rfl
theorem Zm2 {c:UInt8} {q:Txt} (h1:ZbS c=true) (h2:(c::q).all Za3=true):Tx (c::q) [(0,c::q)] Za1 Za4:=
 ZpG (by rw [ZbT,if_pos h1,ZhP _ h2]) (by
  have n1:c≠61:=fun e=>by subst e;exact absurd h1 (by decide)
  have n2:c≠62:=fun e=>by subst e;exact absurd h1 (by decide)
  simp [Za1,n1,n2])
theorem Zfc {w:Txt} (h:ZN w=true):Tx w [(0,w)] Za1 Za4:=by
 unfold ZN at h
 simp only [Bool.and_eq_true,decide_eq_true_eq] at h
 obtain ⟨⟨⟨h1,_⟩,hs⟩,_⟩:=h
 cases w with
 | nil=>cases h1
 | cons c q=>exact Zm2 h1 (ZiA _ hs)
theorem Zsp {c:UInt8} {q:Txt} (h2:(c::q).all ZaU=true) (h3:(c::q).length<=18):Tx (c::q) [(1,c::q)] Za1 Za4:=by
 have hd:ZaU c=true:=by
  rw [List.all_cons,Bool.and_eq_true] at h2
  exact h2.1
 have nl:ZbS c=false:=by
  cases e:ZbS c with
  | false=>rfl
  | true=>
   unfold ZbS Zga at e
   unfold ZaU Zfy at hd
   simp at e hd
   omega
 exact ZpG (by rw [ZbT,if_neg (by simp [nl]),if_pos hd,ZhP _ h2,decide_eq_true h3]) (by
  have n1:c≠61:=fun e=>by subst e;exact absurd hd (by decide)
  have n2:c≠62:=fun e=>by subst e;exact absurd hd (by decide)
  simp [Za1,n1,n2])
theorem Zdc {c:UInt8} (h:c∈Zcc) {p:UInt8->Bool} (hp:p c=true):Tx [c] [(2,[c])] p Za1:=by
 refine ⟨fun rest a hr=>⟨[(2,[c],a)],rfl,ZjC rfl ?_⟩,c,[],rfl,hp⟩
 have all:∀ d∈Zcc,ZbS d=false/\ZaU d=false:=by decide
 obtain ⟨n1,n2⟩:=all c h
 rw [List.nil_append,ZbT,if_neg (by simp [n1]),if_neg (by simp [n2]),Zez]
 cases rest with
 | nil=>rw [if_neg (by simp),if_pos h];rfl
 | cons d s=>
  have hd:=hr d s rfl
  unfold Za1 at hd
  simp only [Bool.and_eq_true,Bool.not_eq_true',beq_eq_false_iff_ne] at hd
  rw [if_neg (by simp [hd.1,hd.2]),if_pos h]
  rfl
theorem ZpH {c d:UInt8} (h:(c=61/\d=61)\/(c=45/\d=62)) {p:UInt8->Bool} (hp:p c=true):Tx [c,d] [(2,[c,d])] p ZcN:=by
 refine ⟨fun rest a _=>⟨[(2,[c,d],a)],rfl,ZjC rfl ?_⟩,c,[d],rfl,hp⟩
 rcases h with ⟨rfl,rfl⟩ | ⟨rfl,rfl⟩
 ·rw [ZbT,if_neg (by decide),if_neg (by decide),Zez];rfl
 ·rw [ZbT,if_neg (by decide),if_neg (by decide),Zez];rfl
end
section
def Zdz (c:UInt8):Bool:=c==32||c==10
theorem Zcs {c:UInt8} (h:Zdz c=true):Za4 c=true:=by
 unfold Zdz at h
 simp only [Bool.or_eq_true,beq_iff_eq] at h
 rcases h with rfl | rfl<;>decide
theorem ZeC {c:UInt8} (h:Zdz c=true):Za1 c=true:=Zbw (Zcs h)
theorem ZU {p:UInt8->Bool}:∀ c,p c=true->ZcN c=true:=fun _ _=>rfl
theorem ZbX {p:UInt8->Bool}:∀ c,p c=true->p c=true:=fun _ h=>h
theorem Zdx:Tx [32] [] Zdz ZcN:=Zly (by decide) (by decide)
theorem Zq3:Tx [10] [] Zdz ZcN:=Zly (by decide) (by decide)
theorem Tx.sp {x:Txt} {us:TS} {h:UInt8->Bool} (a:Tx x us h Za4):Tx (x++[32]) us h ZcN:=by
 have:=a.app Zdx fun c=>Zcs
 simpa using this
theorem Zm0:Tx [59] [(2,[59])] Za4 Za1:=Zdc (by decide) (by decide)
theorem Tx.semi {x:Txt} {us:TS} {h:UInt8->Bool} (a:Tx x us h Za4):Tx (x++[59]) (us++[(2,[59])]) h Za1:=a.app Zm0 ZbX
theorem ZjL:Tx [40] [(2,[40])] Za4 Za1:=Zdc (by decide) (by decide)
theorem Zhd:Tx [41] [(2,[41])] Za4 Za1:=Zdc (by decide) (by decide)
theorem ZqS:Tx [45] [(2,[45])] Za1 Za1:=Zdc (by decide) (by decide)
theorem ZeO {c:UInt8} (h:c∈Zcc):Tx [32,c,32] [(2,[c])] Zdz ZcN:=by
 have h1:Tx [c] [(2,[c])] ZcN Za1:=Zdc h rfl
 have:=(Zdx.app h1 ZU).app Zdx fun c=>ZeC
 simpa using this
theorem Zkv {w:Txt} {c:UInt8} {q:Txt} (e:w=c::q) (h1:ZbS c=true) (h2:(c::q).all Za3=true):Tx w [(0,w)] Za1 Za4:=by
 subst e
 exact Zm2 h1 h2
theorem ZiG:∀ (k u:Nat),u<10 ^ (k+1)->(Lib.decDigits u).all ZaU=true/\(Lib.decDigits u).length<=k+1/\Lib.decDigits u≠[]
 | k,u,hu=>by
  rw [Lib.decDigits]
  split
  ·rename_i h
   have:u=0\/u=1\/u=2\/u=3\/u=4\/u=5\/u=6\/u=7\/u=8\/u=9:=by omega
   refine ⟨?_,by simp,by simp⟩
   rcases this with rfl | rfl | rfl | rfl | rfl | rfl | rfl | rfl | rfl | rfl<;>decide
  ·rename_i h
   cases k with
   | zero=>simp at hu;omega
   | succ k=>
    have hq:u / 10<10 ^ (k+1):=by
     rw [Nat.pow_succ] at hu
     omega
    obtain ⟨i1,i2,i3⟩:=ZiG k (u / 10) hq
    have hm:u % 10<10:=Nat.mod_lt _ (by decide)
    have:u % 10=0\/u % 10=1\/u % 10=2\/u % 10=3\/u % 10=4\/u % 10=5\/u % 10=6\/u % 10=7\/u % 10=8\/u % 10=9:=by omega
    refine ⟨?_,by simp only [List.length_append,List.length_cons,List.length_nil];omega,by simp⟩
    rw [List.all_append,i1]
    rcases this with e | e | e | e | e | e | e | e | e | e<;>rw [e]<;>decide
theorem Zlz {n:Int} (h:ZaI n):Tx (ZbP n) [(1,ZbP n)] Za1 Za4:=by
 unfold ZaI at h
 obtain ⟨u,rfl⟩:=Int.eq_ofNat_of_zero_le h.1
 have e:ZbP (u:Int)=Lib.decDigits u:=by
  unfold ZbP Lib.itoa
  rw [if_neg (by omega)]
  congr 1
 obtain ⟨h1,h2,h3⟩:=ZiG 17 u (by omega)
 rw [e]
 cases hd:Lib.decDigits u with
 | nil=>exact absurd hd h3
 | cons c q=>
  rw [hd] at h1 h2
  exact Zsp h1 h2
def Zak (s:TS):List TS->TS
 | []=>[]
 | [x]=>x
 | x::y::r=>x++s++Zak s (y::r)
theorem ZhS {α:Type} {F:α->Txt} {G:α->TS} {s:Txt} {sk:TS} {h o hs os:UInt8->Bool} (hS:Tx s sk hs os) (k1:∀ c,hs c=true->o c=true) (k2:∀ c,h c=true->os c=true):∀ (l:List α),l≠[]->(∀ a∈l,Tx (F a) (G a) h o)->Tx (Zal s (l.map F)) (Zak sk (l.map G)) h o
 | [],e,_=>absurd rfl e
 | [a],_,ha=>ha a (by simp)
 | a::b::r,_,ha=>((ha a (by simp)).app hS k1).app (ZhS hS k1 k2 (b::r) (by simp) fun x hx=>ha x (by simp [hx])) k2
theorem ZoX (d:Nat):Lx (Zdi d) [] ZcN:=by
 unfold Zdi
 generalize 2*d=m
 induction m with
 | zero=>exact Lx.nil _
 | succ m ih=>
  have:Lx ([32]++List.replicate m 32) ([]++[]) ZcN:=Zdx.1.app ih (fun _ _ _=>rfl) (fun _ _ _=>rfl)
  exact this
theorem Zio {α:Type} {F:α->Txt} {G:α->TS} (d:Nat):∀ (l:List α),(∀ a∈l,Tx (F a) (G a) Za1 Za4)->Lx (Zbq d (l.map F)) (l.map G).flatten ZcN
 | [],_=>Lx.nil _
 | a::r,h=>by
  have h1:Lx (Zdi d++F a) ([]++G a) Za4:=(ZoX d).app (h a (by simp)).1 (fun _ _ _=>rfl) (fun _ _ _=>rfl)
  have h2:Lx (Zdi d++F a++[10]) ([]++G a++[]) ZcN:=h1.app Zq3.1 (fun c r e=>by injection e with e1;subst e1;decide) (fun e=>nomatch e)
  have h3:=h2.app (Zio d r fun x hx=>h x (by simp [hx])) (fun _ _ _=>rfl) (fun _ _ _=>rfl)
  have e1:Zbq d ((a::r).map F)=Zdi d++F a++[10]++Zbq d (r.map F):=by unfold Zbq;simp
  rw [e1]
  simpa using h3
def Zaw (ls:List TS):TS:=[(2,[123])]++ls.flatten++[(2,[125])]
theorem Zgt {α:Type} {F:α->Txt} {G:α->TS} (d:Nat) (l:List α) (h:∀ a∈l,Tx (F a) (G a) Za1 Za4):Tx (ZI d (l.map F)) (Zaw (l.map G)) Zdz Za1:=by
 have o1:Tx [123] [(2,[123])] ZcN Za1:=Zdc (by decide) rfl
 have o2:Tx [125] [(2,[125])] ZcN Za1:=Zdc (by decide) rfl
 cases l with
 | nil=>
  have:=((Zdx.app o1 ZU).app Zdx fun c=>ZeC).app o2 ZU
  simpa [ZI,Zaw] using this
 | cons a r=>
  have h1:=(Zdx.app o1 ZU).app Zq3 fun c=>ZeC
  have h2:=(Zio (d+1) (a::r) h).app (ZoX d) (fun _ _ _=>rfl) (fun _ _ _=>rfl)
  have h3:=h2.app o2.1 (fun _ _ _=>rfl) (fun e=>nomatch e)
  have h4:=h1.opt h3 (fun _ _ _=>rfl) (fun _ _=>rfl)
  have e1:ZI d ((a::r).map F)=[32]++[123]++[10]++(Zbq (d+1) ((a::r).map F)++Zdi d++[125]):=by simp [ZI]
  rw [e1]
  have e2:Zaw ((a::r).map G)=[]++[(2,[123])]++[]++(((a::r).map G).flatten++[]++[(2,[125])]):=by simp [Zaw]
  rw [e2]
  exact h4
def ZhZ (k:Int):TS:=if k=0 then [(2,[60])] else if k=1 then [(2,[61,61])] else if k=2 then [(2,[43])] else if k=3 then [(2,[45])] else if k=4 then [(2,[42])] else [(2,[47])]
theorem ZqU (k:Int):Tx (Zbi k) (ZhZ k) Zdz ZcN:=by
 unfold Zbi ZhZ
 have e2:Tx [61,61] [(2,[61,61])] ZcN ZcN:=ZpH (.inl ⟨rfl,rfl⟩) rfl
 have:=(Zdx.app e2 ZU).app Zdx ZU
 split
 ·exact ZeO (by decide)
 split
 ·simpa using this
 split
 ·exact ZeO (by decide)
 split
 ·exact ZeO (by decide)
 split
 ·exact ZeO (by decide)
 ·exact ZeO (by decide)
def ZS (ns:List Nd):Nat->Nd->TS
 | 0,_=>[]
 | f+1,n=>
  let op:=fun (m:Nd) (least:Nat)=>if least<=Zu m then ZS ns f m else [(2,[40])]++ZS ns f m++[(2,[41])]
  if n.kind=20 then [(1,ZbP (num n 0))]
  else if n.kind=21 then [(0,word n 0)]
  else if n.kind=23 then [(2,[45])]++op (Zw ns n 0) 3
  else if n.kind=22 then op (Zw ns n 0) (max (Zu n) 1)++ZhZ (num n 0)++op (Zw ns n 1) (Zu n+1)
  else []
theorem ZgF {ns:List Nd} (R:RightP ns) {i:Nat} {d:Nd} (hd:ns[i]? = some d) {k:Nat} {s:Txt} (h:d.words[k]? = some s):ZN s=true:=List.all_eq_true.mp (R.node i d hd).1 s (List.mem_of_getElem? h)
theorem ZaB {ns:List Nd} (R:RightP ns) {i:Nat} {d:Nd} (hd:ns[i]? = some d) {k:Int} (hk:k∈d.kids):∃ j:Nat,ns[j]? = some (Za ns k):=by
 obtain ⟨m,e,rfl,_,_,h3,h4,_⟩:=Zf8 R hd hk
 exact ⟨m,by rw [h4];exact h3⟩
theorem Za2 {ns:List Nd} {d:Nd} {m:Nat} {k:Int} (hk:d.kids[m]? = some k):Zw ns d m=Za ns k:=by
 unfold Zw atI
 rw [Int.toNat_natCast,hk]
 rfl
theorem Zh1 {ns:List Nd} (R:RightP ns):∀ (f i:Nat) (n:Nd),ns[i]? = some n->ZP ns f n->Tx (Zx ns f n) (ZS ns f n) Za1 Za4
 | 0,_,_,_,h=>h.elim
 | f+1,i,n,hn,h=>by
  have op:∀ (m:Nat) (k:Int) (l:Nat),n.kids[m]? = some k->ZP ns f (Za ns k)->Tx (if l<=Zu (Zw ns n m) then Zx ns f (Zw ns n m) else [40]++Zx ns f (Zw ns n m)++[41]) (if l<=Zu (Zw ns n m) then ZS ns f (Zw ns n m) else [(2,[40])]++ZS ns f (Zw ns n m)++[(2,[41])]) Za1 Za4:=fun m k l hk hv=>by
   obtain ⟨j,hj⟩:=ZaB R hn (List.mem_of_getElem? hk)
   rw [Za2 hk]
   have e:=Zh1 R f j _ hj hv
   split
   ·exact e
   ·have:=(ZjL.app e ZbX).app Zhd ZbX
    exact (this.head fun c=>Zbw).less fun c=>Zbw
  obtain ⟨hb,⟨hk,v,r,hv,h0,h1⟩ | ⟨hk,s,r,hs⟩ | ⟨hk,k,hi,hkn,hv⟩ | ⟨hk,j,k,hi,hjn,hv,hi2,hkn,hv2⟩⟩:=h
  ·have e:Zx ns (f+1) n=ZbP (num n 0):=by simp [Zx,hk]
   have e2:ZS ns (f+1) n=[(1,ZbP (num n 0))]:=by simp [ZS,hk]
   rw [e,e2]
   have e3:num n 0=v:=by unfold num;rw [hv];rfl
   rw [e3]
   exact Zlz (ZaR (R.node i n hn).2.1 (by rw [hv];simp))
  ·have e:Zx ns (f+1) n=word n 0:=by simp [Zx,hk]
   have e2:ZS ns (f+1) n=[(0,word n 0)]:=by simp [ZS,hk]
   rw [e,e2]
   have e3:word n 0=s:=by unfold word;rw [hs];rfl
   rw [e3]
   exact Zfc (ZgF R hn (k:=0) (by rw [hs];rfl))
  ·have h1:=op 0 k 3 hi hv
   have e:Zx ns (f+1) n=[45]++(if 3<=Zu (Zw ns n 0) then Zx ns f (Zw ns n 0) else [40]++Zx ns f (Zw ns n 0)++[41]):=by simp [Zx,hk]
   have e2:ZS ns (f+1) n=[(2,[45])]++(if 3<=Zu (Zw ns n 0) then ZS ns f (Zw ns n 0) else [(2,[40])]++ZS ns f (Zw ns n 0)++[(2,[41])]):=by simp [ZS,hk]
   rw [e,e2]
   exact ZqS.app h1 ZbX
  ·have h1:=op 0 j (max (Zu n) 1) hi hv
   have h2:=op 1 k (Zu n+1) hi2 hv2
   have e:Zx ns (f+1) n=(if max (Zu n) 1<=Zu (Zw ns n 0) then Zx ns f (Zw ns n 0) else [40]++Zx ns f (Zw ns n 0)++[41])++Zbi (num n 0)++(if Zu n+1<=Zu (Zw ns n 1) then Zx ns f (Zw ns n 1) else [40]++Zx ns f (Zw ns n 1)++[41]):=by simp [Zx,hk]
   have e2:ZS ns (f+1) n=(if max (Zu n) 1<=Zu (Zw ns n 0) then ZS ns f (Zw ns n 0) else [(2,[40])]++ZS ns f (Zw ns n 0)++[(2,[41])])++ZhZ (num n 0)++(if Zu n+1<=Zu (Zw ns n 1) then ZS ns f (Zw ns n 1) else [(2,[40])]++ZS ns f (Zw ns n 1)++[(2,[41])]):=by simp [ZS,hk]
   rw [e,e2]
   exact (h1.app (ZqU _) fun c=>Zcs).app h2 ZU
end
end Go.Proofs.YtkongcicmajolaaGreatDoor
