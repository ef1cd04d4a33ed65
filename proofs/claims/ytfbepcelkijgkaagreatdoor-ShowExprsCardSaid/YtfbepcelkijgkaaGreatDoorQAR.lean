import Derived.Lib.ItoaLen
import Derived.Test.YtfbepcelkijgkaaGreatDoorQAQ
set_option maxRecDepth 100000
set_option maxHeartbeats 8000000
namespace Go.Proofs.YtfbepcelkijgkaaGreatDoor
section
def Zh1 (c:UInt8):Bool:=c==32||c==10
theorem Zi5 {c:UInt8} (h:Zh1 c=true):ZdI c=true:=by
 unfold Zh1 at h;simp only[Bool.or_eq_true,beq_iff_eq]at h;rcases h with rfl|rfl<;>decide
theorem ZhC {c:UInt8} (h:Zh1 c=true):ZcN c=true:=ZhK (Zi5 h)
theorem Zdx {p:UInt8->Bool}:∀c,p c=true->Zew c=true:=fun _ _=>rfl
theorem ZfU {p:UInt8->Bool}:∀c,p c=true->p c=true:=fun _ h=>h
theorem Zf9:Tx [32] [] Zh1 Zew:=ZqA (by decide) (by decide)
theorem Tx.sp {x:Txt} {us:TS} {h:UInt8->Bool} (a:Tx x us h ZdI):Tx (x++[32]) us h Zew:=by have:=a.app Zf9 fun c=>Zi5;simpa using this
theorem ZrG:Tx [59] [(2,[59])] ZdI ZcN:=ZeV (by decide) (by decide)
theorem Tx.semi {x:Txt} {us:TS} {h:UInt8->Bool} (a:Tx x us h ZdI):Tx (x++[59]) (us++[(2,[59])]) h ZcN:=a.app ZrG ZfU
theorem ZmJ:Tx [40] [(2,[40])] ZdI ZcN:=ZeV (by decide) (by decide)
theorem Zlh:Tx [41] [(2,[41])] ZdI ZcN:=ZeV (by decide) (by decide)
theorem ZqB:Tx [45] [(2,[45])] ZcN ZcN:=ZeV (by decide) (by decide)
theorem Zfb {c:UInt8} (h:c∈ZbT):Tx [32,c,32] [(2,[c])] Zh1 Zew:=by have a:Tx [c] [(2,[c])] Zew ZcN:=ZeV h rfl;have:=(Zf9.app a Zdx).app Zf9 fun c=>ZhC;simpa using this
theorem Zsm {w:Txt} {c:UInt8} {q:Txt} (e:w=c::q) (a:ZbN c=true) (b:(c::q).all ZaW=true):Tx w [(0,w)] ZcN ZdI:=by subst e;exact ZmK a b
theorem Zim:∀(k u:Nat),u<10 ^ (k+1)->(Lib.decDigits u).all Zbi=true/\(Lib.decDigits u).length<=k+1/\Lib.decDigits u≠[]
 |k,u,hu=>by
  rw[Lib.decDigits]
  split
  ·rename_i h
   have:u=0\/u=1\/u=2\/u=3\/u=4\/u=5\/u=6\/u=7\/u=8\/u=9:=by omega
   refine⟨?_,by simp,by simp⟩;rcases this with rfl|rfl|rfl|rfl|rfl|rfl|rfl|rfl|rfl|rfl<;>decide
  ·rename_i h
   cases k with
   |zero=>simp at hu;omega
   |succ k=>
    have hq:u / 10<10 ^ (k+1):=by rw[Nat.pow_succ]at hu;omega
    obtain⟨a,i2,i3⟩:=Zim k (u / 10) hq;have hm:u % 10<10:=Nat.mod_lt _ (by decide);have:u % 10=0\/u % 10=1\/u % 10=2\/u % 10=3\/u % 10=4\/u % 10=5\/u % 10=6\/u % 10=7\/u % 10=8\/u % 10=9:=by omega
    refine⟨?_,by simp only[Yj,Yk,Yl];omega,by simp⟩;rw[List.all_append,a];rcases this with e|e|e|e|e|e|e|e|e|e<;>rw[e]<;>decide
theorem Zr9 {n:Int} (h:Zbp n):Tx (ZbE n) [(1,ZbE n)] ZcN ZdI:=by
 unfold Zbp at h;obtain⟨u,rfl⟩:=Int.eq_ofNat_of_zero_le h.1;have e:ZbE (u:Int)=Lib.decDigits u:=by
  unfold ZbE Lib.itoa;rw[Yn (by omega)]
  congr 1
 obtain⟨a,b,d⟩:=Zim 17 u (by omega);rw[e];cases hd:Lib.decDigits u with
 |nil=>exact absurd hd d
 |cons c q=>
  rw[hd]at a b;exact Zsa a b
def ZaA (s:TS):List TS->TS
 |[]=>[]
 |[x]=>x
 |x::y::r=>x++s++ZaA s (y::r)
def Za6 (a:List TS):TS:=[(2,[123])]++a.flatten++[(2,[125])]
def ZhL (k:Int):TS:=if k=0 then [(2,[60])]else if k=1 then [(2,[61,61])]else if k=2 then [(2,[43])]else if k=3 then [(2,[45])]else if k=4 then [(2,[42])]else [(2,[47])]
theorem ZqC (k:Int):Tx (ZbZ k) (ZhL k) Zh1 Zew:=by
 unfold ZbZ ZhL;have a:Tx [61,61] [(2,[61,61])] Zew Zew:=Zsb (.inl ⟨rfl,rfl⟩) rfl;have:=(Zf9.app a Zdx).app Zf9 Zdx
 split
 ·exact Zfb (by decide)
 split
 ·simpa using this
 split
 ·exact Zfb (by decide)
 split
 ·exact Zfb (by decide)
 split
 ·exact Zfb (by decide)
 ·exact Zfb (by decide)
def ZO (ns:List Nd):Nat->Nd->TS
 |0,_=>[]
 |f+1,n=>
  let b:=fun(m:Nd) (a:Nat)=>if a<=Zz m then ZO ns f m else [(2,[40])]++ZO ns f m++[(2,[41])]
  if n.kind=20 then [(1,ZbE (num n 0))]
  else if n.kind=21 then [(0,word n 0)]
  else if n.kind=23 then [(2,[45])]++b (Zaa ns n 0) 3
  else if n.kind=22 then b (Zaa ns n 0) (max (Zz n) 1)++ZhL (num n 0)++b (Zaa ns n 1) (Zz n+1)
  else []
theorem ZhF {ns:List Nd} (R:RightP ns) {i:Nat} {d:Nd} (hd:ns[i]? = some d) {k:Nat} {s:Txt} (h:d.words[k]? = some s):ZQ s=true:=List.all_eq_true.mp (R.node i d hd).1 s (List.mem_of_getElem? h)
theorem Zci {ns:List Nd} (R:RightP ns) {i:Nat} {d:Nd} (hd:ns[i]? = some d) {k:Int} (hk:k∈d.kids):∃j:Nat,ns[j]? = some (Zf ns k):=by obtain⟨m,e,rfl,_,_,a,b,_⟩:=Zd5 R hd hk;exact⟨m,by rw[b];exact a⟩
theorem Zbx {ns:List Nd} {d:Nd} {m:Nat} {k:Int} (hk:d.kids[m]? = some k):Zaa ns d m=Zf ns k:=by unfold Zaa atI;rw[Int.toNat_natCast,hk];rfl
theorem ZmH {ns:List Nd} (R:RightP ns):∀(f i:Nat) (n:Nd),ns[i]? = some n->ZV ns f n->Tx (ZH ns f n) (ZO ns f n) ZcN ZdI
 |0,_,_,_,h=>h.elim
 |f+1,i,n,hn,h=>by
  have u:∀(m:Nat) (k:Int) (l:Nat),n.kids[m]? = some k->ZV ns f (Zf ns k)->Tx (if l<=Zz (Zaa ns n m)then ZH ns f (Zaa ns n m)else [40]++ZH ns f (Zaa ns n m)++[41]) (if l<=Zz (Zaa ns n m)then ZO ns f (Zaa ns n m)else [(2,[40])]++ZO ns f (Zaa ns n m)++[(2,[41])]) ZcN ZdI:=fun m k l hk a=>by
   obtain⟨j,z⟩:=Zci R hn (List.mem_of_getElem? hk);rw[Zbx hk];have e:=ZmH R f j _ z a
   split
   ·exact e
   ·have:=(ZmJ.app e ZfU).app Zlh ZfU;exact(this.head fun c=>ZhK).less fun c=>ZhK
  obtain⟨C,⟨hk,v,r,a,B,d⟩|⟨hk,s,r,w⟩|⟨hk,k,o,q,a⟩|⟨hk,j,k,o,A,a,p,q,t⟩⟩:=h
  ·have e:ZH ns (f+1) n=ZbE (num n 0):=by simp[ZH,hk]
   have b:ZO ns (f+1) n=[(1,ZbE (num n 0))]:=by simp[ZO,hk]
   rw[e,b];have g:num n 0=v:=by unfold num;rw[a];rfl
   rw[g];exact Zr9 (Zbn (R.node i n hn).2.1 (by rw[a];simp))
  ·have e:ZH ns (f+1) n=word n 0:=by simp[ZH,hk]
   have b:ZO ns (f+1) n=[(0,word n 0)]:=by simp[ZO,hk]
   rw[e,b];have g:word n 0=s:=by unfold word;rw[w];rfl
   rw[g];exact ZmI (ZhF R hn (k:=0) (by rw[w];rfl))
  ·have d:=u 0 k 3 o a;have e:ZH ns (f+1) n=[45]++(if 3<=Zz (Zaa ns n 0)then ZH ns f (Zaa ns n 0)else [40]++ZH ns f (Zaa ns n 0)++[41]):=by simp[ZH,hk]
   have b:ZO ns (f+1) n=[(2,[45])]++(if 3<=Zz (Zaa ns n 0)then ZO ns f (Zaa ns n 0)else [(2,[40])]++ZO ns f (Zaa ns n 0)++[(2,[41])]):=by simp[ZO,hk]
   rw[e,b];exact ZqB.app d ZfU
  ·have d:=u 0 j (max (Zz n) 1) o a;have y:=u 1 k (Zz n+1) p t;have e:ZH ns (f+1) n=(if max (Zz n) 1<=Zz (Zaa ns n 0)then ZH ns f (Zaa ns n 0)else [40]++ZH ns f (Zaa ns n 0)++[41])++ZbZ (num n 0)++(if Zz n+1<=Zz (Zaa ns n 1)then ZH ns f (Zaa ns n 1)else [40]++ZH ns f (Zaa ns n 1)++[41]):=by simp[ZH,hk]
   have b:ZO ns (f+1) n=(if max (Zz n) 1<=Zz (Zaa ns n 0)then ZO ns f (Zaa ns n 0)else [(2,[40])]++ZO ns f (Zaa ns n 0)++[(2,[41])])++ZhL (num n 0)++(if Zz n+1<=Zz (Zaa ns n 1)then ZO ns f (Zaa ns n 1)else [(2,[40])]++ZO ns f (Zaa ns n 1)++[(2,[41])]):=by simp[ZO,hk]
   rw[e,b];exact(d.app (ZqC _) fun c=>Zi5).app y Zdx
end
section
def ZfZ (n d:Int):TS:=[(1,ZbE n)]++[(2,[47])]++[(1,ZbE d)]
def Zm4 (k:Int):TS:=if k=0 then [(0,[97,116])]else if k=1 then [(0,[116,111])]else [(0,[105,110])]
def ZbG (n:Nd):TS:=Zm4 (num n 0)++ZaA [(2,[124])] (n.words.map fun w=>[(0,w)])
def Zg1 (ns:List Nd) (f:Nat) (n:Nd):TS:=if n.kind=15 then [(2,[38])]++[(0,word n 0)]else ZO ns f n
def Zd7 (ns:List Nd) (n:Nd):TS:=
 [(0,word n 0)]++(if n.words.length=1 then []else [(2,[58])]++[(0,word n 1)]++[(0,ZaR (num n 0))]++(if 0<num n 2 then [(0,[108,101,97,115,116])]++ZfZ (num n 1) (num n 2)else [])++(n.kids.map fun k=>ZbG (Zf ns k)).flatten)
def ZcQ:List Txt->List TS
 |a::b::r=>([(0,a)]++[(0,b)])::ZcQ r
 |_=>[]
def ZcR (n:Nd):TS:=
 (if n.kind=3 then [(0,[111,112])]++[(0,word n 0)]++[(0,word n 1)]++[(2,[45,62])]++ZaA [(2,[44])] (ZcQ (n.words.drop 2))
  else if num n 0=0 then [(0,[115,116,97,116,101])]++[(0,word n 0)]else [(0,[102,105,110,97,108])]++[(0,word n 0)])++[(2,[59])]
def Zak (ns:List Nd):Nat->Nd->TS
 |0,_=>[]
 |f+1,n=>
  if n.kind=8 then [(0,[108,101,116])]++([(0,word n 0)]++[(2,[61])]++ZO ns f (Zaa ns n 0)++[(2,[59])])
  else if n.kind=9 then [(0,word n 0)]++[(2,[61])]++ZO ns f (Zaa ns n 0)++[(2,[59])]
  else if n.kind=10 then [(0,[111,112,101,110])]++[(0,word n 0)]++[(0,word n 1)]++ZaA [(0,[101,108,115,101])] (n.kids.map fun k=>Za6 ((Zf ns k).kids.map fun k=>Zak ns f (Zf ns k)))
  else if n.kind=11 then [(0,[100,111])]++[(0,word n 0)]++[(2,[46])]++[(0,word n 1)]++(if n.kids=[]then [(2,[59])]else Za6 (n.kids.map fun k=>[(0,word (Zf ns k) 0)]++Za6 ((Zaa ns (Zf ns k) 0).kids.map fun k=>Zak ns f (Zf ns k))))
  else if n.kind=13 then [(0,[115,112,108,105,116])]++[(0,word n 0)]++[(2,[61])]++[(0,word n 1)]++[(0,ZaR (num n 0))]++ZfZ (num n 1) (num n 2)++((n.kids.take (n.kids.length-1)).map fun k=>ZbG (Zf ns k)).flatten++Za6 ((Zaa ns n (n.kids.length-1)).kids.map fun k=>Zak ns f (Zf ns k))
  else if n.kind=14 then [(0,[99,97,108,108])]++(if n.words.length=2 then [(0,word n 1)]++[(2,[61])]else [])++[(0,word n 0)]++[(2,[40])]++ZaA [(2,[44])] (n.kids.map fun k=>Zg1 ns f (Zf ns k))++[(2,[41]),(2,[59])]
  else if n.kind=16 then [(0,[105,102])]++ZO ns f (Zaa ns n 0)++ZaA [(0,[101,108,115,101])] ((n.kids.drop 1).map fun k=>Za6 ((Zf ns k).kids.map fun k=>Zak ns f (Zf ns k)))
  else if n.kind=17 then [(0,[119,104,105,108,101])]++ZO ns f (Zaa ns n 0)++Za6 ((Zaa ns n 1).kids.map fun k=>Zak ns f (Zf ns k))
  else if n.kind=18 then [(0,[114,101,116,117,114,110])]++ZO ns f (Zaa ns n 0)++[(2,[59])]
  else if n.kind=19 then [(0,[101,120,105,116])]++[(2,[59])]
  else []
def Zde (ns:List Nd) (f:Nat) (n:Nd):TS:=
 if n.kind=1 then [(0,[112,114,111,116,111])]++[(0,word n 0)]++Za6 (n.kids.map fun k=>ZcR (Zf ns k))
 else [(0,[102,110])]++[(0,word n 0)]++[(2,[40])]++ZaA [(2,[44])] ((n.kids.take (n.kids.length-1)).map fun k=>Zd7 ns (Zf ns k))++[(2,[41])]++Za6 ((Zaa ns n (n.kids.length-1)).kids.map fun k=>Zak ns f (Zf ns k))
theorem ks8 {ns:List Nd} {f:Nat} {n:Nd} (hk:n.kind=8):Zak ns (f+1) n=[(0,[108,101,116])]++([(0,word n 0)]++[(2,[61])]++ZO ns f (Zaa ns n 0)++[(2,[59])]):=by simp[Zak,hk]
theorem ks9 {ns:List Nd} {f:Nat} {n:Nd} (hk:n.kind=9):Zak ns (f+1) n=[(0,word n 0)]++[(2,[61])]++ZO ns f (Zaa ns n 0)++[(2,[59])]:=by simp[Zak,hk]
theorem Zso {ns:List Nd} {f:Nat} {n:Nd} (hk:n.kind=10):Zak ns (f+1) n=[(0,[111,112,101,110])]++[(0,word n 0)]++[(0,word n 1)]++ZaA [(0,[101,108,115,101])] (n.kids.map fun k=>Za6 ((Zf ns k).kids.map fun k=>Zak ns f (Zf ns k))):=by simp[Zak,hk]
theorem ZrX {ns:List Nd} {f:Nat} {n:Nd} (hk:n.kind=11):Zak ns (f+1) n=[(0,[100,111])]++[(0,word n 0)]++[(2,[46])]++[(0,word n 1)]++(if n.kids=[]then [(2,[59])]else Za6 (n.kids.map fun k=>[(0,word (Zf ns k) 0)]++Za6 ((Zaa ns (Zf ns k) 0).kids.map fun k=>Zak ns f (Zf ns k)))):=by simp[Zak,hk]
theorem Zsp {ns:List Nd} {f:Nat} {n:Nd} (hk:n.kind=13):Zak ns (f+1) n=[(0,[115,112,108,105,116])]++[(0,word n 0)]++[(2,[61])]++[(0,word n 1)]++[(0,ZaR (num n 0))]++ZfZ (num n 1) (num n 2)++((n.kids.take (n.kids.length-1)).map fun k=>ZbG (Zf ns k)).flatten++Za6 ((Zaa ns n (n.kids.length-1)).kids.map fun k=>Zak ns f (Zf ns k)):=by simp[Zak,hk]
theorem ZrY {ns:List Nd} {f:Nat} {n:Nd} (hk:n.kind=14):Zak ns (f+1) n=[(0,[99,97,108,108])]++(if n.words.length=2 then [(0,word n 1)]++[(2,[61])]else [])++[(0,word n 0)]++[(2,[40])]++ZaA [(2,[44])] (n.kids.map fun k=>Zg1 ns f (Zf ns k))++[(2,[41]),(2,[59])]:=by simp[Zak,hk]
theorem ZrZ {ns:List Nd} {f:Nat} {n:Nd} (hk:n.kind=16):Zak ns (f+1) n=[(0,[105,102])]++ZO ns f (Zaa ns n 0)++ZaA [(0,[101,108,115,101])] ((n.kids.drop 1).map fun k=>Za6 ((Zf ns k).kids.map fun k=>Zak ns f (Zf ns k))):=by simp[Zak,hk]
theorem Zsq {ns:List Nd} {f:Nat} {n:Nd} (hk:n.kind=18):Zak ns (f+1) n=[(0,[114,101,116,117,114,110])]++ZO ns f (Zaa ns n 0)++[(2,[59])]:=by simp[Zak,hk]
theorem ZpA {w:Txt} {c:UInt8} {q:Txt} (e:w=c::q) (a:ZbN c=true) (b:(c::q).all ZaW=true):Tx (w++[32]) [(0,w)] ZcN Zew:=(Zsm e a b).sp
theorem ZrO {n:Nd} {k:Nat} {s:Txt} (h:n.words[k]? = some s):word n k=s:=by unfold word;rw[h];rfl
theorem ZcT {n:Nd} {k:Nat} {z:Int} (h:n.nums[k]? = some z):num n k=z:=by unfold num;rw[h];rfl
end
section
inductive Tr where
 |mk (kind:Int) (words:List Txt) (nums:List Int) (at_:Int) (kids:List Tr)
structure PS where
 at_:Nat
 deep:Int
 err:Int
 fat:Int
section
variable (L:List Tok)
def Zl (k:Nat):Tok:=(L[k]?).getD (3,[],0)
def ZaT (s:PS):Tok:=if s.err≠0 then Zl L (L.length-1)else Zl L s.at_
def ZbY (e:Int) (s:PS):PS:=if s.err=0 then { s with err:=e,fat:=(Zl L s.at_).2.2 }else s
def isM (x:Txt) (s:PS):Bool:=decide ((ZaT L s).2.1=x)&&(decide ((ZaT L s).1=2)||decide ((ZaT L s).1=0)&&isKey x)&&decide (s.err=0)
def Zd (s:PS):PS:={ s with at_:=s.at_+1 }
def Zc7 (x:Txt) (s:PS):Bool×PS:=if isM L x s then(true,Zd s)else(false,s)
def Zg (x:Txt) (s:PS):PS:=if isM L x s then Zd s else ZbY L 11 s
def Zbb (s:PS):Bool:=decide ((ZaT L s).1=0)&&ZQ (ZaT L s).2.1&&decide (s.err=0)
def Zb (s:PS):Txt×PS:=if Zbb L s then((ZaT L s).2.1,Zd s)else([],ZbY L 11 s)
def ZdH (l:Txt):Int:=l.foldl (fun n c=>IntKind.i64.wrap (IntKind.i64.wrap (10*n)+((c.toNat:Int)-48) % 256)) 0
def Zaz (a:Int) (s:PS):Int×PS:=if(ZaT L s).1=1/\¬ZdH (ZaT L s).2.1<a/\s.err=0 then(ZdH (ZaT L s).2.1,Zd s)else(0,ZbY L 11 s)
def Ze (s:PS):Int:=(ZaT L s).2.2
def inM (s:PS):PS:=if 200<s.deep+1 then ZbY L 12 { s with deep:=s.deep+1 }else { s with deep:=s.deep+1 }
def ZdQ (s:PS):PS:={ s with deep:=s.deep-1 }
def ZN:List (Int×Txt)->PS->Int×PS
 |[],s=>(0,ZbY L 11 s)
 |(i,w)::r,s=>if isM L w s then(i,Zd s)else ZN r s
def Zx (a:Nat):List (Int×Txt):=([(0,ZaR 0),(1,ZaR 1),(2,ZaR 2),(3,ZaR 3),(4,ZaR 4)]:List (Int×Txt)).drop a
def ZdW:Nat->List Txt->PS->List Txt×PS
 |0,l,s=>(l,s)
 |f+1,l,s=>if isM L [124] s then(let r:=Zb L (Zd s);ZdW f (l++[r.1]) r.2)else(l,s)
def ZK (w:Txt) (which:Int) (s:PS):List Tr×PS:=
 if isM L w s then(let r:=Zb L (Zd s);let q:=ZdW L L.length [r.1] r.2;([.mk 6 q.1 [which] (Ze L s) []],q.2))else([],s)
def Za2 (d:Int) (a b:Tr):Tr:=.mk 22 [] [d] (match a with|.mk _ _ _ c _=>c) [a,b]
def ZaK (b:PS->Tr×PS) (x y:Txt) (i j:Int):Nat->Tr->PS->Tr×PS
 |0,a,s=>(a,s)
 |f+1,a,s=>
  if s.err=0 then
   (if isM L x s then(let r:=b (Zd s);ZaK b x y i j f (Za2 i a r.1) r.2)
    else if isM L y s then(let r:=b (Zd s);ZaK b x y i j f (Za2 j a r.1) r.2)
    else(a,s))
  else(a,s)
def Zat (a:PS->Tr×PS) (s:PS):Tr×PS:=let r:=a s;ZaK L a [42] [47] 4 5 (L.length+1) r.1 r.2
def ZL (a:PS->Tr×PS) (s:PS):Tr×PS:=let r:=Zat L a s;ZaK L (Zat L a) [43] [45] 2 3 (L.length+1) r.1 r.2
def ZaU (c:PS->Tr×PS) (s:PS):Tr×PS:=
 let a:=ZL L c s
 if isM L [60] a.2 then(let b:=ZL L c (Zd a.2);(Za2 0 a.1 b.1,b.2))
 else if isM L [61,61] a.2 then(let b:=ZL L c (Zd a.2);(Za2 1 a.1 b.1,b.2))
 else a
def ZJ:Nat->PS->Tr×PS
 |0,s=>(.mk 20 [] [] (Ze L s) [],s)
 |f+1,s=>
  if s.err≠0 then(.mk 20 [] [] (Ze L s) [],s)
  else if(ZaT L s).1=1 then(let r:=Zaz L 0 s;(.mk 20 [] [r.1] (Ze L s) [],r.2))
  else if Zbb L s then(let r:=Zb L s;(.mk 21 [r.1] [] (Ze L s) [],r.2))
  else if isM L [45] s then(let r:=ZJ f (inM L (Zd s));(.mk 23 [] [] (Ze L s) [r.1],ZdQ r.2))
  else(let r:=ZaU L (ZJ f) (inM L (Zg L [40] s));(r.1,Zg L [41] (ZdQ r.2)))
def Za1 (a:PS->Tr×PS) (x:Txt):Nat->List Tr->PS->List Tr×PS
 |0,l,s=>(l,s)
 |f+1,l,s=>
  if s.err=0 then(if isM L x s then(l,Zd s)else(let r:=a s;Za1 a x f (l++[r.1]) r.2))
  else(l,s)
def Zag (a:PS->Tr×PS):Nat->Bool->List Tr->PS->List Tr×PS
 |0,_,l,s=>(l,s)
 |f+1,first,l,s=>
  if s.err=0 then(if isM L [41] s then(l,Zd s)else(let r:=a (if first then s else Zg L [44] s);Zag a f false (l++[r.1]) r.2))
  else(l,s)
def Zau (st:PS->Tr×PS) (s:PS):Tr×PS:=
 let r:=Za1 L st [125] (L.length+1) [] (inM L (Zg L [123] s))
 (.mk 7 [] [] (Ze L s) r.1,ZdQ r.2)
def Za4 (ex:PS->Tr×PS) (s:PS):Tr×PS:=
 if isM L [38] s then(let r:=Zb L (Zd s);(.mk 15 [r.1] [] (Ze L s) [],r.2))else ex s
def ZcU (st:PS->Tr×PS) (s:PS):Tr×PS:=
 let a:=Zb L s;let b:=Zau L st a.2
 (.mk 12 [a.1] [] (Ze L s) [b.1],b.2)
def ZcI (ex:PS->Tr×PS) (p:Int) (s:PS):Tr×PS:=
 let a:=Zb L s
 let h:List Txt×PS:=if isM L [61] a.2 then(let b:=Zb L (Zd a.2);([b.1,a.1],b.2))else([a.1],a.2)
 let r:=Zag L (Za4 L ex) (L.length+1) true [] (Zg L [40] h.2)
 (.mk 14 h.1 [] p r.1,Zg L [59] r.2)
def doM (st:PS->Tr×PS) (p:Int) (s:PS):Tr×PS:=
 let a:=Zb L s;let b:=Zb L (Zg L [46] a.2)
 if isM L [59] b.2 then(.mk 11 [a.1,b.1] [] p [],Zd b.2)
 else(let r:=Za1 L (ZcU L st) [125] (L.length+1) [] (Zg L [123] b.2);(.mk 11 [a.1,b.1] [] p r.1,r.2))
def Zbl (ex st:PS->Tr×PS) (p:Int) (s:PS):Tr×PS:=
 if isM L [105,102] s then
  (let a:=ex (Zd s);let b:=Zau L st a.2
   if isM L [101,108,115,101] b.2 then(let c:=Zau L st (Zd b.2);(.mk 16 [] [] p [a.1,b.1,c.1],c.2))else(.mk 16 [] [] p [a.1,b.1],b.2))
 else if isM L [119,104,105,108,101] s then(let a:=ex (Zd s);let b:=Zau L st a.2;(.mk 17 [] [] p [a.1,b.1],b.2))
 else if isM L [114,101,116,117,114,110] s then(let a:=ex (Zd s);(.mk 18 [] [] p [a.1],Zg L [59] a.2))
 else(.mk 19 [] [] p [],Zg L [59] (Zg L [101,120,105,116] s))
def Ze9 (st:PS->Tr×PS) (p:Int) (s:PS):Tr×PS:=
 let a:=Zb L s;let b:=Zb L (Zg L [61] a.2);let k:=ZN L (Zx 1) b.2
 let n:=Zaz L 1 k.2;let d:=Zaz L 1 (Zg L [47] n.2);let m:=ZK L [105,110] 2 d.2;let c:=Zau L st m.2
 (.mk 13 [a.1,b.1] [k.1,n.1,d.1] p (m.1++[c.1]),c.2)
def Zu (ex:PS->Tr×PS):Nat->PS->Tr×PS
 |0,s=>(.mk 8 [] [] (Ze L s) [],s)
 |f+1,s=>
  let p:=Ze L s
  if isM L [108,101,116] s then(let a:=Zb L (Zd s);let e:=ex (Zg L [61] a.2);(.mk 8 [a.1] [] p [e.1],Zg L [59] e.2))
  else if Zbb L s then(let a:=Zb L s;let e:=ex (Zg L [61] a.2);(.mk 9 [a.1] [] p [e.1],Zg L [59] e.2))
  else if isM L [111,112,101,110] s then
   (let a:=Zb L (Zd s);let b:=Zb L a.2;let c:=Zau L (Zu ex f) b.2;let d:=Zau L (Zu ex f) (Zg L [101,108,115,101] c.2)
    (.mk 10 [a.1,b.1] [] p [c.1,d.1],d.2))
  else if isM L [100,111] s then doM L (Zu ex f) p (Zd s)
  else if isM L [115,112,108,105,116] s then Ze9 L (Zu ex f) p (Zd s)
  else if isM L [99,97,108,108] s then ZcI L ex p (Zd s)
  else Zbl L ex (Zu ex f) p s
def ZdC:Nat->List Txt->PS->List Txt×PS
 |0,l,s=>(l,s)
 |f+1,l,s=>
  if s.err=0 then
   (let a:=Zb L s;let b:=Zb L a.2
    if isM L [44] b.2 then ZdC f (l++[a.1,b.1]) (Zd b.2)else(l++[a.1,b.1],b.2))
  else(l,s)
def Zbs (s:PS):Tr×PS:=
 let p:=Ze L s
 if isM L [115,116,97,116,101] s then(let a:=Zb L (Zd s);(.mk 2 [a.1] [0] p [],Zg L [59] a.2))
 else if isM L [102,105,110,97,108] s then(let a:=Zb L (Zd s);(.mk 2 [a.1] [1] p [],Zg L [59] a.2))
 else(let a:=Zb L (Zg L [111,112] s);let b:=Zb L a.2;let r:=ZdC L (L.length+1) [a.1,b.1] (Zg L [45,62] b.2);(.mk 3 r.1 [] p [],Zg L [59] r.2))
def ZbX (s:PS):Tr×PS:=
 let a:=Zb L (Zg L [112,114,111,116,111] s)
 let r:=Za1 L (Zbs L) [125] (L.length+1) [] (Zg L [123] a.2)
 (.mk 1 [a.1] [] (Ze L s) r.1,r.2)
def ZaO (s:PS):Tr×PS:=
 let p:=Ze L s;let a:=Zb L s
 if isM L [58] a.2 then
  (let b:=Zb L (Zd a.2);let k:=ZN L (Zx 0) b.2
   let q:List Int×PS:=if isM L [108,101,97,115,116] k.2 then(let n:=Zaz L 1 (Zd k.2);let d:=Zaz L 1 (Zg L [47] n.2);([n.1,d.1],d.2))else([0,0],k.2)
   let x:=ZK L [97,116] 0 q.2;let y:=ZK L [116,111] 1 x.2;let z:=ZK L [105,110] 2 y.2
   (.mk 5 [a.1,b.1] (k.1::q.1) p (x.1++y.1++z.1),z.2))
 else(.mk 5 [a.1] [] p [],a.2)
def fnM (ex st:PS->Tr×PS) (s:PS):Tr×PS:=
 let a:=Zb L (Zg L [102,110] s)
 let r:=Zag L (ZaO L) (L.length+1) true [] (Zg L [40] a.2)
 let b:=Zau L st r.2
 let _:=ex
 (.mk 4 [a.1] [] (Ze L s) (r.1++[b.1]),b.2)
def ZaM (ex st:PS->Tr×PS):Nat->List Tr->PS->List Tr×PS
 |0,l,s=>(l,s)
 |f+1,l,s=>
  if s.err=0/\(ZaT L s).1≠3 then
   (if isM L [112,114,111,116,111] s then(let r:=ZbX L s;ZaM ex st f (l++[r.1]) r.2)
    else if isM L [102,110] s then(let r:=fnM L ex st s;ZaM ex st f (l++[r.1]) r.2)
    else ZaM ex st f l (ZbY L 11 s))
  else(l,s)
end
end
section
section
variable {L:List Tok}
def ZaE (L:List Tok):Prop:=0<L.length/\(Zl L (L.length-1)).1=3
structure Adv (L:List Tok) (s s2:PS):Prop where
 le:s.at_<=s2.at_
 lt:s.at_<L.length->s2.at_<L.length
 deep:s2.deep=s.deep
 bad:s.err≠0->s2.err≠0
structure Gon (L:List Tok) (s s2:PS):Prop extends Adv L s s2 where
 on:s2.err=0->s.at_<s2.at_
theorem Adv.refl (s:PS):Adv L s s:=⟨Nat.le_refl _,id,rfl,id⟩
theorem Adv.trans {a b c:PS} (h:Adv L a b) (k:Adv L b c):Adv L a c:=⟨Nat.le_trans h.le k.le,fun q=>k.lt (h.lt q),k.deep.trans h.deep,fun q=>k.bad (h.bad q)⟩
theorem Gon.then_ {a b c:PS} (h:Gon L a b) (k:Adv L b c):Gon L a c:=⟨h.toAdv.trans k,fun q=>Nat.lt_of_lt_of_le (h.on (by
 by_cases e:b.err=0
 ·exact e
 ·exact absurd q (k.bad e))) k.le⟩
theorem Adv.then_ {a b c:PS} (h:Adv L a b) (k:Gon L b c):Gon L a c:=⟨h.trans k.toAdv,fun q=>Nat.lt_of_le_of_lt h.le (k.on q)⟩
theorem Adv.err {a b:PS} (h:Adv L a b) (e:b.err=0):a.err=0:=by
 by_cases q:a.err=0
 ·exact q
 ·exact absurd e (h.bad q)
theorem ZeR {e:Int} (a:e≠0) (s:PS):Gon L s (ZbY L e s):=by
 unfold ZbY;by_cases h:s.err=0
 ·rw[Yo h];exact⟨⟨Nat.le_refl _,id,rfl,fun q=>absurd h q⟩,fun q=>absurd q a⟩
 ·rw[Yn h];exact⟨Adv.refl s,fun q=>absurd q h⟩
theorem ZkJ (a:ZaE L) {s:PS} (d:s.at_<L.length) (b:s.err=0) (c:(ZaT L s).1≠3):s.at_+1<L.length:=by
 rcases Nat.lt_or_ge (s.at_+1) L.length with h|h
 ·exact h
 ·exact absurd (by unfold ZaT;rw[Yn (by simp[b]),show s.at_=L.length-1 by omega];exact a.2) c
theorem Zjl (a:ZaE L) {s:PS} (d:s.at_<L.length) (b:s.err=0) (c:(ZaT L s).1≠3):Gon L s (Zd s):=
 ⟨⟨Nat.le_succ _,fun _=>ZkJ a d b c,rfl,id⟩,fun _=>Nat.lt_succ_self _⟩
theorem Zmm {x:Txt} {s:PS} (h:isM L x s=true):s.err=0/\(ZaT L s).1≠3:=by unfold isM at h;simp only[Bool.and_eq_true,Bool.or_eq_true,decide_eq_true_eq]at h;exact⟨h.2,by rcases h.1.2 with h|h<;>omega⟩
theorem ZR (a:ZaE L) {x:Txt} {s:PS} (b:s.at_<L.length) (h:isM L x s=true):Gon L s (Zd s):=Zjl a b (Zmm h).1 (Zmm h).2
theorem ZE (a:ZaE L) (x:Txt) {s:PS} (b:s.at_<L.length):Gon L s (Zg L x s):=by
 unfold Zg;by_cases h:isM L x s=true
 ·rw[Yo h];exact ZR a b h
 ·rw[Yn h];exact ZeR (by decide) s
theorem ZeD {s:PS} (h:Zbb L s=true):s.err=0/\(ZaT L s).1≠3:=by unfold Zbb at h;simp only[Bool.and_eq_true,decide_eq_true_eq]at h;exact⟨h.2,by omega⟩
theorem ZA (a:ZaE L) {s:PS} (b:s.at_<L.length):Gon L s (Zb L s).2:=by
 unfold Zb;by_cases h:Zbb L s=true
 ·rw[Yo h];exact Zjl a b (ZeD h).1 (ZeD h).2
 ·rw[Yn h];exact ZeR (by decide) s
theorem ZdA (b:ZaE L) (a:Int) {s:PS} (c:s.at_<L.length):Gon L s (Zaz L a s).2:=by
 unfold Zaz;by_cases h:(ZaT L s).1=1/\¬ZdH (ZaT L s).2.1<a/\s.err=0
 ·rw[Yo h];exact Zjl b c h.2.2 (by omega)
 ·rw[Yn h];exact ZeR (by decide) s
theorem ZfA (a:ZaE L):∀(l:List (Int×Txt)) {s:PS},s.at_<L.length->Gon L s (ZN L l s).2
 |[],s,_=>ZeR (by decide) s
 |(i,w)::r,s,hs=>by
  unfold ZN;by_cases h:isM L w s=true
  ·rw[Yo h];exact ZR a hs h
  ·rw[Yn h];exact ZfA a r hs
theorem Zh0 (a:ZaE L):∀(f:Nat) (l:List Txt) {s:PS},s.at_<L.length->Adv L s (ZdW L f l s).2
 |0,_,s,_=>Adv.refl s
 |f+1,l,s,hs=>by
  unfold ZdW;by_cases h:isM L [124] s=true
  ·rw[Yo h];have g:=ZR a hs h;have n:=ZA a (g.lt hs);exact(g.toAdv.trans n.toAdv).trans (Zh0 a f _ (n.lt (g.lt hs)))
  ·rw[Yn h];exact Adv.refl s
theorem Zc0 (a:ZaE L) (x:Txt) (i:Int) {s:PS} (b:s.at_<L.length):Adv L s (ZK L x i s).2:=by
 unfold ZK;by_cases h:isM L x s=true
 ·rw[Yo h];have g:=ZR a b h;have n:=ZA a (g.lt b);exact(g.toAdv.trans n.toAdv).trans (Zh0 a _ _ (n.lt (g.lt b)))
 ·rw[Yn h];exact Adv.refl s
structure Dom (L:List Tok) (D:PS->Prop):Prop where
 next:∀a b,D a->Adv L a b->D b
 lt:∀a,D a->a.at_<L.length
abbrev Onw (L:List Tok) (D:PS->Prop) (M:PS->Tr×PS):Prop:=∀s,D s->Gon L s (M s).2
theorem Zdj (b:ZaE L) {D:PS->Prop} (hD:Dom L D) {k:PS->Tr×PS} (c:Onw L D k) (x y:Txt) (i j:Int):∀(f:Nat) (a:Tr) (s:PS),D s->Adv L s (ZaK L k x y i j f a s).2
 |0,_,s,_=>Adv.refl s
 |f+1,a,s,hs=>by
  unfold ZaK;by_cases e:s.err=0
  ·rw[Yo e];by_cases h:isM L x s=true
   ·rw[Yo h];have g:=ZR b (hD.lt _ hs) h;have hd:=hD.next _ _ hs g.toAdv;have n:=c _ hd;exact(g.toAdv.trans n.toAdv).trans (Zdj b hD c x y i j f _ _ (hD.next _ _ hd n.toAdv))
   ·rw[Yn h];by_cases d:isM L y s=true
    ·rw[Yo d];have g:=ZR b (hD.lt _ hs) d;have hd:=hD.next _ _ hs g.toAdv;have n:=c _ hd;exact(g.toAdv.trans n.toAdv).trans (Zdj b hD c x y i j f _ _ (hD.next _ _ hd n.toAdv))
    ·rw[Yn d];exact Adv.refl s
  ·rw[Yn e];exact Adv.refl s
theorem ZeK (d:ZaE L) {D:PS->Prop} (hD:Dom L D) {c:PS->Tr×PS} (a:Onw L D c):Onw L D (Zat L c):=fun s b=>
 (a s b).then_ (Zdj d hD a _ _ _ _ _ _ _ (hD.next _ _ b (a s b).toAdv))
theorem Zhv (a:ZaE L) {D:PS->Prop} (hD:Dom L D) {d:PS->Tr×PS} (b:Onw L D d):Onw L D (ZL L d):=fun s c=>
 (ZeK a hD b s c).then_ (Zdj a hD (ZeK a hD b) _ _ _ _ _ _ _ (hD.next _ _ c (ZeK a hD b s c).toAdv))
theorem ZhE (b:ZaE L) {D:PS->Prop} (hD:Dom L D) {c:PS->Tr×PS} (e:Onw L D c):Onw L D (ZaU L c):=fun s f=>by
 have a:=Zhv b hD e s f;have ha:=hD.next _ _ f a.toAdv;unfold ZaU;dsimp only;by_cases h:isM L [60] (ZL L c s).2=true
 ·rw[Yo h];have g:=ZR b (hD.lt _ ha) h;exact a.then_ (g.toAdv.trans (Zhv b hD e _ (hD.next _ _ ha g.toAdv)).toAdv)
 ·rw[Yn h];by_cases d:isM L [61,61] (ZL L c s).2=true
  ·rw[Yo d];have g:=ZR b (hD.lt _ ha) d;exact a.then_ (g.toAdv.trans (Zhv b hD e _ (hD.next _ _ ha g.toAdv)).toAdv)
  ·rw[Yn d];exact a
structure Dp (L:List Tok) (f:Nat) (s:PS):Prop where
 lt:s.at_<L.length
 fuel:s.err=0->s.deep<=200/\200<s.deep+f
 lo:0<=s.deep
 hi:s.deep<=201
theorem Zav (f:Nat):Dom L (Dp L f):=⟨fun a b h k=>⟨k.lt h.lt,fun e=>by rw[k.deep];exact h.fuel (k.err e),by rw[k.deep];exact h.lo,by rw[k.deep];exact h.hi⟩,fun a h=>h.lt⟩
theorem Zfo {f:Nat} {s:PS} (h:Dp L (f+1) s) (hd:s.err=0\/s.deep<=200):Dp L f (inM L s):=by
 have b:s.deep<=200:=hd.elim (fun e=>(h.fuel e).1) id;have c:=h.fuel;have d:=h.lo;have a:=h.lt;unfold inM;by_cases q:200<s.deep+1
 ·rw[Yo q];unfold ZbY;by_cases e:s.err=0
  ·rw[Yo (show(({ s with deep:=s.deep+1 }:PS).err=0)from e)];exact⟨a,fun e=>(by cases e),by show 0<=s.deep+1;omega,by show s.deep+1<=201;omega⟩
  ·rw[Yn (show ¬(({ s with deep:=s.deep+1 }:PS).err=0)from e)];exact⟨a,fun k=>absurd k e,by show 0<=s.deep+1;omega,by show s.deep+1<=201;omega⟩
 ·rw[Yn q];exact⟨a,fun e=>by have:=c e;show s.deep+1<=200/\200<s.deep+1+f;push_cast at this;omega,by show 0<=s.deep+1;omega,by show s.deep+1<=201;omega⟩
theorem Zh6 (s:PS):(inM L s).at_=s.at_/\(inM L s).deep=s.deep+1/\(s.err≠0->(inM L s).err≠0):=by
 unfold inM ZbY;by_cases q:200<s.deep+1
 ·rw[Yo q];by_cases e:s.err=0
  ·rw[Yo (show(({ s with deep:=s.deep+1 }:PS).err=0)from e)];exact⟨rfl,rfl,fun k=>absurd e k⟩
  ·rw[Yn (show ¬(({ s with deep:=s.deep+1 }:PS).err=0)from e)];exact⟨rfl,rfl,fun k=>k⟩
 ·rw[Yn q];exact⟨rfl,rfl,fun k=>k⟩
theorem Zhb {s a:PS} (h:Adv L (inM L s) a):Adv L s (ZdQ a):=by obtain⟨b,c,d⟩:=Zh6 (L:=L) s;exact⟨by have:=h.le;rw[b]at this;exact this,fun q=>h.lt (by rw[b];exact q),by show a.deep-1=s.deep;rw[h.deep,c];omega,fun q=>h.bad (d q)⟩
theorem Zck (a:ZaE L):∀(f:Nat),Onw L (Dp L f) (ZJ L f)
 |0,s,hs=>⟨Adv.refl s,fun e=>by have:=hs.fuel e;omega⟩
 |f+1,s,hs=>by
  unfold ZJ;by_cases e:s.err≠0
  ·rw[Yo e];exact⟨Adv.refl s,fun q=>absurd q e⟩
  rw[Yn e];have c:s.err=0:=Classical.not_not.1 e;by_cases h:(ZaT L s).1=1
  ·rw[Yo h];exact ZdA a 0 hs.lt
  rw[Yn h];by_cases j:Zbb L s=true
  ·rw[Yo j];exact ZA a hs.lt
  rw[Yn j];by_cases b:isM L [45] s=true
  ·rw[Yo b];have g:=ZR a hs.lt b;have d:=(Zav (f+1)).next _ _ hs g.toAdv;exact g.then_ (Zhb (Zck a f _ (Zfo d (.inl c))).toAdv)
  rw[Yn b];have g:=ZE a [40] hs.lt;have d:=(Zav (f+1)).next _ _ hs g.toAdv;have i:=Zfo d (.inr (by rw[g.deep];exact(hs.fuel c).1));have x:=Zhb (ZhE a (Zav f) (Zck a f) _ i).toAdv;exact(g.then_ x).then_ (ZE a [41] (x.lt (g.lt hs.lt))).toAdv
theorem Zdo (b:ZaE L) {D:PS->Prop} (hD:Dom L D) {ea:PS->Tr×PS} (c:∀s,D s->s.err=0->Adv L s (ea s).2) (x:Txt):∀(f:Nat) (l:List Tr) (s:PS),D s->Adv L s (Za1 L ea x f l s).2
 |0,_,s,_=>Adv.refl s
 |f+1,l,s,hs=>by
  unfold Za1;by_cases a:s.err=0
  ·rw[Yo a];by_cases h:isM L x s=true
   ·rw[Yo h];exact(ZR b (hD.lt _ hs) h).toAdv
   ·rw[Yn h];have n:=c s hs a;exact n.trans (Zdo b hD c x f _ _ (hD.next _ _ hs n))
  ·rw[Yn a];exact Adv.refl s
theorem ZdX (a:ZaE L) {D:PS->Prop} (hD:Dom L D) {ea:PS->Tr×PS} (d:∀s,D s->Adv L s (ea s).2):∀(f:Nat) (first:Bool) (l:List Tr) (s:PS),D s->Adv L s (Zag L ea f first l s).2
 |0,_,_,s,_=>Adv.refl s
 |f+1,first,l,s,hs=>by
  unfold Zag;by_cases c:s.err=0
  ·rw[Yo c];by_cases h:isM L [41] s=true
   ·rw[Yo h];exact(ZR a (hD.lt _ hs) h).toAdv
   ·rw[Yn h];have w:Adv L s (if first then s else Zg L [44] s):=by
     cases first
     ·exact(ZE a [44] (hD.lt _ hs)).toAdv
     ·exact Adv.refl s
    have b:=hD.next _ _ hs w;have n:=d _ b;exact(w.trans n).trans (ZdX a hD d f _ _ _ (hD.next _ _ b n))
  ·rw[Yn c];exact Adv.refl s
theorem Zb5 (b:ZaE L) {f:Nat} {st:PS->Tr×PS} (e:∀s,Dp L f s->s.err=0->Adv L s (st s).2) {s:PS} (c:Dp L (f+1) s) (a:s.deep<=200):Gon L s (Zau L st s).2:=by have g:=ZE b [123] c.lt;have d:=(Zav (f+1)).next _ _ c g.toAdv;exact g.then_ (Zhb (Zdo b (Zav f) e [125] _ _ _ (Zfo d (.inr (by rw[g.deep];exact a)))))
end
end
end Go.Proofs.YtfbepcelkijgkaaGreatDoor
