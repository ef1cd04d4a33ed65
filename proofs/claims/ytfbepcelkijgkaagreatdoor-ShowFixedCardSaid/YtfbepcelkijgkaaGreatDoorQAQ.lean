import Derived.Test.YtfbepcelkijgkaaGreatDoorQAP
set_option maxRecDepth 100000
set_option maxHeartbeats 8000000
open Option renaming some → Ya
namespace Go.Proofs.YtfbepcelkijgkaaGreatDoor
section
def ZfG (n d:Int):TS:=[(1,ZbM n)]++[(2,[47])]++[(1,ZbM d)]
def ZiQ (k:Int):TS:=if k=0 then [(0,[97,116])]else if k=1 then [(0,[116,111])]else [(0,[105,110])]
def Zbp (n:Nd):TS:=ZiQ (num n 0)++Zaj [(2,[124])] (n.words.map fun w=>[(0,w)])
def Zee (ns:List Nd) (f:Nat) (n:Nd):TS:=if n.kind=15 then [(2,[38])]++[(0,word n 0)]else ZR ns f n
def Zdy (ns:List Nd) (n:Nd):TS:=
 [(0,word n 0)]++(if n.words.length=1 then []else [(2,[58])]++[(0,word n 1)]++[(0,Zax (num n 0))]++(if 0<num n 2 then [(0,[108,101,97,115,116])]++ZfG (num n 1) (num n 2)else [])++(n.kids.map fun k=>Zbp (Za ns k)).flatten)
def Zct:List Txt->List TS
 |a::b::r=>([(0,a)]++[(0,b)])::Zct r
 |_=>[]
def ZcR (n:Nd):TS:=
 (if n.kind=3 then [(0,[111,112])]++[(0,word n 0)]++[(0,word n 1)]++[(2,[45,62])]++Zaj [(2,[44])] (Zct (n.words.drop 2))
  else if num n 0=0 then [(0,[115,116,97,116,101])]++[(0,word n 0)]else [(0,[102,105,110,97,108])]++[(0,word n 0)])++[(2,[59])]
def ZL (ns:List Nd):Nat->Nd->TS
 |0,_=>[]
 |f+1,n=>
  if n.kind=8 then [(0,[108,101,116])]++([(0,word n 0)]++[(2,[61])]++ZR ns f (Zv ns n 0)++[(2,[59])])
  else if n.kind=9 then [(0,word n 0)]++[(2,[61])]++ZR ns f (Zv ns n 0)++[(2,[59])]
  else if n.kind=10 then [(0,[111,112,101,110])]++[(0,word n 0)]++[(0,word n 1)]++Zaj [(0,[101,108,115,101])] (n.kids.map fun k=>Zaw ((Za ns k).kids.map fun k=>ZL ns f (Za ns k)))
  else if n.kind=11 then [(0,[100,111])]++[(0,word n 0)]++[(2,[46])]++[(0,word n 1)]++(if n.kids=[]then [(2,[59])]else Zaw (n.kids.map fun k=>[(0,word (Za ns k) 0)]++Zaw ((Zv ns (Za ns k) 0).kids.map fun k=>ZL ns f (Za ns k))))
  else if n.kind=13 then [(0,[115,112,108,105,116])]++[(0,word n 0)]++[(2,[61])]++[(0,word n 1)]++[(0,Zax (num n 0))]++ZfG (num n 1) (num n 2)++((n.kids.take (n.kids.length-1)).map fun k=>Zbp (Za ns k)).flatten++Zaw ((Zv ns n (n.kids.length-1)).kids.map fun k=>ZL ns f (Za ns k))
  else if n.kind=14 then [(0,[99,97,108,108])]++(if n.words.length=2 then [(0,word n 1)]++[(2,[61])]else [])++[(0,word n 0)]++[(2,[40])]++Zaj [(2,[44])] (n.kids.map fun k=>Zee ns f (Za ns k))++[(2,[41]),(2,[59])]
  else if n.kind=16 then [(0,[105,102])]++ZR ns f (Zv ns n 0)++Zaj [(0,[101,108,115,101])] ((n.kids.drop 1).map fun k=>Zaw ((Za ns k).kids.map fun k=>ZL ns f (Za ns k)))
  else if n.kind=17 then [(0,[119,104,105,108,101])]++ZR ns f (Zv ns n 0)++Zaw ((Zv ns n 1).kids.map fun k=>ZL ns f (Za ns k))
  else if n.kind=18 then [(0,[114,101,116,117,114,110])]++ZR ns f (Zv ns n 0)++[(2,[59])]
  else if n.kind=19 then [(0,[101,120,105,116])]++[(2,[59])]
  else []
def ZcB (ns:List Nd) (f:Nat) (n:Nd):TS:=
 if n.kind=1 then [(0,[112,114,111,116,111])]++[(0,word n 0)]++Zaw (n.kids.map fun k=>ZcR (Za ns k))
 else [(0,[102,110])]++[(0,word n 0)]++[(2,[40])]++Zaj [(2,[44])] ((n.kids.take (n.kids.length-1)).map fun k=>Zdy ns (Za ns k))++[(2,[41])]++Zaw ((Zv ns n (n.kids.length-1)).kids.map fun k=>ZL ns f (Za ns k))
def Zn3 (ns:List Nd):TS:=((Za ns 0).kids.map fun k=>ZcB ns ns.length (Za ns k)).flatten
theorem ts8 {ns:List Nd} {f e:Nat} {n:Nd} (hk:n.kind=8):Zk ns (f+1) e n=[108,101,116,32]++(word n 0++[32,61,32]++ZD ns f (Zv ns n 0)++[59]):=by simp[Zk,hk,Ze8]
theorem ks8 {ns:List Nd} {f:Nat} {n:Nd} (hk:n.kind=8):ZL ns (f+1) n=[(0,[108,101,116])]++([(0,word n 0)]++[(2,[61])]++ZR ns f (Zv ns n 0)++[(2,[59])]):=by simp[ZL,hk]
theorem ts9 {ns:List Nd} {f e:Nat} {n:Nd} (hk:n.kind=9):Zk ns (f+1) e n=word n 0++[32,61,32]++ZD ns f (Zv ns n 0)++[59]:=by simp[Zk,hk,Ze8]
theorem ks9 {ns:List Nd} {f:Nat} {n:Nd} (hk:n.kind=9):ZL ns (f+1) n=[(0,word n 0)]++[(2,[61])]++ZR ns f (Zv ns n 0)++[(2,[59])]:=by simp[ZL,hk]
theorem Zsu {ns:List Nd} {f e:Nat} {n:Nd} (hk:n.kind=10):Zk ns (f+1) e n=[111,112,101,110,32]++word n 0++[32]++word n 1++Zak [32,101,108,115,101] (n.kids.map fun k=>ZI e ((Za ns k).kids.map fun k=>Zk ns f (e+1) (Za ns k))):=by simp[Zk,hk]
theorem Zns {ns:List Nd} {f:Nat} {n:Nd} (hk:n.kind=10):ZL ns (f+1) n=[(0,[111,112,101,110])]++[(0,word n 0)]++[(0,word n 1)]++Zaj [(0,[101,108,115,101])] (n.kids.map fun k=>Zaw ((Za ns k).kids.map fun k=>ZL ns f (Za ns k))):=by simp[ZL,hk]
theorem Zsv {ns:List Nd} {f e:Nat} {n:Nd} (hk:n.kind=11):Zk ns (f+1) e n=[100,111,32]++word n 0++[46]++word n 1++(if n.kids=[]then [59]else ZI e (n.kids.map fun k=>word (Za ns k) 0++ZI (e+1) ((Zv ns (Za ns k) 0).kids.map fun k=>Zk ns f (e+1+1) (Za ns k)))):=by simp[Zk,hk]
theorem ZkY {ns:List Nd} {f:Nat} {n:Nd} (hk:n.kind=11):ZL ns (f+1) n=[(0,[100,111])]++[(0,word n 0)]++[(2,[46])]++[(0,word n 1)]++(if n.kids=[]then [(2,[59])]else Zaw (n.kids.map fun k=>[(0,word (Za ns k) 0)]++Zaw ((Zv ns (Za ns k) 0).kids.map fun k=>ZL ns f (Za ns k)))):=by simp[ZL,hk]
theorem Zsw {ns:List Nd} {f e:Nat} {n:Nd} (hk:n.kind=13):Zk ns (f+1) e n=[115,112,108,105,116,32]++word n 0++[32,61,32]++word n 1++[32]++Zax (num n 0)++[32]++Zdh (num n 1) (num n 2)++((n.kids.take (n.kids.length-1)).map fun k=>ZaT (Za ns k)).flatten++ZI e ((Zv ns n (n.kids.length-1)).kids.map fun k=>Zk ns f (e+1) (Za ns k)):=by simp[Zk,hk]
theorem Znt {ns:List Nd} {f:Nat} {n:Nd} (hk:n.kind=13):ZL ns (f+1) n=[(0,[115,112,108,105,116])]++[(0,word n 0)]++[(2,[61])]++[(0,word n 1)]++[(0,Zax (num n 0))]++ZfG (num n 1) (num n 2)++((n.kids.take (n.kids.length-1)).map fun k=>Zbp (Za ns k)).flatten++Zaw ((Zv ns n (n.kids.length-1)).kids.map fun k=>ZL ns f (Za ns k)):=by simp[ZL,hk]
theorem Zsx {ns:List Nd} {f e:Nat} {n:Nd} (hk:n.kind=14):Zk ns (f+1) e n=[99,97,108,108,32]++(if n.words.length=2 then word n 1++[32,61,32]else [])++word n 0++[40]++Zak [44,32] (n.kids.map fun k=>Zb9 ns f (Za ns k))++[41,59]:=by simp[Zk,hk]
theorem ZkZ {ns:List Nd} {f:Nat} {n:Nd} (hk:n.kind=14):ZL ns (f+1) n=[(0,[99,97,108,108])]++(if n.words.length=2 then [(0,word n 1)]++[(2,[61])]else [])++[(0,word n 0)]++[(2,[40])]++Zaj [(2,[44])] (n.kids.map fun k=>Zee ns f (Za ns k))++[(2,[41]),(2,[59])]:=by simp[ZL,hk]
theorem Zsy {ns:List Nd} {f e:Nat} {n:Nd} (hk:n.kind=16):Zk ns (f+1) e n=[105,102,32]++ZD ns f (Zv ns n 0)++Zak [32,101,108,115,101] ((n.kids.drop 1).map fun k=>ZI e ((Za ns k).kids.map fun k=>Zk ns f (e+1) (Za ns k))):=by simp[Zk,hk]
theorem Zk0 {ns:List Nd} {f:Nat} {n:Nd} (hk:n.kind=16):ZL ns (f+1) n=[(0,[105,102])]++ZR ns f (Zv ns n 0)++Zaj [(0,[101,108,115,101])] ((n.kids.drop 1).map fun k=>Zaw ((Za ns k).kids.map fun k=>ZL ns f (Za ns k))):=by simp[ZL,hk]
theorem Zsz {ns:List Nd} {f e:Nat} {n:Nd} (hk:n.kind=17):Zk ns (f+1) e n=[119,104,105,108,101,32]++ZD ns f (Zv ns n 0)++ZI e ((Zv ns n 1).kids.map fun k=>Zk ns f (e+1) (Za ns k)):=by simp[Zk,hk]
theorem Zqf {ns:List Nd} {f:Nat} {n:Nd} (hk:n.kind=17):ZL ns (f+1) n=[(0,[119,104,105,108,101])]++ZR ns f (Zv ns n 0)++Zaw ((Zv ns n 1).kids.map fun k=>ZL ns f (Za ns k)):=by simp[ZL,hk]
theorem ZsA {ns:List Nd} {f e:Nat} {n:Nd} (hk:n.kind=18):Zk ns (f+1) e n=[114,101,116,117,114,110,32]++ZD ns f (Zv ns n 0)++[59]:=by simp[Zk,hk]
theorem Zqg {ns:List Nd} {f:Nat} {n:Nd} (hk:n.kind=18):ZL ns (f+1) n=[(0,[114,101,116,117,114,110])]++ZR ns f (Zv ns n 0)++[(2,[59])]:=by simp[ZL,hk]
theorem ZsB {ns:List Nd} {f e:Nat} {n:Nd} (hk:n.kind=19):Zk ns (f+1) e n=[101,120,105,116,59]:=by simp[Zk,hk]
theorem Zqh {ns:List Nd} {f:Nat} {n:Nd} (hk:n.kind=19):ZL ns (f+1) n=[(0,[101,120,105,116])]++[(2,[59])]:=by simp[ZL,hk]
theorem ZmY {n d:Int} (a:ZaH n) (b:ZaH d):Tx (Zdh n d) (ZfG n d) Za0 Za3:=by have s:Tx [47] [(2,[47])] Za3 Za0:=Zda (by decide) (by decide);exact((Zlz a).app s ZbS).app (Zlz b) ZbS
theorem ZmZ (k:Int):Tx (Zax k) [(0,Zax k)] Za0 Za3:=by
 unfold Zax
 repeat' split
 all_goals exact Zkv rfl (by decide) (by decide)
theorem Zdc {w:Txt} {c:UInt8} {q:Txt} (e:w=c::q) (a:ZbP c=true) (b:(c::q).all Za2=true):Tx (w++[32]) [(0,w)] Za0 ZcL:=(Zkv e a b).sp
theorem ZrX (k:Int):Tx (ZcY k) (ZiQ k) Zdx ZcL:=by
 unfold ZcY ZiQ;have h (a b:UInt8) (c:ZbP a=true) (d:[a,b].all Za2=true):Tx [32,a,b,32] [(0,[a,b])] Zdx ZcL:=by have:=Zdv.app (Zdc (w:=[a,b]) rfl c d) ZU;simpa using this
 split
 ·exact h _ _ (by decide) (by decide)
 split
 ·exact h _ _ (by decide) (by decide)
 ·exact h _ _ (by decide) (by decide)
theorem Zsk:Tx [124] [(2,[124])] Za3 Za0:=Zda (by decide) (by decide)
theorem ZiB:Tx [44,32] [(2,[44])] Za3 ZcL:=by have s:Tx [44] [(2,[44])] Za3 Za0:=Zda (by decide) (by decide);have:=s.app Zdv fun c=>ZeA;simpa using this
theorem Zn8:Tx [32,61,32] [(2,[61])] Zdx ZcL:=ZeL (by decide)
theorem ZrW:Tx [32,101,108,115,101] [(0,[101,108,115,101])] Zdx Za3:=by have:=Zdv.app (Zkv (w:=[101,108,115,101]) rfl (by decide) (by decide)) ZU;simpa using this
theorem ZlA {ns:List Nd} (R:RightP ns) {i:Nat} {n:Nd} (hn:ns[i]? = Ya n) (h:Zez n):Tx (ZaT n) (Zbp n) Zdx Za3:=by have e:=ZhR (F:=fun w:Txt=>w) (G:=fun w:Txt=>([(0,w)]:TS)) Zsk (o:=Za3) (h:=Za0) (fun c h=>h) (fun c h=>h) n.words (fun e=>by have:=h.1;rw[e]at this;exact absurd this (by simp)) fun w a=>Zfa (List.all_eq_true.mp (R.node i n hn).1 w a);rw[List.map_id']at e;exact(ZrX _).app e ZU
theorem ZjD {b:Type} {F:b->Txt} {G:b->TS}:∀(l:List b),(∀a∈l,Tx (F a) (G a) Zdx Za3)->Lx ((l.map F).flatten) ((l.map G).flatten) Za3/\∀c r,(l.map F).flatten=c::r->Za3 c=true
 |[],_=>⟨Lx.nil _,fun c r e=>nomatch e⟩
 |a::l,h=>by
  obtain⟨i,i2⟩:=ZjD l fun x hx=>h x (by simp[hx]);have f:=h a (by simp);have:=f.opt i i2 (fun _ h=>h);rw[List.map_cons,List.map_cons,List.flatten_cons,List.flatten_cons];refine⟨this.1,fun c r e=>?_⟩;obtain⟨d,s,g,hd⟩:=f.2;rw[g]at e;injection e with e1;subst e1;exact Zcq hd
theorem Tx.flat {b:Type} {F:b->Txt} {G:b->TS} {x:Txt} {us:TS} {h:UInt8->Bool} (a:Tx x us h Za3) (l:List b) (k:∀y∈l,Tx (F y) (G y) Zdx Za3):Tx (x++(l.map F).flatten) (us++(l.map G).flatten) h Za3:=
 a.opt (ZjD l k).1 (ZjD l k).2 (fun _ h=>h)
theorem Zm5 {n:Nd} {k:Nat} {s:Txt} (h:n.words[k]? = Ya s):word n k=s:=by unfold word;rw[h];rfl
theorem ZcG {n:Nd} {k:Nat} {z:Int} (h:n.nums[k]? = Ya z):num n k=z:=by unfold num;rw[h];rfl
theorem ZcO {ns:List Nd} (R:RightP ns) {i:Nat} {n:Nd} (hn:ns[i]? = Ya n) {k:Nat} {s:Txt} (h:n.words[k]? = Ya s):Tx (word n k) [(0,word n k)] Za0 Za3:=by rw[Zm5 h];exact Zfa (ZgD R hn h)
theorem Zsj {ns:List Nd} (R:RightP ns) {f i:Nat} {n:Nd} (hn:ns[i]? = Ya n) (h:ZfD ns f n):Tx (Zb9 ns f n) (Zee ns f n) Za0 Za3:=by
 unfold Zb9 Zee;rcases h with⟨hk,s,r,hs⟩|⟨hk,hv⟩
 ·rw[Yo hk,Yo hk];have a:Tx [38] [(2,[38])] Za0 Za0:=Zda (by decide) (by decide);exact a.app (ZcO R hn (k:=0) (s:=s) (by rw[hs];rfl)) ZbS
 ·rw[Yn hk,Yn hk];exact Zh1 R f i n hn hv
theorem Zsn {ns:List Nd} (R:RightP ns) {f i:Nat} {n:Nd} {s:Txt} {k:Int} (hn:ns[i]? = Ya n) (hs:n.words=[s]) (hk:n.kids=[k]) (hv:Zaa ns [k] (ZS ns f)):Tx (word n 0++[32,61,32]++ZD ns f (Zv ns n 0)++[59]) ([(0,word n 0)]++[(2,[61])]++ZR ns f (Zv ns n 0)++[(2,[59])]) Za0 Za0:=by obtain⟨j,a⟩:=ZaA R hn (k:=k) (by rw[hk];simp);rw[Za1 (m:=0) (k:=k) (by rw[hk];rfl)];exact(((ZcO R hn (k:=0) (s:=s) (by rw[hs];rfl)).app Zn8 fun c=>Zcq).app (Zh1 R f j _ a (hv k (by simp)).2.2) ZU).semi
end
section
theorem Zsl:Tx [46] [(2,[46])] Za3 Za0:=Zda (by decide) (by decide)
theorem Zm1 {ns:List Nd} (R:RightP ns):∀(f e i:Nat) (n:Nd),ns[i]? = Ya n->Zbj ns f n->Tx (Zk ns f e n) (ZL ns f n) Za0 Za3
 |0,_,_,_,_,h=>h.elim
 |f+1,e,i,n,hn,h=>by
  have u:∀(C:Nat) (m:Nd) (j:Nat),ns[j]? = Ya m->Zch ns (fun x=>Zbj ns f x) m->Tx (ZI C (m.kids.map fun k=>Zk ns f (C+1) (Za ns k))) (Zaw (m.kids.map fun k=>ZL ns f (Za ns k))) Zdx Za0:=fun C m j X hm=>
   Zgr C m.kids fun k hk=>by
    obtain⟨q,hq⟩:=ZaA R X hk;exact Zm1 R f (C+1) q _ hq (hm k hk).2.2
  have y:∀(A:List Int),A≠[]->(∀k∈A,k∈n.kids)->Zaa ns A (Zch ns fun x=>Zbj ns f x)->Tx (Zak [32,101,108,115,101] (A.map fun k=>ZI e ((Za ns k).kids.map fun k=>Zk ns f (e+1) (Za ns k)))) (Zaj [(0,[101,108,115,101])] (A.map fun k=>Zaw ((Za ns k).kids.map fun k=>ZL ns f (Za ns k)))) Zdx Za0:=fun A J hs g=>
   ZhR ZrW (fun c=>ZeA) (fun c=>Zcq) A J fun k hk=>by
    obtain⟨q,hq⟩:=ZaA R hn (hs k hk);exact u e _ q hq (g k hk).2.2
  have v:∀{k:Nat} {s:Txt},n.words[k]? = Ya s->Tx (word n k) [(0,word n k)] Za0 Za3:=fun h=>ZcO R hn h
  have I:∀{m:Nat} {k:Int},n.kids[m]? = Ya k->Zaa ns [k] (ZS ns f)->Tx (ZD ns f (Zv ns n m)) (ZR ns f (Zv ns n m)) Za0 Za3:=fun {m k} hk hv=>by
   obtain⟨q,hq⟩:=ZaA R hn (List.mem_of_getElem? hk);rw[Za1 hk];exact Zh1 R f q _ hq (hv k (by simp)).2.2
  rw[Zbj]at h;rcases h with⟨hk,⟨s,hs⟩,k,d,hv⟩|⟨hk,⟨a,b,hs⟩,⟨j,k,d⟩,g⟩|⟨hk,⟨a,b,hs⟩,g⟩|⟨hk,⟨a,b,hs⟩,⟨p,q,r,hm,h0,h4,hq,M⟩,l,k,d,K,g⟩|⟨hk,hs,g⟩|⟨hk,k,r,d,M,hv,g⟩|⟨hk,j,k,d,hv,g⟩|⟨hk,k,d,hv⟩|hk
  ·have Q:=Zsn R hn hs d hv;rcases hk with hk|hk
   ·rw[ts8 hk,ks8 hk];have:=(Zdc (w:=[108,101,116]) rfl (by decide) (by decide)).app Q ZU;exact this.less fun c=>Zbu
   ·rw[ts9 hk,ks9 hk];exact Q.less fun c=>Zbu
  ·rw[Zsu hk,Zns hk];have:=((((Zdc (w:=[111,112,101,110]) rfl (by decide) (by decide)).app (v (k:=0) (s:=a) (by rw[hs];rfl)) ZU).sp).app (v (k:=1) (s:=b) (by rw[hs];rfl)) ZU).app (y n.kids (by rw[d];simp) (fun k hk=>hk) g) fun c=>Zcq;exact this.less fun c=>Zbu
  ·rw[Zsv hk,ZkY hk];have o:=(((Zdc (w:=[100,111]) rfl (by decide) (by decide)).app (v (k:=0) (s:=a) (by rw[hs];rfl)) ZU).app Zsl ZbS).app (v (k:=1) (s:=b) (by rw[hs];rfl)) ZbS
   split
   ·exact(o.semi).less fun c=>Zbu
   ·have V:=Zgr e (F:=fun k=>word (Za ns k) 0++ZI (e+1) ((Zv ns (Za ns k) 0).kids.map fun k=>Zk ns f (e+1+1) (Za ns k))) (G:=fun k=>[(0,word (Za ns k) 0)]++Zaw ((Zv ns (Za ns k) 0).kids.map fun k=>ZL ns f (Za ns k))) n.kids fun k hk=>by
     obtain⟨q,hq⟩:=ZaA R hn hk;obtain⟨⟨s,r,Y⟩,N,E,W⟩:=(g k hk).2.2;obtain⟨H,t⟩:=ZaA R hq (k:=N) (by rw[E];simp);have B:=u (e+1) _ H t (W N (by simp)).2.2;rw[Za1 (m:=0) (k:=N) (by rw[E];rfl)];exact((ZcO R hq (k:=0) (s:=s) (by rw[Y];rfl)).app B fun c=>Zcq).less fun c=>Zbu
    exact(o.app V fun c=>Zcq).less fun c=>Zbu
  ·rw[Zsw hk,Znt hk];have t2:n.kids.take (n.kids.length-1)=l:=by rw[d];simp
   have lk:n.kids[n.kids.length-1]? = Ya k:=by rw[d];simp
   obtain⟨H,t⟩:=ZaA R hn (List.mem_of_getElem? lk);have B:=u e _ H t (g k (by simp)).2.2;have Z:ZaH (num n 1):=by rw[ZcG (k:=1) (z:=q) (by rw[hm];rfl)];exact hq
   have n2:ZaH (num n 2):=by rw[ZcG (k:=2) (z:=r) (by rw[hm];rfl)];exact M
   rw[t2,Za1 lk]
   have o:=((((((((Zdc (w:=[115,112,108,105,116]) rfl (by decide) (by decide)).app (v (k:=0) (s:=a) (by rw[hs];rfl)) ZU).app Zn8 fun c=>Zcq).app (v (k:=1) (s:=b) (by rw[hs];rfl)) ZU).sp).app (ZmZ (num n 0)) ZU).sp).app (ZmY Z n2) ZU).flat (F:=fun k=>ZaT (Za ns k)) (G:=fun k=>Zbp (Za ns k)) l fun k hk=>by
    obtain⟨q3,L⟩:=ZaA R hn (k:=k) (by rw[d];simp[hk]);exact ZlA R L (K k hk).2.2
   exact(o.app B fun c=>Zcq).less fun c=>Zbu
  ·rw[Zsx hk,ZkZ hk];have hc:Tx ([41,59]:Txt) [(2,[41]),(2,[59])] Za3 Za0:=by have U:Tx [41] [(2,[41])] Za3 Za0:=Zhb;exact U.app Zm0 fun c=>Zbu
   have P:=Zdc (w:=[99,97,108,108]) rfl (by decide) (by decide)
   have D:∀{x:Txt} {O:TS},Tx x O Za0 Za3->Tx (x++[40]++Zak [44,32] (n.kids.map fun k=>Zb9 ns f (Za ns k))++[41,59]) (O++[(2,[40])]++Zaj [(2,[44])] (n.kids.map fun k=>Zee ns f (Za ns k))++[(2,[41]),(2,[59])]) Za0 Za3:=fun {x O} hx=>by
    have o:=hx.app ZjL ZbS;by_cases S:n.kids=[]
    ·rw[S];have:=o.app hc fun c=>Zbu;simpa[Zak,Zaj]using this.less fun c=>Zbu
    ·have T:=ZhR (F:=fun k=>Zb9 ns f (Za ns k)) (G:=fun k=>Zee ns f (Za ns k)) ZiB (fun c h=>h) ZU n.kids S fun k hk=>by
      obtain⟨q,hq⟩:=ZaA R hn hk;exact Zsj R hq (g k hk).2.2
     exact((o.app T ZbS).app hc ZbS).less fun c=>Zbu
   rcases hs with⟨a,hs⟩|⟨a,b,hs⟩
   ·rw[Yn (by rw[hs];simp),Yn (by rw[hs];simp),List.append_nil,List.append_nil];exact D (P.app (v (k:=0) (s:=a) (by rw[hs];rfl)) ZU)
   ·rw[Yo (by rw[hs];rfl),Yo (by rw[hs];rfl)];have o:=(v (k:=1) (s:=b) (by rw[hs];rfl)).app Zn8 fun c=>Zcq;exact D ((P.app o ZU).app (v (k:=0) (s:=a) (by rw[hs];rfl)) ZU)
  ·rw[Zsy hk,Zk0 hk];have t2:n.kids.drop 1=r:=by rw[d];rfl
   rw[t2];have o:=((Zdc (w:=[105,102]) rfl (by decide) (by decide)).app (I (m:=0) (k:=k) (by rw[d];rfl) hv) ZU).app (y r M (fun k hk=>by rw[d];simp[hk]) g) fun c=>Zcq;exact o.less fun c=>Zbu
  ·rw[Zsz hk,Zqf hk];have lk:n.kids[1]? = Ya k:=by rw[d];rfl
   obtain⟨H,t⟩:=ZaA R hn (List.mem_of_getElem? lk);have B:=u e _ H t (g k (by simp)).2.2;rw[Za1 (m:=1) lk];exact(((Zdc (w:=[119,104,105,108,101]) rfl (by decide) (by decide)).app (I (m:=0) (k:=j) (by rw[d];rfl) hv) ZU).app B fun c=>Zcq).less fun c=>Zbu
  ·rw[ZsA hk,Zqg hk];exact(((Zdc (w:=[114,101,116,117,114,110]) rfl (by decide) (by decide)).app (I (m:=0) (k:=k) (by rw[d];rfl) hv) ZU).semi).less fun c=>Zbu
  ·rw[ZsB hk,Zqh hk];have:=(Zkv (w:=[101,120,105,116]) rfl (by decide) (by decide)).semi;exact this.less fun c=>Zbu
theorem ZlB:∀(l:List Txt),l.length % 2=0->2<=l.length->(∀w∈l,ZN w=true)->Tx (Zak [44,32] (Za9 l)) (Zaj [(2,[44])] (Zct l)) Za0 Za3
 |[],_,h,_=>by simp at h
 |[_],h,_,_=>by simp at h
 |[a,b],_,_,hw=>by
  have:=((Zfa (hw a (by simp))).sp).app (Zfa (hw b (by simp))) ZU;simpa[Za9,Zct,Zak,Zaj]using this
 |[a,b,c],h,_,_=>by simp at h
 |a::b::c::d::r,h,_,hw=>by
  have f:=((Zfa (hw a (by simp))).sp).app (Zfa (hw b (by simp))) ZU;have g:=ZlB (c::d::r) (by simp only[Yk]at h⊢;omega) (by simp) fun w hx=>hw w (List.mem_cons_of_mem _ (List.mem_cons_of_mem _ hx));have i:=(f.app ZiB ZbS).app g ZU;have e1:Zak [44,32] (Za9 (a::b::c::d::r))=a++[32]++b++[44,32]++Zak [44,32] (Za9 (c::d::r)):=by simp[Za9,Zak]
  have e:Zaj [(2,[44])] (Zct (a::b::c::d::r))=[(0,a)]++[(0,b)]++[(2,[44])]++Zaj [(2,[44])] (Zct (c::d::r)):=by simp[Zct,Zaj]
  rw[e1,e];exact i
theorem ZrZ {ns:List Nd} (R:RightP ns) {i:Nat} {n:Nd} (hn:ns[i]? = Ya n) (h:Zfm n):Tx (ZbU n) (ZcR n) Za0 Za3:=by
 unfold ZbU ZcR;rcases h with⟨hk,a,b,r,hs,e,m⟩|⟨hk,⟨s,hs⟩,z,hm,p,f⟩
 ·rw[Yo hk,Yo hk];have o:∀w∈r,ZN w=true:=fun w hx=>List.all_eq_true.mp (R.node i n hn).1 w (by rw[hs];simp[hx]);have e1:=ZlB r e m o;have j:Tx [32,45,62,32] [(2,[45,62])] Zdx ZcL:=by have t2:Tx [45,62] [(2,[45,62])] ZcL ZcL:=ZpE (.inr ⟨rfl,rfl⟩) rfl;have:=(Zdv.app t2 ZU).app Zdv ZU;simpa using this
  have l:n.words.drop 2=r:=by rw[hs];rfl
  rw[l];have f:=((((Zdc (w:=[111,112]) rfl (by decide) (by decide)).app (ZcO R hn (k:=0) (s:=a) (by rw[hs];rfl)) ZU).sp).app (ZcO R hn (k:=1) (s:=b) (by rw[hs];rfl)) ZU).app j fun c=>Zcq;exact((f.app e1 ZU).semi).less fun c=>Zbu
 ·have g:¬n.kind=3:=by rw[hk];decide
  rw[Yn g,Yn g];by_cases d:num n 0=0
  ·rw[Yo d,Yo d];exact(((Zdc (w:=[115,116,97,116,101]) rfl (by decide) (by decide)).app (ZcO R hn (k:=0) (s:=s) (by rw[hs];rfl)) ZU).semi).less fun c=>Zbu
  ·rw[Yn d,Yn d];exact(((Zdc (w:=[102,105,110,97,108]) rfl (by decide) (by decide)).app (ZcO R hn (k:=0) (s:=s) (by rw[hs];rfl)) ZU).semi).less fun c=>Zbu
theorem ZqQ {ns:List Nd} (R:RightP ns) {i:Nat} {n:Nd} (hn:ns[i]? = Ya n) (h:Zgx ns n):Tx (ZbO ns n) (Zdy ns n) Za0 Za3:=by
 unfold ZbO Zdy;rcases h with⟨s,hs⟩|⟨⟨a,b,hs⟩,⟨p,q,r,hm,D,E,hq,v⟩,f⟩
 ·rw[Yo (by rw[hs];rfl),Yo (by rw[hs];rfl),List.append_nil,List.append_nil];exact ZcO R hn (k:=0) (s:=s) (by rw[hs];rfl)
 ·have t:¬n.words.length=1:=by rw[hs];simp
  rw[Yn t,Yn t];have B:ZaH (num n 1):=by rw[ZcG (k:=1) (z:=q) (by rw[hm];rfl)];exact hq
  have C:ZaH (num n 2):=by rw[ZcG (k:=2) (z:=r) (by rw[hm];rfl)];exact v
  have e:Tx [58,32] [(2,[58])] Za3 ZcL:=by have s:Tx [58] [(2,[58])] Za3 Za0:=Zda (by decide) (by decide);have:=s.app Zdv fun c=>ZeA;simpa using this
  have m:=(((e.app (ZcO R hn (k:=1) (s:=b) (by rw[hs];rfl)) ZU).sp).app (ZmZ (num n 0)) ZU)
  have o:∀y∈n.kids,Tx (ZaT (Za ns y)) (Zbp (Za ns y)) Zdx Za3:=fun y l=>by
   obtain⟨H,g⟩:=ZaA R hn l;exact ZlA R g (f y l).2.2
  have u:=ZcO R hn (k:=0) (s:=a) (by rw[hs];rfl);by_cases d:0<num n 2
  ·rw[Yo d,Yo d];have A:Tx [32,108,101,97,115,116,32] [(0,[108,101,97,115,116])] Zdx ZcL:=by have:=Zdv.app (Zdc (w:=[108,101,97,115,116]) rfl (by decide) (by decide)) ZU;simpa using this
   have j:=(m.app (A.app (ZmY B C) ZU) fun c=>Zcq).flat (F:=fun k=>ZaT (Za ns k)) (G:=fun k=>Zbp (Za ns k)) n.kids o;exact u.app j ZbS
  ·have j:=m.flat (F:=fun k=>ZaT (Za ns k)) (G:=fun k=>Zbp (Za ns k)) n.kids o;rw[Yn d,Yn d,List.append_nil,List.append_nil];exact u.app j ZbS
theorem ZrY {ns:List Nd} (R:RightP ns) {f i:Nat} {n:Nd} (hn:ns[i]? = Ya n) (h:Zfl ns f n):Tx (Zcl ns f n) (ZcB ns f n) Za0 Za3:=by
 unfold Zcl ZcB;rcases h with⟨hk,⟨s,hs⟩,b⟩|⟨hk,⟨s,hs⟩,l,k,a,g,b⟩
 ·rw[Yo hk,Yo hk]
  have e:=Zgr 0 (F:=fun k=>ZbU (Za ns k)) (G:=fun k=>ZcR (Za ns k)) n.kids fun k hk=>by
   obtain⟨q,hq⟩:=ZaA R hn hk;exact ZrZ R hq (b k hk).2.2
  exact(((Zdc (w:=[112,114,111,116,111]) rfl (by decide) (by decide)).app (ZcO R hn (k:=0) (s:=s) (by rw[hs];rfl)) ZU).app e fun c=>Zcq).less fun c=>Zbu
 ·have p:¬n.kind=1:=by rw[hk];decide
  rw[Yn p,Yn p];have t2:n.kids.take (n.kids.length-1)=l:=by rw[a];simp
  have lk:n.kids[n.kids.length-1]? = Ya k:=by rw[a];simp
  obtain⟨u,j⟩:=ZaA R hn (List.mem_of_getElem? lk)
  have e:=Zgr 0 (F:=fun k=>Zk ns f 1 (Za ns k)) (G:=fun k=>ZL ns f (Za ns k)) (Za ns k).kids fun t d=>by
   obtain⟨q,hq⟩:=ZaA R j d;exact Zm1 R f 1 q _ hq ((b k (by simp)).2.2 t d).2.2
  rw[t2,Za1 lk];have m:=((Zdc (w:=[102,110]) rfl (by decide) (by decide)).app (ZcO R hn (k:=0) (s:=s) (by rw[hs];rfl)) ZU).app ZjL ZbS;by_cases o:l=[]
  ·rw[o];have:=(m.app Zhb fun c=>Zbu).app e fun c=>ZeA;simpa[Zak,Zaj]using this.less fun c=>Zbu
  ·have r:=ZhR (F:=fun k=>ZbO ns (Za ns k)) (G:=fun k=>Zdy ns (Za ns k)) ZiB (fun c h=>h) ZU l o fun k hk=>by
    obtain⟨q,hq⟩:=ZaA R hn (k:=k) (by rw[a];simp[hk]);exact ZqQ R hq (g k hk).2.2
   exact(((m.app r ZbS).app Zhb ZbS).app e fun c=>ZeA).less fun c=>Zbu
theorem Zpt {ns:List Nd} (d:Zcu ns=true):∃ms:List Tok,ms.map kt=Zn3 ns/\Zbv (ZbC ns) 0=.ok (ms++[(3,[],(ZbC ns).length)]):=by
 have R:=Zew d;have a:ns[0]? = Ya (Za ns 0):=by have a:ns[0]? = Ya (ns[0]'R.some_):=Ym R.some_;rw[a,<-ZbX (k:=0) a];rfl
 have f:ZbC ns=Zbo 0 ((Za ns 0).kids.map fun k=>Zcl ns ns.length (Za ns k)):=by unfold ZbC;rw[d];rfl
 have L:=Zio 0 (F:=fun k=>Zcl ns ns.length (Za ns k)) (G:=fun k=>ZcB ns ns.length (Za ns k)) (Za ns 0).kids fun k hk=>by
  obtain⟨q,hq⟩:=ZaA R a hk;exact ZrY R hq (ZfH R k hk).2.2
 rw[<-f]at L;obtain⟨ms,g,b⟩:=L [] 0 (fun c r e=>nomatch e);refine⟨ms,g,?_⟩;rw[List.append_nil]at b;rw[b,Zg0,Nat.zero_add];rfl
end
end Go.Proofs.YtfbepcelkijgkaaGreatDoor
