import Derived.Test.YtkongcicmajolaaGreatDoorQAQ
set_option maxRecDepth 100000
set_option maxHeartbeats 8000000
namespace Go.Proofs.YtkongcicmajolaaGreatDoor
section
def ZfI (n d:Int):TS:=[(1,ZbP n)]++[(2,[47])]++[(1,ZbP d)]
def ZiQ (k:Int):TS:=if k=0 then [(0,[97,116])] else if k=1 then [(0,[116,111])] else [(0,[105,110])]
def Zbr (n:Nd):TS:=ZiQ (num n 0)++Zak [(2,[124])] (n.words.map fun w=>[(0,w)])
def Zeg (ns:List Nd) (f:Nat) (n:Nd):TS:=if n.kind=15 then [(2,[38])]++[(0,word n 0)] else ZS ns f n
def ZdA (ns:List Nd) (n:Nd):TS:=
 [(0,word n 0)]++(if n.words.length=1 then [] else [(2,[58])]++[(0,word n 1)]++[(0,Zax (num n 0))]++(if 0<num n 2 then [(0,[108,101,97,115,116])]++ZfI (num n 1) (num n 2) else [])++(n.kids.map fun k=>Zbr (Za ns k)).flatten)
def Zcv:List Txt->List TS
 | a::b::r=>([(0,a)]++[(0,b)])::Zcv r
 | _=>[]
def ZcS (n:Nd):TS:=
 (if n.kind=3 then [(0,[111,112])]++[(0,word n 0)]++[(0,word n 1)]++[(2,[45,62])]++Zak [(2,[44])] (Zcv (n.words.drop 2))
  else if num n 0=0 then [(0,[115,116,97,116,101])]++[(0,word n 0)] else [(0,[102,105,110,97,108])]++[(0,word n 0)])++[(2,[59])]
def ZL (ns:List Nd):Nat->Nd->TS
 | 0,_=>[]
 | f+1,n=>
  if n.kind=8 then [(0,[108,101,116])]++([(0,word n 0)]++[(2,[61])]++ZS ns f (Zw ns n 0)++[(2,[59])])
  else if n.kind=9 then [(0,word n 0)]++[(2,[61])]++ZS ns f (Zw ns n 0)++[(2,[59])]
  else if n.kind=10 then [(0,[111,112,101,110])]++[(0,word n 0)]++[(0,word n 1)]++Zak [(0,[101,108,115,101])] (n.kids.map fun k=>Zaw ((Za ns k).kids.map fun k=>ZL ns f (Za ns k)))
  else if n.kind=11 then [(0,[100,111])]++[(0,word n 0)]++[(2,[46])]++[(0,word n 1)]++(if n.kids=[] then [(2,[59])] else Zaw (n.kids.map fun k=>[(0,word (Za ns k) 0)]++Zaw ((Zw ns (Za ns k) 0).kids.map fun k=>ZL ns f (Za ns k))))
  else if n.kind=13 then [(0,[115,112,108,105,116])]++[(0,word n 0)]++[(2,[61])]++[(0,word n 1)]++[(0,Zax (num n 0))]++ZfI (num n 1) (num n 2)++((n.kids.take (n.kids.length-1)).map fun k=>Zbr (Za ns k)).flatten++Zaw ((Zw ns n (n.kids.length-1)).kids.map fun k=>ZL ns f (Za ns k))
  else if n.kind=14 then [(0,[99,97,108,108])]++(if n.words.length=2 then [(0,word n 1)]++[(2,[61])] else [])++[(0,word n 0)]++[(2,[40])]++Zak [(2,[44])] (n.kids.map fun k=>Zeg ns f (Za ns k))++[(2,[41]),(2,[59])]
  else if n.kind=16 then [(0,[105,102])]++ZS ns f (Zw ns n 0)++Zak [(0,[101,108,115,101])] ((n.kids.drop 1).map fun k=>Zaw ((Za ns k).kids.map fun k=>ZL ns f (Za ns k)))
  else if n.kind=17 then [(0,[119,104,105,108,101])]++ZS ns f (Zw ns n 0)++Zaw ((Zw ns n 1).kids.map fun k=>ZL ns f (Za ns k))
  else if n.kind=18 then [(0,[114,101,116,117,114,110])]++ZS ns f (Zw ns n 0)++[(2,[59])]
  else if n.kind=19 then [(0,[101,120,105,116])]++[(2,[59])]
  else []
def ZcD (ns:List Nd) (f:Nat) (n:Nd):TS:=
 if n.kind=1 then [(0,[112,114,111,116,111])]++[(0,word n 0)]++Zaw (n.kids.map fun k=>ZcS (Za ns k))
 else [(0,[102,110])]++[(0,word n 0)]++[(2,[40])]++Zak [(2,[44])] ((n.kids.take (n.kids.length-1)).map fun k=>ZdA ns (Za ns k))++[(2,[41])]++Zaw ((Zw ns n (n.kids.length-1)).kids.map fun k=>ZL ns f (Za ns k))
def Zn3 (ns:List Nd):TS:=((Za ns 0).kids.map fun k=>ZcD ns ns.length (Za ns k)).flatten
theorem ts8 {ns:List Nd} {f e:Nat} {n:Nd} (hk:n.kind=8):Zl ns (f+1) e n=[108,101,116,32]++(word n 0++[32,61,32]++Zx ns f (Zw ns n 0)++[59]):=by simp [Zl,hk,Zfa]
theorem ks8 {ns:List Nd} {f:Nat} {n:Nd} (hk:n.kind=8):ZL ns (f+1) n=[(0,[108,101,116])]++([(0,word n 0)]++[(2,[61])]++ZS ns f (Zw ns n 0)++[(2,[59])]):=by simp [ZL,hk]
theorem ts9 {ns:List Nd} {f e:Nat} {n:Nd} (hk:n.kind=9):Zl ns (f+1) e n=word n 0++[32,61,32]++Zx ns f (Zw ns n 0)++[59]:=by simp [Zl,hk,Zfa]
theorem ks9 {ns:List Nd} {f:Nat} {n:Nd} (hk:n.kind=9):ZL ns (f+1) n=[(0,word n 0)]++[(2,[61])]++ZS ns f (Zw ns n 0)++[(2,[59])]:=by simp [ZL,hk]
theorem Zsx {ns:List Nd} {f e:Nat} {n:Nd} (hk:n.kind=10):Zl ns (f+1) e n=[111,112,101,110,32]++word n 0++[32]++word n 1++Zal [32,101,108,115,101] (n.kids.map fun k=>ZI e ((Za ns k).kids.map fun k=>Zl ns f (e+1) (Za ns k))):=by simp [Zl,hk]
theorem Zns {ns:List Nd} {f:Nat} {n:Nd} (hk:n.kind=10):ZL ns (f+1) n=[(0,[111,112,101,110])]++[(0,word n 0)]++[(0,word n 1)]++Zak [(0,[101,108,115,101])] (n.kids.map fun k=>Zaw ((Za ns k).kids.map fun k=>ZL ns f (Za ns k))):=by simp [ZL,hk]
theorem Zsy {ns:List Nd} {f e:Nat} {n:Nd} (hk:n.kind=11):Zl ns (f+1) e n=[100,111,32]++word n 0++[46]++word n 1++(if n.kids=[] then [59] else ZI e (n.kids.map fun k=>word (Za ns k) 0++ZI (e+1) ((Zw ns (Za ns k) 0).kids.map fun k=>Zl ns f (e+1+1) (Za ns k)))):=by simp [Zl,hk]
theorem ZkY {ns:List Nd} {f:Nat} {n:Nd} (hk:n.kind=11):ZL ns (f+1) n=[(0,[100,111])]++[(0,word n 0)]++[(2,[46])]++[(0,word n 1)]++(if n.kids=[] then [(2,[59])] else Zaw (n.kids.map fun k=>[(0,word (Za ns k) 0)]++Zaw ((Zw ns (Za ns k) 0).kids.map fun k=>ZL ns f (Za ns k)))):=by simp [ZL,hk]
theorem Zsz {ns:List Nd} {f e:Nat} {n:Nd} (hk:n.kind=13):Zl ns (f+1) e n=[115,112,108,105,116,32]++word n 0++[32,61,32]++word n 1++[32]++Zax (num n 0)++[32]++Zdk (num n 1) (num n 2)++((n.kids.take (n.kids.length-1)).map fun k=>ZaT (Za ns k)).flatten++ZI e ((Zw ns n (n.kids.length-1)).kids.map fun k=>Zl ns f (e+1) (Za ns k)):=by simp [Zl,hk]
theorem Znt {ns:List Nd} {f:Nat} {n:Nd} (hk:n.kind=13):ZL ns (f+1) n=[(0,[115,112,108,105,116])]++[(0,word n 0)]++[(2,[61])]++[(0,word n 1)]++[(0,Zax (num n 0))]++ZfI (num n 1) (num n 2)++((n.kids.take (n.kids.length-1)).map fun k=>Zbr (Za ns k)).flatten++Zaw ((Zw ns n (n.kids.length-1)).kids.map fun k=>ZL ns f (Za ns k)):=by simp [ZL,hk]
theorem ZsA {ns:List Nd} {f e:Nat} {n:Nd} (hk:n.kind=14):Zl ns (f+1) e n=[99,97,108,108,32]++(if n.words.length=2 then word n 1++[32,61,32] else [])++word n 0++[40]++Zal [44,32] (n.kids.map fun k=>Zcd ns f (Za ns k))++[41,59]:=by simp [Zl,hk]
theorem ZkZ {ns:List Nd} {f:Nat} {n:Nd} (hk:n.kind=14):ZL ns (f+1) n=[(0,[99,97,108,108])]++(if n.words.length=2 then [(0,word n 1)]++[(2,[61])] else [])++[(0,word n 0)]++[(2,[40])]++Zak [(2,[44])] (n.kids.map fun k=>Zeg ns f (Za ns k))++[(2,[41]),(2,[59])]:=by simp [ZL,hk]
theorem ZsB {ns:List Nd} {f e:Nat} {n:Nd} (hk:n.kind=16):Zl ns (f+1) e n=[105,102,32]++Zx ns f (Zw ns n 0)++Zal [32,101,108,115,101] ((n.kids.drop 1).map fun k=>ZI e ((Za ns k).kids.map fun k=>Zl ns f (e+1) (Za ns k))):=by simp [Zl,hk]
theorem Zk0 {ns:List Nd} {f:Nat} {n:Nd} (hk:n.kind=16):ZL ns (f+1) n=[(0,[105,102])]++ZS ns f (Zw ns n 0)++Zak [(0,[101,108,115,101])] ((n.kids.drop 1).map fun k=>Zaw ((Za ns k).kids.map fun k=>ZL ns f (Za ns k))):=by simp [ZL,hk]
theorem ZsC {ns:List Nd} {f e:Nat} {n:Nd} (hk:n.kind=17):Zl ns (f+1) e n=[119,104,105,108,101,32]++Zx ns f (Zw ns n 0)++ZI e ((Zw ns n 1).kids.map fun k=>Zl ns f (e+1) (Za ns k)):=by simp [Zl,hk]
theorem Zqi {ns:List Nd} {f:Nat} {n:Nd} (hk:n.kind=17):ZL ns (f+1) n=[(0,[119,104,105,108,101])]++ZS ns f (Zw ns n 0)++Zaw ((Zw ns n 1).kids.map fun k=>ZL ns f (Za ns k)):=by simp [ZL,hk]
theorem ZsD {ns:List Nd} {f e:Nat} {n:Nd} (hk:n.kind=18):Zl ns (f+1) e n=[114,101,116,117,114,110,32]++Zx ns f (Zw ns n 0)++[59]:=by simp [Zl,hk]
theorem Zqj {ns:List Nd} {f:Nat} {n:Nd} (hk:n.kind=18):ZL ns (f+1) n=[(0,[114,101,116,117,114,110])]++ZS ns f (Zw ns n 0)++[(2,[59])]:=by simp [ZL,hk]
theorem ZsE {ns:List Nd} {f e:Nat} {n:Nd} (hk:n.kind=19):Zl ns (f+1) e n=[101,120,105,116,59]:=by simp [Zl,hk]
theorem Zqk {ns:List Nd} {f:Nat} {n:Nd} (hk:n.kind=19):ZL ns (f+1) n=[(0,[101,120,105,116])]++[(2,[59])]:=by simp [ZL,hk]
theorem ZmY {n d:Int} (h1:ZaI n) (h2:ZaI d):Tx (Zdk n d) (ZfI n d) Za1 Za4:=by
 have s:Tx [47] [(2,[47])] Za4 Za1:=Zdc (by decide) (by decide)
 exact ((Zlz h1).app s ZbX).app (Zlz h2) ZbX
theorem ZmZ (k:Int):Tx (Zax k) [(0,Zax k)] Za1 Za4:=by
 unfold Zax
 repeat' split
 all_goals exact Zkv rfl (by decide) (by decide)
theorem Zdf {w:Txt} {c:UInt8} {q:Txt} (e:w=c::q) (h1:ZbS c=true) (h2:(c::q).all Za3=true):Tx (w++[32]) [(0,w)] Za1 ZcN:=(Zkv e h1 h2).sp
theorem Zr0 (k:Int):Tx (Zc0 k) (ZiQ k) Zdz ZcN:=by
 unfold Zc0 ZiQ
 have h (a b:UInt8) (h1:ZbS a=true) (h2:[a,b].all Za3=true):Tx [32,a,b,32] [(0,[a,b])] Zdz ZcN:=by
  have:=Zdx.app (Zdf (w:=[a,b]) rfl h1 h2) ZU
  simpa using this
 split
 ·exact h _ _ (by decide) (by decide)
 split
 ·exact h _ _ (by decide) (by decide)
 ·exact h _ _ (by decide) (by decide)
theorem Zsn:Tx [124] [(2,[124])] Za4 Za1:=Zdc (by decide) (by decide)
theorem ZiB:Tx [44,32] [(2,[44])] Za4 ZcN:=by
 have s:Tx [44] [(2,[44])] Za4 Za1:=Zdc (by decide) (by decide)
 have:=s.app Zdx fun c=>ZeC
 simpa using this
theorem Zn8:Tx [32,61,32] [(2,[61])] Zdz ZcN:=ZeO (by decide)
theorem ZrZ:Tx [32,101,108,115,101] [(0,[101,108,115,101])] Zdz Za4:=by
 have:=Zdx.app (Zkv (w:=[101,108,115,101]) rfl (by decide) (by decide)) ZU
 simpa using this
theorem ZlA {ns:List Nd} (R:RightP ns) {i:Nat} {n:Nd} (hn:ns[i]? = some n) (h:ZeB n):Tx (ZaT n) (Zbr n) Zdz Za4:=by
 have e:=ZhS (F:=fun w:Txt=>w) (G:=fun w:Txt=>([(0,w)]:TS)) Zsn (o:=Za4) (h:=Za1) (fun c h=>h) (fun c h=>h) n.words (fun e=>by have:=h.1;rw [e] at this;exact absurd this (by simp)) fun w hw=>Zfc (List.all_eq_true.mp (R.node i n hn).1 w hw)
 rw [List.map_id'] at e
 exact (Zr0 _).app e ZU
theorem ZjD {α:Type} {F:α->Txt} {G:α->TS}:∀ (l:List α),(∀ a∈l,Tx (F a) (G a) Zdz Za4)->Lx ((l.map F).flatten) ((l.map G).flatten) Za4/\∀ c r,(l.map F).flatten=c::r->Za4 c=true
 | [],_=>⟨Lx.nil _,fun c r e=>nomatch e⟩
 | a::l,h=>by
  obtain ⟨i1,i2⟩:=ZjD l fun x hx=>h x (by simp [hx])
  have h1:=h a (by simp)
  have:=h1.opt i1 i2 (fun _ h=>h)
  rw [List.map_cons,List.map_cons,List.flatten_cons,List.flatten_cons]
  refine ⟨this.1,fun c r e=>?_⟩
  obtain ⟨d,s,ed,hd⟩:=h1.2
  rw [ed] at e
  injection e with e1
  subst e1
  exact Zcs hd
theorem Tx.flat {α:Type} {F:α->Txt} {G:α->TS} {x:Txt} {us:TS} {h:UInt8->Bool} (a:Tx x us h Za4) (l:List α) (k:∀ y∈l,Tx (F y) (G y) Zdz Za4):Tx (x++(l.map F).flatten) (us++(l.map G).flatten) h Za4:=
 a.opt (ZjD l k).1 (ZjD l k).2 (fun _ h=>h)
theorem Zm5 {n:Nd} {k:Nat} {s:Txt} (h:n.words[k]? = some s):word n k=s:=by unfold word;rw [h];rfl
theorem ZcI {n:Nd} {k:Nat} {z:Int} (h:n.nums[k]? = some z):num n k=z:=by unfold num;rw [h];rfl
theorem ZcP {ns:List Nd} (R:RightP ns) {i:Nat} {n:Nd} (hn:ns[i]? = some n) {k:Nat} {s:Txt} (h:n.words[k]? = some s):Tx (word n k) [(0,word n k)] Za1 Za4:=by
 rw [Zm5 h]
 exact Zfc (ZgF R hn h)
theorem Zsm {ns:List Nd} (R:RightP ns) {f i:Nat} {n:Nd} (hn:ns[i]? = some n) (h:ZfE ns f n):Tx (Zcd ns f n) (Zeg ns f n) Za1 Za4:=by
 unfold Zcd Zeg
 rcases h with ⟨hk,s,r,hs⟩ | ⟨hk,hv⟩
 ·rw [if_pos hk,if_pos hk]
  have a:Tx [38] [(2,[38])] Za1 Za1:=Zdc (by decide) (by decide)
  exact a.app (ZcP R hn (k:=0) (s:=s) (by rw [hs];rfl)) ZbX
 ·rw [if_neg hk,if_neg hk]
  exact Zh1 R f i n hn hv
theorem Zsq {ns:List Nd} (R:RightP ns) {f i:Nat} {n:Nd} {s:Txt} {k:Int} (hn:ns[i]? = some n) (hs:n.words=[s]) (hk:n.kids=[k]) (hv:Zaa ns [k] (ZP ns f)):Tx (word n 0++[32,61,32]++Zx ns f (Zw ns n 0)++[59]) ([(0,word n 0)]++[(2,[61])]++ZS ns f (Zw ns n 0)++[(2,[59])]) Za1 Za1:=by
 obtain ⟨j,hj⟩:=ZaB R hn (k:=k) (by rw [hk];simp)
 rw [Za2 (m:=0) (k:=k) (by rw [hk];rfl)]
 exact (((ZcP R hn (k:=0) (s:=s) (by rw [hs];rfl)).app Zn8 fun c=>Zcs).app (Zh1 R f j _ hj (hv k (by simp)).2.2) ZU).semi
end
section
theorem Zso:Tx [46] [(2,[46])] Za4 Za1:=Zdc (by decide) (by decide)
theorem Zm1 {ns:List Nd} (R:RightP ns):∀ (f e i:Nat) (n:Nd),ns[i]? = some n->Zbk ns f n->Tx (Zl ns f e n) (ZL ns f n) Za1 Za4
 | 0,_,_,_,_,h=>h.elim
 | f+1,e,i,n,hn,h=>by
  have blk:∀ (e2:Nat) (m:Nd) (j:Nat),ns[j]? = some m->Zck ns (fun x=>Zbk ns f x) m->Tx (ZI e2 (m.kids.map fun k=>Zl ns f (e2+1) (Za ns k))) (Zaw (m.kids.map fun k=>ZL ns f (Za ns k))) Zdz Za1:=fun e2 m j hj hm=>
   Zgt e2 m.kids fun k hk=>by
    obtain ⟨q,hq⟩:=ZaB R hj hk
    exact Zm1 R f (e2+1) q _ hq (hm k hk).2.2
  have blks:∀ (ks:List Int),ks≠[]->(∀ k∈ks,k∈n.kids)->Zaa ns ks (Zck ns fun x=>Zbk ns f x)->Tx (Zal [32,101,108,115,101] (ks.map fun k=>ZI e ((Za ns k).kids.map fun k=>Zl ns f (e+1) (Za ns k)))) (Zak [(0,[101,108,115,101])] (ks.map fun k=>Zaw ((Za ns k).kids.map fun k=>ZL ns f (Za ns k)))) Zdz Za1:=fun ks hne hs hok=>
   ZhS ZrZ (fun c=>ZeC) (fun c=>Zcs) ks hne fun k hk=>by
    obtain ⟨q,hq⟩:=ZaB R hn (hs k hk)
    exact blk e _ q hq (hok k hk).2.2
  have wd:∀ {k:Nat} {s:Txt},n.words[k]? = some s->Tx (word n k) [(0,word n k)] Za1 Za4:=fun h=>ZcP R hn h
  have ex:∀ {m:Nat} {k:Int},n.kids[m]? = some k->Zaa ns [k] (ZP ns f)->Tx (Zx ns f (Zw ns n m)) (ZS ns f (Zw ns n m)) Za1 Za4:=fun {m k} hk hv=>by
   obtain ⟨q,hq⟩:=ZaB R hn (List.mem_of_getElem? hk)
   rw [Za2 hk]
   exact Zh1 R f q _ hq (hv k (by simp)).2.2
  rw [Zbk] at h
  rcases h with ⟨hk,⟨s,hs⟩,k,hks,hv⟩ | ⟨hk,⟨a,b,hs⟩,⟨j,k,hks⟩,hok⟩ | ⟨hk,⟨a,b,hs⟩,hok⟩ | ⟨hk,⟨a,b,hs⟩,⟨p,q,r,hm,h0,h4,hq,hr⟩,l,k,hks,hol,hok⟩ | ⟨hk,hs,hok⟩ | ⟨hk,k,r,hks,hr,hv,hok⟩ | ⟨hk,j,k,hks,hv,hok⟩ | ⟨hk,k,hks,hv⟩ | hk
  ·have e0:=Zsq R hn hs hks hv
   rcases hk with hk | hk
   ·rw [ts8 hk,ks8 hk]
    have:=(Zdf (w:=[108,101,116]) rfl (by decide) (by decide)).app e0 ZU
    exact this.less fun c=>Zbw
   ·rw [ts9 hk,ks9 hk]
    exact e0.less fun c=>Zbw
  ·rw [Zsx hk,Zns hk]
   have:=((((Zdf (w:=[111,112,101,110]) rfl (by decide) (by decide)).app (wd (k:=0) (s:=a) (by rw [hs];rfl)) ZU).sp).app (wd (k:=1) (s:=b) (by rw [hs];rfl)) ZU).app (blks n.kids (by rw [hks];simp) (fun k hk=>hk) hok) fun c=>Zcs
   exact this.less fun c=>Zbw
  ·rw [Zsy hk,ZkY hk]
   have h1:=(((Zdf (w:=[100,111]) rfl (by decide) (by decide)).app (wd (k:=0) (s:=a) (by rw [hs];rfl)) ZU).app Zso ZbX).app (wd (k:=1) (s:=b) (by rw [hs];rfl)) ZbX
   split
   ·exact (h1.semi).less fun c=>Zbw
   ·have h2:=Zgt e (F:=fun k=>word (Za ns k) 0++ZI (e+1) ((Zw ns (Za ns k) 0).kids.map fun k=>Zl ns f (e+1+1) (Za ns k))) (G:=fun k=>[(0,word (Za ns k) 0)]++Zaw ((Zw ns (Za ns k) 0).kids.map fun k=>ZL ns f (Za ns k))) n.kids fun k hk=>by
     obtain ⟨q,hq⟩:=ZaB R hn hk
     obtain ⟨⟨s,r,hw⟩,k',hk',hb⟩:=(hok k hk).2.2
     obtain ⟨q2,hq2⟩:=ZaB R hq (k:=k') (by rw [hk'];simp)
     have b1:=blk (e+1) _ q2 hq2 (hb k' (by simp)).2.2
     rw [Za2 (m:=0) (k:=k') (by rw [hk'];rfl)]
     exact ((ZcP R hq (k:=0) (s:=s) (by rw [hw];rfl)).app b1 fun c=>Zcs).less fun c=>Zbw
    exact (h1.app h2 fun c=>Zcs).less fun c=>Zbw
  ·rw [Zsz hk,Znt hk]
   have t2:n.kids.take (n.kids.length-1)=l:=by rw [hks];simp
   have lk:n.kids[n.kids.length-1]? = some k:=by rw [hks];simp
   obtain ⟨q2,hq2⟩:=ZaB R hn (List.mem_of_getElem? lk)
   have b1:=blk e _ q2 hq2 (hok k (by simp)).2.2
   have n1:ZaI (num n 1):=by rw [ZcI (k:=1) (z:=q) (by rw [hm];rfl)];exact hq
   have n2:ZaI (num n 2):=by rw [ZcI (k:=2) (z:=r) (by rw [hm];rfl)];exact hr
   rw [t2,Za2 lk]
   have h1:=((((((((Zdf (w:=[115,112,108,105,116]) rfl (by decide) (by decide)).app (wd (k:=0) (s:=a) (by rw [hs];rfl)) ZU).app Zn8 fun c=>Zcs).app (wd (k:=1) (s:=b) (by rw [hs];rfl)) ZU).sp).app (ZmZ (num n 0)) ZU).sp).app (ZmY n1 n2) ZU).flat (F:=fun k=>ZaT (Za ns k)) (G:=fun k=>Zbr (Za ns k)) l fun k hk=>by
    obtain ⟨q3,hq3⟩:=ZaB R hn (k:=k) (by rw [hks];simp [hk])
    exact ZlA R hq3 (hol k hk).2.2
   exact (h1.app b1 fun c=>Zcs).less fun c=>Zbw
  ·rw [ZsA hk,ZkZ hk]
   have hc:Tx ([41,59]:Txt) [(2,[41]),(2,[59])] Za4 Za1:=by
    have c1:Tx [41] [(2,[41])] Za4 Za1:=Zhd
    exact c1.app Zm0 fun c=>Zbw
   have c0:=Zdf (w:=[99,97,108,108]) rfl (by decide) (by decide)
   have fin:∀ {x:Txt} {us:TS},Tx x us Za1 Za4->Tx (x++[40]++Zal [44,32] (n.kids.map fun k=>Zcd ns f (Za ns k))++[41,59]) (us++[(2,[40])]++Zak [(2,[44])] (n.kids.map fun k=>Zeg ns f (Za ns k))++[(2,[41]),(2,[59])]) Za1 Za4:=fun {x us} hx=>by
    have h1:=hx.app ZjL ZbX
    by_cases hz:n.kids=[]
    ·rw [hz]
     have:=h1.app hc fun c=>Zbw
     simpa [Zal,Zak] using this.less fun c=>Zbw
    ·have a1:=ZhS (F:=fun k=>Zcd ns f (Za ns k)) (G:=fun k=>Zeg ns f (Za ns k)) ZiB (fun c h=>h) ZU n.kids hz fun k hk=>by
      obtain ⟨q,hq⟩:=ZaB R hn hk
      exact Zsm R hq (hok k hk).2.2
     exact ((h1.app a1 ZbX).app hc ZbX).less fun c=>Zbw
   rcases hs with ⟨a,hs⟩ | ⟨a,b,hs⟩
   ·rw [if_neg (by rw [hs];simp),if_neg (by rw [hs];simp),List.append_nil,List.append_nil]
    exact fin (c0.app (wd (k:=0) (s:=a) (by rw [hs];rfl)) ZU)
   ·rw [if_pos (by rw [hs];rfl),if_pos (by rw [hs];rfl)]
    have h1:=(wd (k:=1) (s:=b) (by rw [hs];rfl)).app Zn8 fun c=>Zcs
    exact fin ((c0.app h1 ZU).app (wd (k:=0) (s:=a) (by rw [hs];rfl)) ZU)
  ·rw [ZsB hk,Zk0 hk]
   have t2:n.kids.drop 1=r:=by rw [hks];rfl
   rw [t2]
   have h1:=((Zdf (w:=[105,102]) rfl (by decide) (by decide)).app (ex (m:=0) (k:=k) (by rw [hks];rfl) hv) ZU).app (blks r hr (fun k hk=>by rw [hks];simp [hk]) hok) fun c=>Zcs
   exact h1.less fun c=>Zbw
  ·rw [ZsC hk,Zqi hk]
   have lk:n.kids[1]? = some k:=by rw [hks];rfl
   obtain ⟨q2,hq2⟩:=ZaB R hn (List.mem_of_getElem? lk)
   have b1:=blk e _ q2 hq2 (hok k (by simp)).2.2
   rw [Za2 (m:=1) lk]
   exact (((Zdf (w:=[119,104,105,108,101]) rfl (by decide) (by decide)).app (ex (m:=0) (k:=j) (by rw [hks];rfl) hv) ZU).app b1 fun c=>Zcs).less fun c=>Zbw
  ·rw [ZsD hk,Zqj hk]
   exact (((Zdf (w:=[114,101,116,117,114,110]) rfl (by decide) (by decide)).app (ex (m:=0) (k:=k) (by rw [hks];rfl) hv) ZU).semi).less fun c=>Zbw
  ·rw [ZsE hk,Zqk hk]
   have:=(Zkv (w:=[101,120,105,116]) rfl (by decide) (by decide)).semi
   exact this.less fun c=>Zbw
theorem ZlB:∀ (l:List Txt),l.length % 2=0->2<=l.length->(∀ w∈l,ZN w=true)->Tx (Zal [44,32] (Za9 l)) (Zak [(2,[44])] (Zcv l)) Za1 Za4
 | [],_,h,_=>by simp at h
 | [_],h,_,_=>by simp at h
 | [a,b],_,_,hw=>by
  have:=((Zfc (hw a (by simp))).sp).app (Zfc (hw b (by simp))) ZU
  simpa [Za9,Zcv,Zal,Zak] using this
 | [a,b,c],h,_,_=>by simp at h
 | a::b::c::d::r,h,_,hw=>by
  have h1:=((Zfc (hw a (by simp))).sp).app (Zfc (hw b (by simp))) ZU
  have h2:=ZlB (c::d::r) (by simp only [List.length_cons] at h ⊢;omega) (by simp) fun w hx=>hw w (List.mem_cons_of_mem _ (List.mem_cons_of_mem _ hx))
  have h3:=(h1.app ZiB ZbX).app h2 ZU
  have e1:Zal [44,32] (Za9 (a::b::c::d::r))=a++[32]++b++[44,32]++Zal [44,32] (Za9 (c::d::r)):=by simp [Za9,Zal]
  have e2:Zak [(2,[44])] (Zcv (a::b::c::d::r))=[(0,a)]++[(0,b)]++[(2,[44])]++Zak [(2,[44])] (Zcv (c::d::r)):=by simp [Zcv,Zak]
  rw [e1,e2]
  exact h3
theorem Zr2 {ns:List Nd} (R:RightP ns) {i:Nat} {n:Nd} (hn:ns[i]? = some n) (h:Zfo n):Tx (ZbZ n) (ZcS n) Za1 Za4:=by
 unfold ZbZ ZcS
 rcases h with ⟨hk,a,b,r,hs,hev,h2⟩ | ⟨hk,⟨s,hs⟩,z,hm,h0,h1⟩
 ·rw [if_pos hk,if_pos hk]
  have hw:∀ w∈r,ZN w=true:=fun w hx=>List.all_eq_true.mp (R.node i n hn).1 w (by rw [hs];simp [hx])
  have e1:=ZlB r hev h2 hw
  have ar:Tx [32,45,62,32] [(2,[45,62])] Zdz ZcN:=by
   have t2:Tx [45,62] [(2,[45,62])] ZcN ZcN:=ZpH (.inr ⟨rfl,rfl⟩) rfl
   have:=(Zdx.app t2 ZU).app Zdx ZU
   simpa using this
  have d2:n.words.drop 2=r:=by rw [hs];rfl
  rw [d2]
  have h1:=((((Zdf (w:=[111,112]) rfl (by decide) (by decide)).app (ZcP R hn (k:=0) (s:=a) (by rw [hs];rfl)) ZU).sp).app (ZcP R hn (k:=1) (s:=b) (by rw [hs];rfl)) ZU).app ar fun c=>Zcs
  exact ((h1.app e1 ZU).semi).less fun c=>Zbw
 ·have n3:¬ n.kind=3:=by rw [hk];decide
  rw [if_neg n3,if_neg n3]
  by_cases hz:num n 0=0
  ·rw [if_pos hz,if_pos hz]
   exact (((Zdf (w:=[115,116,97,116,101]) rfl (by decide) (by decide)).app (ZcP R hn (k:=0) (s:=s) (by rw [hs];rfl)) ZU).semi).less fun c=>Zbw
  ·rw [if_neg hz,if_neg hz]
   exact (((Zdf (w:=[102,105,110,97,108]) rfl (by decide) (by decide)).app (ZcP R hn (k:=0) (s:=s) (by rw [hs];rfl)) ZU).semi).less fun c=>Zbw
theorem ZqT {ns:List Nd} (R:RightP ns) {i:Nat} {n:Nd} (hn:ns[i]? = some n) (h:Zgz ns n):Tx (ZbR ns n) (ZdA ns n) Za1 Za4:=by
 unfold ZbR ZdA
 rcases h with ⟨s,hs⟩ | ⟨⟨a,b,hs⟩,⟨p,q,r,hm,h0,h4,hq,hr⟩,hok⟩
 ·rw [if_pos (by rw [hs];rfl),if_pos (by rw [hs];rfl),List.append_nil,List.append_nil]
  exact ZcP R hn (k:=0) (s:=s) (by rw [hs];rfl)
 ·have nw:¬ n.words.length=1:=by rw [hs];simp
  rw [if_neg nw,if_neg nw]
  have n1:ZaI (num n 1):=by rw [ZcI (k:=1) (z:=q) (by rw [hm];rfl)];exact hq
  have n2:ZaI (num n 2):=by rw [ZcI (k:=2) (z:=r) (by rw [hm];rfl)];exact hr
  have col:Tx [58,32] [(2,[58])] Za4 ZcN:=by
   have s:Tx [58] [(2,[58])] Za4 Za1:=Zdc (by decide) (by decide)
   have:=s.app Zdx fun c=>ZeC
   simpa using this
  have k1:=(((col.app (ZcP R hn (k:=1) (s:=b) (by rw [hs];rfl)) ZU).sp).app (ZmZ (num n 0)) ZU)
  have nm:∀ y∈n.kids,Tx (ZaT (Za ns y)) (Zbr (Za ns y)) Zdz Za4:=fun y hy=>by
   obtain ⟨q3,hq3⟩:=ZaB R hn hy
   exact ZlA R hq3 (hok y hy).2.2
  have w0:=ZcP R hn (k:=0) (s:=a) (by rw [hs];rfl)
  by_cases hp:0<num n 2
  ·rw [if_pos hp,if_pos hp]
   have ls:Tx [32,108,101,97,115,116,32] [(0,[108,101,97,115,116])] Zdz ZcN:=by
    have:=Zdx.app (Zdf (w:=[108,101,97,115,116]) rfl (by decide) (by decide)) ZU
    simpa using this
   have k2:=(k1.app (ls.app (ZmY n1 n2) ZU) fun c=>Zcs).flat (F:=fun k=>ZaT (Za ns k)) (G:=fun k=>Zbr (Za ns k)) n.kids nm
   exact w0.app k2 ZbX
  ·have k2:=k1.flat (F:=fun k=>ZaT (Za ns k)) (G:=fun k=>Zbr (Za ns k)) n.kids nm
   rw [if_neg hp,if_neg hp,List.append_nil,List.append_nil]
   exact w0.app k2 ZbX
theorem Zr1 {ns:List Nd} (R:RightP ns) {f i:Nat} {n:Nd} (hn:ns[i]? = some n) (h:Zfn ns f n):Tx (Zcn ns f n) (ZcD ns f n) Za1 Za4:=by
 unfold Zcn ZcD
 rcases h with ⟨hk,⟨s,hs⟩,hok⟩ | ⟨hk,⟨s,hs⟩,l,k,hks,hol,hok⟩
 ·rw [if_pos hk,if_pos hk]
  have b1:=Zgt 0 (F:=fun k=>ZbZ (Za ns k)) (G:=fun k=>ZcS (Za ns k)) n.kids fun k hk=>by
   obtain ⟨q,hq⟩:=ZaB R hn hk
   exact Zr2 R hq (hok k hk).2.2
  exact (((Zdf (w:=[112,114,111,116,111]) rfl (by decide) (by decide)).app (ZcP R hn (k:=0) (s:=s) (by rw [hs];rfl)) ZU).app b1 fun c=>Zcs).less fun c=>Zbw
 ·have n1:¬ n.kind=1:=by rw [hk];decide
  rw [if_neg n1,if_neg n1]
  have t2:n.kids.take (n.kids.length-1)=l:=by rw [hks];simp
  have lk:n.kids[n.kids.length-1]? = some k:=by rw [hks];simp
  obtain ⟨q2,hq2⟩:=ZaB R hn (List.mem_of_getElem? lk)
  have b1:=Zgt 0 (F:=fun k=>Zl ns f 1 (Za ns k)) (G:=fun k=>ZL ns f (Za ns k)) (Za ns k).kids fun k2 hk2=>by
   obtain ⟨q,hq⟩:=ZaB R hq2 hk2
   exact Zm1 R f 1 q _ hq ((hok k (by simp)).2.2 k2 hk2).2.2
  rw [t2,Za2 lk]
  have h1:=((Zdf (w:=[102,110]) rfl (by decide) (by decide)).app (ZcP R hn (k:=0) (s:=s) (by rw [hs];rfl)) ZU).app ZjL ZbX
  by_cases hz:l=[]
  ·rw [hz]
   have:=(h1.app Zhd fun c=>Zbw).app b1 fun c=>ZeC
   simpa [Zal,Zak] using this.less fun c=>Zbw
  ·have a1:=ZhS (F:=fun k=>ZbR ns (Za ns k)) (G:=fun k=>ZdA ns (Za ns k)) ZiB (fun c h=>h) ZU l hz fun k hk=>by
    obtain ⟨q,hq⟩:=ZaB R hn (k:=k) (by rw [hks];simp [hk])
    exact ZqT R hq (hol k hk).2.2
   exact (((h1.app a1 ZbX).app Zhd ZbX).app b1 fun c=>ZeC).less fun c=>Zbw
theorem Zpw {ns:List Nd} (hr:Zcw ns=true):∃ ms:List Tok,ms.map kt=Zn3 ns/\Zbx (ZbG ns) 0=.ok (ms++[(3,[],(ZbG ns).length)]):=by
 have R:=Zey hr
 have h0:ns[0]? = some (Za ns 0):=by
  have h0:ns[0]? = some (ns[0]'R.some_):=List.getElem?_eq_getElem R.some_
  rw [h0,<- Zb2 (k:=0) h0]
  rfl
 have e0:ZbG ns=Zbq 0 ((Za ns 0).kids.map fun k=>Zcn ns ns.length (Za ns k)):=by unfold ZbG;rw [hr];rfl
 have L:=Zio 0 (F:=fun k=>Zcn ns ns.length (Za ns k)) (G:=fun k=>ZcD ns ns.length (Za ns k)) (Za ns 0).kids fun k hk=>by
  obtain ⟨q,hq⟩:=ZaB R h0 hk
  exact Zr1 R hq (ZfJ R k hk).2.2
 rw [<- e0] at L
 obtain ⟨ms,h1,h2⟩:=L [] 0 (fun c r e=>nomatch e)
 refine ⟨ms,h1,?_⟩
 rw [List.append_nil] at h2
 rw [h2,Zg2,Nat.zero_add]
 rfl
end
end Go.Proofs.YtkongcicmajolaaGreatDoor
