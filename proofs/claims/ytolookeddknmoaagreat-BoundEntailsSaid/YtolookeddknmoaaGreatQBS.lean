import Derived.Test.YtolookeddknmoaaGreatQAX
import Derived.Test.YtolookeddknmoaaGreatQBB
import Derived.Test.YtolookeddknmoaaGreatQBL
import Derived.Test.YtolookeddknmoaaGreatQBN
import Derived.Test.YtolookeddknmoaaGreatQBO
import Derived.Test.YtolookeddknmoaaGreatQBP
import Derived.Test.YtolookeddknmoaaGreatQBR
set_option maxRecDepth 100000
set_option maxHeartbeats 8000000
namespace Go.Proofs.YtolookeddknmoaaGreat
section
open Go.RowKit
def ZR (t:Trm):Trm:=(Zw t.1,t.2)
theorem Zdl {t:Trm} (h:TrmOk t):TrmOk (ZR t):=⟨h.ok.trim,h.k,Nat.le_trans (Zhn _) h.len⟩
theorem ZiB {h:How} (h0:h (0,1) (0,1)=((0,1),0)) {l m:List (Int×Int)}:Zad h l m (max l.length m.length)↔∀ i:Nat,(h (atL l i) (atL m i)).2=0:=by
 constructor
 ·intro g i
  by_cases hi:i<max l.length m.length
  ·exact g i hi
  ·rw [Zbt (l:=l) (.inr (by omega)),Zbt (l:=m) (.inr (by omega)),h0]
 ·exact fun g i _=>g i
theorem Zlc {h:How} (hh:HowOk h) (h0:h (0,1) (0,1)=((0,1),0)) {l l' m:List (Int×Int)} {kx ky:Int×Int} (hl:ZF l) (hl':ZF l') (hm:ZF m) (e:∀ k:Nat,atL l k=atL l' k):Za3 h l m kx ky=Za3 h l' m kx ky:=by
 unfold Za3
 have c:Zad h l m (max l.length m.length)↔Zad h l' m (max l'.length m.length):=by
  rw [ZiB h0,ZiB h0]
  exact ⟨fun g i=>by rw [<- e];exact g i,fun g i=>by rw [e];exact g i⟩
 by_cases g:(h kx ky).2=0/\Zad h l m (max l.length m.length)
 ·have g':=g
  rw [c] at g'
  rw [if_pos g,if_pos g',Zgv (ZcW hh hl hm g.2) (ZcW hh hl' hm g'.2) fun k=>?_]
  rw [ZeI,ZeI]
  have z:∀ a:List (Int×Int),¬ k<max a.length m.length->(h (atL a k) (atL m k)).1=(0,1):=fun a q=>by
   rw [Zbt (l:=a) (.inr (by omega)),Zbt (l:=m) (.inr (by omega)),h0]
  have e1:(if k<max l.length m.length then (h (atL l k) (atL m k)).1 else (0,1))=(h (atL l k) (atL m k)).1:=by
   split
   ·rfl
   ·rename_i q;exact (z l q).symm
  have e2:(if k<max l'.length m.length then (h (atL l' k) (atL m k)).1 else (0,1))=(h (atL l' k) (atL m k)).1:=by
   split
   ·rfl
   ·rename_i q;exact (z l' q).symm
  rw [e1,e2,e k]
 ·rw [if_neg g,if_neg (fun q=>g ⟨q.1,c.2 q.2⟩)]
theorem ZiY {t:Trm} (h:TrmOk t) {kb:Int×Int} (hb:OkR kb):Zh (Zw t.1) t.2 kb=Zh t.1 t.2 kb:=by
 unfold Zh
 rw [show ZO (Zw t.1) t.2.1 t.2.2=true from ZaA (Zdl h).len (Zdl h).ok h.k,ZaA h.len h.ok h.k,Zlc (Zcl hb) (Zk5 hb) h.ok.trim h.ok ZfS fun k=>Zbq h.ok k]
theorem Zlu {t:Trm} (h:TrmOk t) {m:List (Int×Int)} {ky:Int×Int} (hm:Zv m) (hy:Bd ky):ZaQ (Zw t.1) m t.2 ky=ZaQ t.1 m t.2 ky:=by
 unfold ZaQ
 rw [show ZO (Zw t.1) t.2.1 t.2.2=true from ZaA (Zdl h).len (Zdl h).ok h.k,ZaA h.len h.ok h.k]
 by_cases g:ZO m ky.1 ky.2=true
 ·obtain ⟨_,a,_⟩:=Zam g hm hy.1.1 hy.1.2 hy.2.1 hy.2.2
  rw [Zlc Zbn Zms h.ok.trim h.ok a fun k=>Zbq h.ok k]
 ·rw [if_neg (fun q=>g q.2),if_neg (fun q=>g q.2)]
theorem Zpp {t:Trm} (h:TrmOk t) (v:Int):Zbb v (ZR t)=Zbb v t:=by
 unfold Zbb ZR
 rw [Zbq h.ok]
theorem Zph {t:Trm} (h:TrmOk t) {v:Int} (hv:Zbb v t=true):ZM (ZR t) v=ZM t v:=by
 have hn:(atL t.1 v).1≠0:=by unfold Zbb at hv;simpa using hv
 unfold ZM ZR
 dsimp only
 rw [Zbq h.ok]
 exact ZiY h (ZeD (h.ok.at v) hn)
theorem Zjx {p t:Trm} {v:Int} (hp:TrmOk p) (h:TrmOk t):ZQ p v (ZR t)=(ZQ p v t).map ZR:=by
 unfold ZQ
 by_cases hz:(atL t.1 v).1=0
 ·have e1:Zar t.1 t.2 p.1 p.2 v=(t.1,t.2,0):=if_pos hz
  have e2:Zar (ZR t).1 (ZR t).2 p.1 p.2 v=((ZR t).1,(ZR t).2,0):=if_pos (by unfold ZR;rw [Zbq h.ok];exact hz)
  rw [e1,e2]
  rfl
 ·have hn:OkR (ZA (atL t.1 v)):=Zbv (h.ok.at v)
  have hw:=ZaR (l:=p.1) (kx:=p.2) (kb:=ZA (atL t.1 v)) hp.ok.wide hp.k.wide hn.wide
  have e:Zar (ZR t).1 (ZR t).2 p.1 p.2 v=Zar t.1 t.2 p.1 p.2 v:=by
   unfold Zar ZR
   dsimp only
   rw [Zbq h.ok,if_neg hz,if_neg hz]
   by_cases g:(Zh p.1 p.2 (ZA (atL t.1 v))).2.2=0
   ·rw [if_pos g,if_pos g,Zlu h hw.1 hw.2]
   ·rw [if_neg g,if_neg g]
  rw [e]
  by_cases g:(Zar t.1 t.2 p.1 p.2 v).2.2=0
  ·rw [if_pos g,Option.map_some]
   have o:Zw (Zar t.1 t.2 p.1 p.2 v).1=(Zar t.1 t.2 p.1 p.2 v).1:=by
    by_cases g2:(Zh p.1 p.2 (ZA (atL t.1 v))).2.2=0
    ·have e3:Zar t.1 t.2 p.1 p.2 v=ZaQ t.1 (Zh p.1 p.2 (ZA (atL t.1 v))).1 t.2 (Zh p.1 p.2 (ZA (atL t.1 v))).2.1:=by
      unfold Zar
      rw [if_neg hz,if_pos g2]
     rw [e3] at g ⊢
     obtain ⟨_,_,_,_,_,_,P2⟩:=Zc8 h.ok.wide hw.1 h.k.wide hw.2 g
     exact P2.own
    ·unfold Zar at g
     rw [if_neg hz,if_neg g2] at g
     exact absurd g g2
   unfold ZR
   dsimp only
   rw [o]
  ·rw [if_neg g]
   rfl
theorem ZjM {p:Trm} {v:Int} (hp:TrmOk p):∀ {l:List Trm},(∀ t∈l,TrmOk t)->Zak (ZQ p v) (l.map ZR)=(Zak (ZQ p v) l).map (·.map ZR)
 | [],_=>rfl
 | x::r,h=>by
  rw [List.map_cons,Zak,Zak,Zjx hp (h x (by simp)),ZjM hp fun t ht=>h t (by simp [ht])]
  cases ZQ p v x with
  | none=>rfl
  | some u=>cases Zak (ZQ p v) r<;>rfl
def ZhI (s:ZbY):ZbY:=(s.1.map ZR,s.2)
theorem ZhQ {f:Trm->Trm} {pr:Trm->Bool}:∀ {l:List Trm},(∀ t∈l,pr (f t)=pr t)->(l.map f).findIdx? pr=l.findIdx? pr
 | [],_=>rfl
 | x::r,h=>by
  rw [List.map_cons,List.findIdx?_cons,List.findIdx?_cons,h x (by simp),ZhQ fun t ht=>h t (by simp [ht])]
theorem Zjy {α β:Type} (f:α->β):∀ (l:List α) (i:Nat),(l.eraseIdx i).map f=(l.map f).eraseIdx i
 | [],_=>rfl
 | _::_,0=>rfl
 | x::l,i+1=>by
  show f x::(l.eraseIdx i).map f=f x::(l.map f).eraseIdx i
  rw [Zjy f l i]
theorem ZoL {n k:Nat} {s:ZbY} (h:SolOk n k s) (v:Int):ZaB (ZhI s) v=(ZaB s v).map ZhI:=by
 unfold ZaB ZhI
 dsimp only
 rw [ZhQ fun t ht=>Zpp (h.l t ht) v]
 split
 ·rfl
 ·rename_i i hi
  obtain ⟨t,ht,hp⟩:=Zdz hi
  have tok:=h.l t (List.mem_of_getElem? ht)
  rw [List.getElem?_map,ht,Option.map_some,Option.bind_some,Option.bind_some,Zph tok hp]
  split
  ·rename_i he
   have hd:=Zfy tok hp he
   rw [<- Zjy,ZjM hd fun u hu=>h.l u (List.mem_of_mem_eraseIdx hu)]
   cases Zak (ZQ ((ZM t v).1,(ZM t v).2.1) v) (s.1.eraseIdx i) with
   | none=>rfl
   | some l=>cases Zak (ZQ ((ZM t v).1,(ZM t v).2.1) v) s.2.1<;>rfl
  ·rfl
theorem Zfk {ts:List Trm} (h:∀ t∈ts,TrmOk t):∀ k:Nat,Zat (ts.map ZR) k=(Zat ts k).map ZhI
 | 0=>rfl
 | k+1=>by
  rw [Zat,Zat,Zfk h k]
  cases hs:Zat ts k with
  | none=>rfl
  | some s=>exact ZoL (ZcC h k s hs) k
end
section
open Go.RowKit
def ZbO (r:Rw):Rw:=(r.1,ZR r.2)
theorem Zo7 {t u r:Trm} (ht:TrmOk t) (hu:TrmOk u) (h:Zcc t u=some r):ZR r=r:=by
 unfold Zcc at h
 split at h
 ·rename_i g
  obtain rfl:=Option.some.inj h
  obtain ⟨_,_,_,_,_,_,P⟩:=Zc8 ht.ok.wide hu.ok.wide ht.k.wide hu.k.wide g
  unfold ZR
  dsimp only
  rw [P.own]
 ·cases h
theorem Zmf {t:Trm} {b:Int×Int} (ht:TrmOk t) (hb:OkR b):ZaL (ZR t) b=ZaL t b:=by
 unfold ZaL ZR
 dsimp only
 rw [ZiY ht hb]
def Za6:List (Trm×Int)->Trm->Option Trm
 | [],t=>some t
 | s::r,t=>(ZQ s.1 s.2 t).bind (Za6 r)
theorem Zn6 {p t u:Trm} {v:Int} (hp:TrmOk p) (ht:TrmOk t) (h:ZQ p v (ZR t)=some u):ZR u=u:=by
 rw [Zjx hp ht,Option.map_eq_some_iff] at h
 obtain ⟨a,_,rfl⟩:=h
 unfold ZR
 dsimp only
 rw [Zh7]
theorem Zf8 {x:Int×Int} (hx:OkR x):ZT x (0,1)=((0,1),0):=ZhC hx Zah Zah (by show 0*(x.2*1)=x.1*0*1;grind)
theorem ZpL {l:List (Int×Int)} {kx:Int×Int} (hl:ZF l) (hx:OkR kx):Za3 (Zx (0,1)) l [] kx (0,1)=([],(0,1),0):=by
 have hc:Zad (Zx (0,1)) l [] (max l.length ([]:List (Int×Int)).length):=fun i _=>by unfold Zx;rw [Zf8 (hl.at i)]
 rw [Zjk (show Zx (0,1) kx (0,1)=((0,1),0) from Zf8 hx) hc]
 have hn:ZF []:=fun x hx=>by cases hx
 rw [Zgv (ZcW (Zcl Zah) hl hn hc) hn fun k=>?_]
 ·rfl
 rw [ZeI]
 unfold Zx
 rw [Zf8 (hl.at k),Zbt (l:=[]) (.inr (by simp))]
 split<;>rfl
theorem Zqr {l:List (Int×Int)} {kx:Int×Int} (hl:ZF l) (hx:OkR kx):Za3 Zo l [] kx (0,1)=(Zw l,kx,0):=by
 have hn:ZF []:=fun x hx=>by cases hx
 have an:∀ k:Nat,atL [] k=(0,1):=fun k=>Zbt (.inr (by simp))
 have hc:Zad Zo l [] (max l.length ([]:List (Int×Int)).length):=fun i _=>by rw [an,Zc9 (hl.at i)]
 rw [Zjk (Zc9 hx) hc]
 rw [Zgv (ZcW Zbn hl hn hc) hl fun k=>?_]
 rw [ZeI,an,Zc9 (hl.at k)]
 split
 ·rfl
 ·rename_i g
  exact (Zbt (.inr (by simp at g;omega))).symm
theorem ZpE {x:Int×Int} (h:OkR x) (hz:x.1=0):x=(0,1):=by
 obtain ⟨n,d⟩:=x
 obtain ⟨e,rfl,v⟩:=h
 dsimp only at hz
 subst hz
 have:=v.low
 simp at this
 subst this
 rfl
theorem ZpS {s:Trm} {v:Int} {t:Trm} (hs:TrmOk s) (ht:TrmOk t):((ZaL s (ZA (atL t.1 v))).bind fun m=>Zcc t m)=ZQ s v (ZR t):=by
 by_cases hz:(atL t.1 v).1=0
 ·have e0:=ZpE (ht.ok.at v) hz
  have e1:ZaL s (0,1)=some ([],(0,1)):=by
   have q:Zh s.1 s.2 (0,1)=([],(0,1),0):=by
    unfold Zh
    rw [if_pos ⟨ZaA hs.len hs.ok hs.k,by decide⟩,ZpL hs.ok hs.k]
   unfold ZaL
   rw [q]
   rfl
  have e2:Zcc t ([],(0,1))=some (ZR t):=by
   have q:ZaQ t.1 [] t.2 (0,1)=(Zw t.1,t.2,0):=by
    unfold ZaQ
    rw [if_pos ⟨ZaA ht.len ht.ok ht.k,by decide⟩,Zqr ht.ok ht.k]
   unfold Zcc
   dsimp only
   rw [q]
   rfl
  have e3:ZQ s v (ZR t)=some (ZR t):=by
   have e:Zar (ZR t).1 (ZR t).2 s.1 s.2 v=((ZR t).1,(ZR t).2,0):=if_pos (by unfold ZR;rw [Zbq ht.ok];exact hz)
   unfold ZQ
   rw [e]
   rfl
  rw [e0,show ZA (0,1)=(0,1) from rfl,e1,e3]
  exact e2
 ·have hn:OkR (ZA (atL t.1 v)):=Zbv (ht.ok.at v)
  have hw:=ZaR (l:=s.1) (kx:=s.2) (kb:=ZA (atL t.1 v)) hs.ok.wide hs.k.wide hn.wide
  unfold ZQ Zar ZR ZaL
  dsimp only
  rw [Zbq ht.ok,if_neg hz]
  by_cases g:(Zh s.1 s.2 (ZA (atL t.1 v))).2.2=0
  ·rw [if_pos g,if_pos g,Option.bind_some,Zlu ht hw.1 hw.2]
   rfl
  ·rw [if_neg g,if_neg g,if_neg g]
   rfl
theorem Zk0:∀ (sel:List (Trm×Int)) (t:Trm),(∀ s∈sel,TrmOk s.1)->TrmOk t->Za6 sel (ZR t)=(Za2 sel t).map ZR
 | [],t,_,_=>rfl
 | s::r,t,hs,ht=>by
  have e:=ZpS (v:=s.2) (hs s (by simp)) ht
  rw [Za6,Za2,<- e]
  cases h1:ZaL s.1 (ZA (atL t.1 s.2)) with
  | none=>rfl
  | some m=>
   rw [h1] at e
   simp only [Option.bind_some] at e ⊢
   cases h2:Zcc t m with
   | none=>rfl
   | some u=>
    rw [h2] at e
    simp only [Option.bind_some]
    have ho:=Zn6 (hs s (by simp)) ht e.symm
    obtain ⟨k1,_⟩:=Zlt (hs s (by simp)) ht h1 h2
    rw [<- Zk0 r u (fun y hy=>hs y (List.mem_cons_of_mem _ hy)) k1,ho]
def ZaY (sel:List (Trm×Int)):List Rw->Option (List Rw)
 | []=>some []
 | r::l=>if r.1=0 then ZaY sel l else (Za6 sel (ZR r.2)).bind fun t=>(ZaY sel l).map fun l'=>(r.1,t)::l'
theorem ZjJ (sel:List (Trm×Int)) (hs:∀ s∈sel,TrmOk s.1):∀ (l:List Rw),(∀ r∈l,TrmOk r.2)->ZaY sel l=(Zbj sel (Zbf l)).map (·.map ZbO)
 | [],_=>rfl
 | r::l,hl=>by
  have ih:=ZjJ sel hs l fun x hx=>hl x (List.mem_cons_of_mem _ hx)
  rw [ZaY]
  by_cases h:r.1=0
  ·rw [if_pos h,ih]
   unfold Zbf
   rw [List.filter_cons_of_neg (by simp [h])]
  ·rw [if_neg h,ih,Zk0 sel r.2 hs (hl r (by simp))]
   unfold Zbf
   rw [List.filter_cons_of_pos (by simp [h]),Zbj]
   cases Za2 sel r.2 with
   | none=>rfl
   | some t=>
    simp only [Option.map_some,Option.bind_some]
    cases Zbj sel (l.filter fun r=>!(r.1==0))<;>rfl
def Zfc (s:Zbc):Zbc:=(s.1.map ZbO,s.2)
theorem ZnH {v:Int} {s:Zbc} {r:Rw} (hr:TrmOk r.2):Zau v (Zfc s) (ZbO r)=(Zau v s r).map Zfc:=by
 have ea:atL (ZbO r).2.1 v=atL r.2.1 v:=Zbq hr.ok v
 unfold Zau
 rw [ea]
 by_cases h:(atL r.2.1 v).1=0
 ·rw [if_pos h,if_pos h]
  simp [Zfc]
 ·rw [if_neg h,if_neg h]
  have e:ZaL (ZbO r).2 (ZbC (atL r.2.1 v))=ZaL r.2 (ZbC (atL r.2.1 v)):=Zmf hr (Zgc (hr.ok.at v) h)
  rw [e]
  cases ZaL r.2 (ZbC (atL r.2.1 v)) with
  | none=>rfl
  | some t=>
   dsimp only
   split<;>rfl
theorem ZiU (v:Int):∀ (l:List Rw) (s:Zbc),(∀ r∈l,TrmOk r.2)->ZZ v (Zfc s) (l.map ZbO)=(ZZ v s l).map Zfc
 | [],s,_=>rfl
 | r::l,s,h=>by
  rw [List.map_cons,ZZ,ZZ,ZnH (h r (by simp))]
  cases Zau v s r with
  | none=>rfl
  | some s'=>exact ZiU v l s' fun x hx=>h x (List.mem_cons_of_mem _ hx)
theorem Znu {a b t:Rw} (ha:TrmOk a.2) (hb:TrmOk b.2) (h:Zbw a b=some t):ZbO t=t:=by
 unfold Zbw at h
 rw [Option.map_eq_some_iff] at h
 obtain ⟨u,e,rfl⟩:=h
 unfold ZbO
 dsimp only
 rw [Zo7 ha hb e]
theorem Zh4 {a:Rw} (ha:TrmOk a.2):∀ (up acc:List Rw),(∀ r∈up,TrmOk r.2)->Zaq a (acc.map ZbO) up=(Zaq a acc up).map (·.map ZbO)
 | [],acc,_=>rfl
 | b::r,acc,h=>by
  rw [Zaq,Zaq]
  cases e:Zbw a b with
  | none=>rfl
  | some t=>
   simp only [Option.bind_some]
   rw [<- Zh4 ha r (acc++[t]) fun x hx=>h x (List.mem_cons_of_mem _ hx),List.map_append,List.map_singleton,Znu ha (h b (by simp)) e]
theorem Zh5 (up:List Rw) (hu:∀ r∈up,TrmOk r.2):∀ (lo acc:List Rw),(∀ r∈lo,TrmOk r.2)->ZaN (acc.map ZbO) lo up=(ZaN acc lo up).map (·.map ZbO)
 | [],acc,_=>rfl
 | a::r,acc,h=>by
  rw [ZaN,ZaN,Zh4 (h a (by simp)) up acc hu]
  cases Zaq a acc up with
  | none=>rfl
  | some acc'=>exact Zh5 up hu r acc' fun x hx=>h x (List.mem_cons_of_mem _ hx)
theorem ZnQ {s:Zbc} (h1:∀ r∈s.2.1,TrmOk r.2) (h2:∀ r∈s.2.2,TrmOk r.2):Za5 (Zfc s)=(Za5 s).map (·.map ZbO):=by
 unfold Za5 Zfc
 dsimp only
 rw [List.length_map,Zh5 _ h2 _ _ h1]
 split<;>rfl
theorem Zhk (a:Rw):∀ (up acc res:List Rw),Zaq a acc up=some res->res.length=acc.length+up.length
 | [],acc,res,h=>by
  obtain rfl:=Option.some.inj h
  simp
 | b::r,acc,res,h=>by
  rw [Zaq,Option.bind_eq_some_iff] at h
  obtain ⟨t,_,h⟩:=h
  have:=Zhk a r _ _ h
  simp at this ⊢
  omega
theorem Zhl (up:List Rw):∀ (lo acc res:List Rw),ZaN acc lo up=some res->res.length=acc.length+lo.length*up.length
 | [],acc,res,h=>by
  obtain rfl:=Option.some.inj h
  simp
 | a::r,acc,res,h=>by
  rw [ZaN,Option.bind_eq_some_iff] at h
  obtain ⟨t,e,h⟩:=h
  have h1:=Zhk a _ _ _ e
  have h2:=Zhl up r _ _ h
  rw [List.length_cons,Nat.succ_mul]
  omega
theorem Zh8 {s:Zbc} {res:List Rw} (h:Za5 s=some res):res.length<=400:=by
 unfold Za5 at h
 split at h
 ·cases h
 ·have:=Zhl _ _ _ _ h
  omega
theorem Zj0 {v:Int}:∀ (l:List Rw) (s:Zbc),(∀ r∈l,(atL r.2.1 v).1=0)->ZZ v s l=some (s.1++l,s.2)
 | [],s,_=>by simp [ZZ]
 | r::l,s,h=>by
  rw [ZZ,show Zau v s r=some (s.1++[r],s.2.1,s.2.2) from if_pos (h r (by simp)),Option.bind_some,Zj0 l _ fun x hx=>h x (List.mem_cons_of_mem _ hx)]
  simp
theorem ZoZ {l:List Rw} (h:l.length<=400):Za5 (l,[],[])=some l:=by
 unfold Za5
 rw [if_neg (by show ¬ 400<l.length+0*0;omega)]
 rfl
abbrev Stg:=List Rw×List Rw
def ZbR (rows:List Rw):Nat->Option (List Stg×List Rw)
 | 0=>some ([],rows)
 | k+1=>(ZbR rows k).bind fun x=>(ZZ k ([],[],[]) x.2).bind fun s=>(Za5 s).map fun r=>(x.1++[(s.2.1,s.2.2)],r)
theorem Zf2 (v:Int):∀ (vs:List Int) (rows:List Rw) (ch:List Zbs),ZaI (vs++[v]) rows ch=(ZaI vs rows ch).bind fun x=>(ZZ v ([],[],[]) x.1).bind fun s=>(Za5 s).map fun r=>(r,x.2++[(v,s.2.1,s.2.2)])
 | [],rows,ch=>by
  rw [List.nil_append,ZaI,ZaI,Option.bind_some]
  cases ZZ v ([],[],[]) rows with
  | none=>rfl
  | some s=>
   simp only [Option.bind_some]
   cases Za5 s<;>rfl
 | u::vs,rows,ch=>by
  rw [List.cons_append,ZaI,ZaI]
  cases ZZ u ([],[],[]) rows with
  | none=>rfl
  | some s=>
   simp only [Option.bind_some]
   cases Za5 s with
   | none=>rfl
   | some r=>exact Zf2 v vs r _
def ZcL (st:List Stg) (k:Nat):Stg:=(st[k]?).getD ([],[])
def chK (P:List Int) (st:List Stg):Nat->List Zbs
 | 0=>[]
 | k+1=>if P.contains (k:Int)=true then chK P st k else chK P st k++[((k:Int),(ZcL st k).1,(ZcL st k).2)]
theorem Zjb (P:List Int) (st:List Stg) (x:Stg):∀ k:Nat,k<=st.length->chK P (st++[x]) k=chK P st k
 | 0,_=>rfl
 | k+1,h=>by
  have e:ZcL (st++[x]) k=ZcL st k:=by unfold ZcL;rw [List.getElem?_append_left (by omega)]
  rw [chK,chK,Zjb P st x k (by omega),e]
theorem ZoK (st:List Stg) (x:Stg):ZcL (st++[x]) st.length=x:=by
 unfold ZcL
 rw [List.getElem?_append_right (Nat.le_refl _),Nat.sub_self]
 rfl
theorem Zre {t:Trm} {v:Int} (h:TrmOk t):co t v=0↔(atL t.1 v).1=0:=Zge (h.ok.at v)
theorem ZhP (P:List Int) {rows:List Rw} (hg:Zb4 rows) (hl:rows.length<=400) (hz:∀ v∈P,∀ r∈rows,co r.2 v=0):∀ k:Nat,k<=8 ->
  (ZaI (Zay P k) rows []=none->ZbR (rows.map ZbO) k=none) ∧
  ∀ res,ZaI (Zay P k) rows []=some res->res.1.length<=400/\∃ st,ZbR (rows.map ZbO) k=some (st,res.1.map ZbO)/\st.length=k/\res.2=chK P st k
 | 0,_=>by
  refine ⟨fun h=>(by cases h),fun res h=>?_⟩
  obtain rfl:=Option.some.inj h
  exact ⟨hl,[],rfl,rfl,rfl⟩
 | k+1,hk=>by
  obtain ⟨ih1,ih2⟩:=ZhP P hg hl hz k (by omega)
  have fv:∀ v∈Zay P k,∃ n:Nat,v=n/\n<8:=fun v hv=>by
   obtain ⟨⟨n,a,b⟩,_⟩:=(Zdh P k v).1 hv
   exact ⟨n,a,by omega⟩
  by_cases hp:P.contains (k:Int)=true
  ·have e:Zay P (k+1)=Zay P k:=if_pos hp
   rw [e]
   refine ⟨fun h=>?_,fun res h=>?_⟩
   ·rw [ZbR,ih1 h]
    rfl
   ·obtain ⟨l4,st,d1,d2,d3⟩:=ih2 res h
    obtain ⟨g1,g2,_⟩:=ZdM (Zay P k) rows [] res fv hg h
    have hzr:∀ r∈res.1.map ZbO,(atL r.2.1 (k:Int)).1=0:=fun r hr=>by
     obtain ⟨y,hy,rfl⟩:=List.mem_map.1 hr
     have:=g2 k (.inr (hz k (by simpa using hp))) y hy
     have:=(Zre (g1 y hy).1).1 this
     show (atL (Zw y.2.1) (k:Int)).1=0
     rw [Zbq (g1 y hy).1.ok]
     exact this
    refine ⟨l4,st++[([],[])],?_,by rw [List.length_append,d2];rfl,?_⟩
    ·rw [ZbR,d1,Option.bind_some,Zj0 _ _ hzr,Option.bind_some]
     simp only [List.nil_append]
     rw [ZoZ (by rw [List.length_map];exact l4)]
     rfl
    ·rw [chK,if_pos hp,Zjb P st _ k (by omega),d3]
  ·have e:Zay P (k+1)=Zay P k++[(k:Int)]:=if_neg hp
   rw [e,Zf2]
   cases hr:ZaI (Zay P k) rows [] with
   | none=>
    refine ⟨fun _=>?_,fun res h=>by cases h⟩
    rw [ZbR,ih1 hr]
    rfl
   | some res=>
    obtain ⟨l4,st,d1,d2,d3⟩:=ih2 res hr
    obtain ⟨g1,g2,_⟩:=ZdM (Zay P k) rows [] res fv hg hr
    have es:ZZ k ([],[],[]) (res.1.map ZbO)=(ZZ k ([],[],[]) res.1).map Zfc:=ZiU k res.1 ([],[],[]) fun r h=>(g1 r h).1
    rw [ZbR,d1,Option.bind_some,Option.bind_some]
    dsimp only
    rw [es]
    cases hs:ZZ k ([],[],[]) res.1 with
    | none=>exact ⟨fun _=>rfl,fun _ h=>by cases h⟩
    | some s=>
     have I:=Zds k res.1 _ s (fun r h=>(g1 r h).1) hs
     have o1:∀ r∈s.2.1,TrmOk r.2:=fun r h=>by
      rcases I.lo r h with a | ⟨_,_,a,_⟩
      ·cases a
      ·exact a.2.1
     have o2:∀ r∈s.2.2,TrmOk r.2:=fun r h=>by
      rcases I.up r h with a | ⟨_,_,a,_⟩
      ·cases a
      ·exact a.2.1
     rw [Option.map_some,Option.bind_some,Option.bind_some,ZnQ o1 o2]
     cases hw:Za5 s with
     | none=>exact ⟨fun _=>rfl,fun _ h=>by cases h⟩
     | some r=>
      refine ⟨fun h=>(by cases h),fun res' h=>?_⟩
      obtain rfl:=Option.some.inj h
      refine ⟨Zh8 hw,st++[(s.2.1,s.2.2)],rfl,by rw [List.length_append,d2];rfl,?_⟩
      rw [chK,if_neg hp,Zjb P st _ k (by omega),<- d2,ZoK,d2,d3]
def ZdJ (P:List Int) (st:List Stg):Nat->List (Int×Int)->Option (List (Int×Int))
 | 0,m=>some m
 | k+1,m=>if P.contains (k:Int)=true then ZdJ P st k m else (Zdx (ZcL st k).1 (ZcL st k).2 m).bind fun x=>ZdJ P st k (m.set k x)
theorem Zgy (P:List Int) (st:List Stg) (rest:List Ch):∀ (k:Nat) (m:List (Int×Int)),Zbk (((chK P st k).map Zcd).reverse++rest) m=(ZdJ P st k m).bind (Zbk rest)
 | 0,m=>rfl
 | k+1,m=>by
  rw [chK,ZdJ]
  split
  ·exact Zgy P st rest k m
  ·rw [List.map_append,List.reverse_append]
   show Zbk (Zcd ((k:Int),(ZcL st k).1,(ZcL st k).2)::(((chK P st k).map Zcd).reverse++rest)) m=_
   rw [Zbk]
   show (Zdx (ZcL st k).1 (ZcL st k).2 m).bind _=_
   cases Zdx (ZcL st k).1 (ZcL st k).2 m with
   | none=>rfl
   | some x=>
    simp only [Option.bind_some]
    exact Zgy P st rest k (m.set k x)
def ZdK (r:Rw):Bool:=decide (r.2.2.1<0)||(r.1==2&&r.2.2.1==0)
def ZeP (l:List Rw):List (Int×Int)×Int:=
 if 400<l.length\/l.any ZP=true then ([],2)
 else if (Zy (ZN l)).2≠0 then ([],(Zy (ZN l)).2)
 else match ZaY ((Zy (ZN l)).1.1.zip (Zy (ZN l)).1.2) l with
  | none=>([],2)
  | some rows=>match ZbR rows 8 with
   | none=>([],2)
   | some x=>if x.2.any ZdK=true then ([],1) else match (ZdJ (Zy (ZN l)).1.2 x.1 8 m0).bind (Zbk (ZaM ((Zy (ZN l)).1.1.zip (Zy (ZN l)).1.2))) with
    | none=>([],2)
    | some m=>(m,0)
theorem Zqg {r:Rw} (h:r.1=1\/r.1=2):ZdK (ZbO r)=!Zcq r.1 r.2.2.1:=by
 unfold ZdK Zcq ZbO ZR
 dsimp only
 generalize r.2.2.1=n
 rcases h with e | e<;>rw [e]
 ·rcases (show n<0\/0<=n by omega) with g | g
  ·rw [decide_eq_true g,if_neg (by decide),if_pos rfl,decide_eq_false (by omega)];rfl
  ·rw [decide_eq_false (by omega),if_neg (by decide),if_pos rfl,decide_eq_true (by omega)];rfl
 ·rw [if_neg (by decide),if_neg (by decide),if_pos rfl]
  rcases Int.lt_trichotomy n 0 with g | g | g
  ·rw [decide_eq_true g,decide_eq_false (by omega)];rfl
  ·subst g;rfl
  ·rw [decide_eq_false (by omega),decide_eq_true g,show (n==0)=false by simp;omega];rfl
theorem ZkD {α:Type} {f g:α->Bool}:∀ {l:List α},(∀ x∈l,f x=g x)->l.any f=l.any g
 | [],_=>rfl
 | x::l,h=>by rw [List.any_cons,List.any_cons,h x (by simp),ZkD fun y hy=>h y (List.mem_cons_of_mem _ hy)]
theorem Zlg {l:List Rw} (hw:Zkr l):ZeP l=ZbV l:=by
 unfold ZeP ZbV ZcX
 by_cases h1:400<l.length\/l.any ZP=true
 ·rw [if_pos h1,if_pos h1]
 rw [if_neg h1,if_neg h1]
 by_cases h2:(Zy (ZN l)).2≠0
 ·rw [if_pos h2,if_pos h2]
 rw [if_neg h2,if_neg h2]
 have hw2:l.any ZP=false:=by
  cases q:l.any ZP with
  | false=>rfl
  | true=>exact absurd (.inr q) h1
 have hr:∀ r∈l,TrmOk r.2/\(r.1=0\/r.1=1\/r.1=2):=fun r hr=>ZcB (hw r hr) (by
  have:=List.any_eq_false.1 hw2 r hr
  simpa using this)
 have he0:∀ t∈ZN l,Zv t.1/\Bd t.2:=fun t ht=>by
  obtain ⟨r,a,_,rfl⟩:=ZdN.1 ht
  exact hw r a
 have go:Zb4 (Zbf l):=fun r h=>by
  obtain ⟨a,b⟩:=ZfK.1 h
  obtain ⟨k1,k2⟩:=hr r a
  exact ⟨k1,by rcases k2 with c | c | c;(· exact absurd c b);(· exact .inl c);(· exact .inr c)⟩
 cases hq:Zy (ZN l) with
 | mk ap z=>
 obtain ⟨a,p⟩:=ap
 rw [hq] at h2
 dsimp only at h2 ⊢
 obtain rfl:z=0:=by simpa using h2
 have S:=Zhe he0 hq
 have hs:∀ s∈a.zip p,TrmOk s.1:=fun s hs=>by obtain ⟨j,h1,_⟩:=ZeG hs;exact S.ok _ (List.mem_of_getElem? h1)
 rw [ZjJ _ hs l fun r h=>(hr r h).1]
 cases hsub:Zbj (a.zip p) (Zbf l) with
 | none=>rfl
 | some rows=>
  obtain ⟨g1,g2,g3⟩:=ZhG (a.zip p) hs (Zbf l) rows go hsub
  have zp:∀ v∈p,∀ r∈rows,co r.2 v=0:=fun v hv=>g3 v (ZlB S hv) (ZmB S hv)
  have hlen:rows.length<=400:=by
   rw [Zgp _ _ _ hsub]
   have:=List.length_filter_le (fun r:Rw=>!(r.1==0)) l
   unfold Zbf
   omega
  obtain ⟨d1,d2⟩:=ZhP p g1 hlen zp 8 (Nat.le_refl _)
  simp only [Option.map_some]
  cases he:ZaI (Zay p 8) rows [] with
  | none=>rw [d1 he]
  | some res=>
   obtain ⟨_,st,e1,e2,e3⟩:=d2 res he
   obtain ⟨i1,_⟩:=ZdM (Zay p 8) rows [] res (fun v hv=>by obtain ⟨⟨n,a,b⟩,_⟩:=(Zdh p 8 v).1 hv;exact ⟨n,a,b⟩) g1 he
   rw [e1]
   dsimp only
   have ea:(res.1.map ZbO).any ZdK=res.1.any fun r=>!Zcq r.1 r.2.2.1:=by
    rw [List.any_map]
    exact ZkD fun r h=>Zqg (i1 r h).2
   rw [ea]
   by_cases h3:(res.1.any fun r=>!Zcq r.1 r.2.2.1)=true
   ·rw [if_pos h3,if_pos h3]
   ·rw [if_neg h3,if_neg h3,e3]
    dsimp only
    rw [Zgy]
    rfl
end
section
open Go.RowKit
theorem Zjn {l:List Rw} (hw:∀ r∈l,ZX r):Zkr l:=fun r hr=>⟨(hw r hr).1,(hw r hr).2.1⟩
theorem ZjY (l:List Rw):(ZbV l).2=0\/(ZbV l).2=1\/(ZbV l).2=2:=by
 unfold ZbV
 cases h:ZcX l with
 | inl z=>
  dsimp only
  unfold ZcX at h
  split at h
  ·injection h with h;exact .inr (.inr h.symm)
  ·split at h
   ·injection h with h
    rcases Zmi (ZN l) with q | ⟨q,_⟩ | ⟨q,_⟩
    ·rename_i g;exact absurd q g
    ·exact .inr (.inl (by rw [<- h,q]))
    ·exact .inr (.inr (by rw [<- h,q]))
   ·split at h
    ·injection h with h;exact .inr (.inr h.symm)
    ·split at h
     ·injection h with h;exact .inr (.inr h.symm)
     ·split at h
      ·injection h with h;exact .inr (.inl h.symm)
      ·cases h
 | inr f=>
  dsimp only
  split
  ·exact .inr (.inr rfl)
  ·exact .inl rfl
theorem ZnA {l:List Rw} (hw:∀ r∈l,ZX r) (h:(ZbV l).2=1) (x:Nat->Rat):¬ ∀ r∈l,Zcs r x:=by
 unfold ZbV at h
 cases e:ZcX l with
 | inl z=>
  rw [e] at h
  dsimp only at h
  subst h
  exact ZlZ (Zjn hw) e x
 | inr f=>
  rw [e] at h
  dsimp only at h
  split at h
  ·cases h
  ·cases h
section
variable {wq wo:World} {A:Prop} {base:Nat}
theorem Zmy (_:A/\Below wq.heap.size wq (wo.alloc (.cells #[] 29))) (h:wq.heap.size<=wo.heap.size):(wo.alloc (.cells #[] 29)).ownsRow wq.heap.size 29 4 (.slice (some ⟨wo.heap.size,0,none⟩) 0 0) 0 []:=ZdD (Zgd wo) h
theorem ZkO (_:A/\Below wq.heap.size wq (wo.alloc (.cells #[] 29)).drew) (h:wq.heap.size<=wo.heap.size):(wo.alloc (.cells #[] 29)).drew.ownsRow wq.heap.size 29 4 (.slice (some ⟨wo.heap.size,0,none⟩) 0 0) 0 []:=ZdD (Zgd wo) h
theorem ZeE {o:Obj} {v:Value} {n:Nat} {xs:List Value} (_:A/\Below wq.heap.size wq (wo.alloc o)) (h:wo.ownsRow base 29 4 v n xs):(wo.alloc o).ownsRow base 29 4 v n xs:=h.kept (Zac (Za _ _) none) (by cases hv:v.ownBlock<;>simp)
end
theorem size_drew (w:World):w.drew.heap.size=w.heap.size:=rfl
theorem Zk7 {A:Prop} {wq wo:World} {o:Obj} {c:Nat} {xs:List Value} (_:A/\Below wq.heap.size wq (wo.alloc o)) (h:Zbl wo 0 c xs):Zbl (wo.alloc o) 0 c xs:=h.keep (Za _ _)
theorem Zga {w w':World} {c:Nat} {xs:List Value} {row:Option Nat} (h:Zbl w 0 c xs) (hg:w.grownBy w' row) (hr:row≠some c):Zbl w' 0 c xs:=
 ⟨Nat.zero_le _,Nat.lt_of_lt_of_le h.2.1 hg.size,fun j u hu=>hg.cell (h.2.2 j u hu) (fun e=>hr e.symm)⟩
end
section
open Go.RowKit
theorem ZoI {r:Rw} {x:Nat->Rat} (h:r.1=0):Zcs r x↔ev r.2 x=0:=by unfold Zcs;rw [if_pos h]
theorem ZiS {r:Rw} {x:Nat->Rat} (h:r.1=1):Zcs r x↔0<=ev r.2 x:=by
 unfold Zcs
 rw [if_neg (by omega)]
 unfold ZbZ Zca Zem
 rw [h]
 dsimp only
 rw [ZeB]
 simp [ZbW]
theorem Zln {r:Rw} {x:Nat->Rat} (h:r.1=2):Zcs r x↔0<ev r.2 x:=by
 unfold Zcs
 rw [if_neg (by omega)]
 unfold ZbZ Zca Zem
 rw [h]
 dsimp only
 rw [ZeB]
 simp [ZbW]
theorem ZoU {l:List (Int×Int)} {k b:Int×Int} (h:(Zh l k b).2.2≠0):(Zh l k b).2.1=(0,0):=by
 unfold Zh at h ⊢
 split
 ·rename_i g
  rw [if_pos g] at h
  unfold Za3 at h ⊢
  split
  ·rename_i g2
   rw [if_pos g2] at h
   exact absurd rfl h
  ·rfl
 ·rfl
theorem ZpD:¬ OkR (0,0):=fun ⟨d,e,v⟩=>by
 have:=v.pos
 have e:(0:Int)=d:=e
 omega
theorem Zk4 {r:Rw} {o:Int} (hr:TrmOk r.2) (hm:TrmOk (Za1 o r).2) (x:Nat->Rat):ev (Za1 o r).2 x=- ev r.2 x:=by
 have he:(Zh r.2.1 r.2.2 (-1,1)).2.2=0:=by
  by_cases q:(Zh r.2.1 r.2.2 (-1,1)).2.2=0
  ·exact q
  ·have:=hm.k
   unfold Za1 at this
   dsimp only at this
   rw [ZoU q] at this
   exact absurd this ZpD
 have hs:ZaL r.2 (-1,1)=some (Za1 o r).2:=by
  unfold ZaL Za1
  rw [if_pos he]
 have qm:q (-1,1)=-1:=by
  have:=Zne (1,1)
  rw [Zp4] at this
  exact this
 obtain ⟨a,b⟩:=Zis hr (Zbv Zdn) hs
 rw [show ZA (1,1)=(-1,1) from rfl,qm] at a b
 have:=Zd1 (fun k=>co (Za1 o r).2 k*x k) (fun k=>co r.2 k*x k) (fun k=>co r.2 k*x k) (-2) (fun k=>by rw [a k];grind) 8
 unfold ev
 rw [b,this]
 grind
end
section
open Go.RowKit
theorem Zfm {t:Trm} (h:TrmOk t):(Zh t.1 t.2 (-1,1)).2.2=0:=by
 have hc:Zad (Zx (-1,1)) t.1 [] (max t.1.length ([]:List (Int×Int)).length):=fun i _=>by unfold Zx;rw [ZjN (h.ok.at i)]
 unfold Zh
 rw [if_pos ⟨ZaA h.len h.ok h.k,by decide⟩,Zjk (show Zx (-1,1) t.2 (0,1)=((-t.2.1,t.2.2),0) from ZjN h.k) hc]
theorem ZhA {r:Rw} {o:Int} (h:TrmOk r.2):TrmOk (Za1 o r).2:=by
 obtain ⟨_,_,_,_,P⟩:=Zcm h.ok.wide h.k.wide Zb5 (Zfm h)
 exact ⟨P.ok,P.okk,P.len⟩
theorem Zfn {r:Rw} (h:ZW r.2=true):(Zh r.2.1 r.2.2 (-1,1)).2.2≠0:=by
 unfold ZW at h
 unfold Zh
 rw [if_neg (fun q=>by rw [q.1] at h;cases h)]
 decide
def Zbi (l:List Rw) (t:Trm) (op:Int):Int:=
 if (Zh t.1 t.2 (-1,1)).2.2≠0 then 2 else if (ZeP (l++[Za1 op (op,t)])).2=2 then 2 else 1-(ZeP (l++[Za1 op (op,t)])).2
def Zno (l:List Rw) (r:Rw):Int:=
 if r.1=1 then Zbi l r.2 2 else if r.1=2 then Zbi l r.2 1
 else if r.1=0 then (if Zbi l r.2 2≠0 then Zbi l r.2 2 else if (Zh r.2.1 r.2.2 (-1,1)).2.2≠0 then 2 else Zbi l (Za1 1 r).2 2)
 else 2
theorem Zhs {l:List Rw} {s:Rw} (hw:∀ r∈l,ZX r) (hs:ZX s):∀ x∈l++[s],ZX x:=fun x hx=>by
 rcases List.mem_append.1 hx with q | q
 ·exact hw x q
 ·rw [List.mem_singleton] at q;subst q;exact hs
theorem ZhZ {o:Int} {t:Trm} (h:TrmOk t) (ho:o=0\/o=1\/o=2):ZP (o,t)=false:=by
 unfold ZP ZW
 rw [show ZO t.1 t.2.1 t.2.2=true from ZaA h.len h.ok h.k]
 rcases ho with rfl | rfl | rfl<;>rfl
theorem Zf9 {l:List Rw} {t:Trm} {op o:Int} (hw:∀ r∈l,ZX r) (ht:TrmOk t) (hop:-9223372036854775808<=op/\op<=9223372036854775807) (ho:-9223372036854775808<=o/\o<=9223372036854775807):Zbi l t op=Zd5 (ZbV (l++[Za1 op (o,t)])).2:=by
 unfold Zbi
 rw [if_neg (fun q=>q (Zfm ht))]
 have e:Za1 op (op,t)=Za1 op (o,t):=rfl
 rw [e,Zlg (Zjn (Zhs hw (Zdq (r:=(o,t)) (op:=op) ⟨ht.ok.wide,ht.k.wide,ho⟩ hop)))]
 rcases ZjY (l++[Za1 op (o,t)]) with h | h | h<;>rw [h]<;>rfl
theorem ZfB {l:List Rw} {r:Rw} (h:ZP r=false):ZcO l r=Zd5 (ZbV (l++[Za1 (if r.1=1 then 2 else 1) r])).2:=by
 unfold ZcO
 rw [h]
 rfl
theorem Zl9 {l:List Rw} {r:Rw} (hw:∀ r∈l,ZX r) (hr:ZX r):Zno l r=Zff l r:=by
 unfold Zno Zff
 cases hwr:ZP r with
 | true=>
  rw [if_pos rfl]
  by_cases h1:r.1=1
  ·have:ZW r.2=true:=by unfold ZP at hwr;rw [h1] at hwr;simpa using hwr
   rw [if_pos h1]
   unfold Zbi
   rw [if_pos (Zfn this)]
  ·rw [if_neg h1]
   by_cases h2:r.1=2
   ·have:ZW r.2=true:=by unfold ZP at hwr;rw [h2] at hwr;simpa using hwr
    rw [if_pos h2]
    unfold Zbi
    rw [if_pos (Zfn this)]
   ·rw [if_neg h2]
    by_cases h0:r.1=0
    ·have:ZW r.2=true:=by unfold ZP at hwr;rw [h0] at hwr;simpa using hwr
     rw [if_pos h0]
     unfold Zbi
     rw [if_pos (Zfn this)]
     rfl
    ·rw [if_neg h0]
 | false=>
  rw [if_neg (show ¬ (false=true) by decide)]
  obtain ⟨t1,hop⟩:=ZcB ⟨hr.1,hr.2.1⟩ hwr
  rcases hop with h | h | h
  ·have n1:¬ r.1=1:=by rw [h];decide
   have n2:¬ r.1=2:=by rw [h];decide
   rw [if_neg n1,if_neg n2,if_pos h,if_pos h,Zf9 (o:=1) hw t1 (by decide) (by decide),Zf9 (o:=1) hw (ZhA (o:=1) t1) (by decide) (by decide),if_neg (show ¬ (Zh r.2.1 r.2.2 (-1,1)).2.2≠0 from fun q=>q (Zfm t1)),
    ZfB (r:=(1,r.2)) (ZhZ t1 (by decide)),ZfB (r:=Za1 1 r) (ZhZ (ZhA (o:=1) t1) (by decide))]
   have e1:(if ((1,r.2):Rw).1=1 then (2:Int) else 1)=2:=rfl
   have e2:(if (Za1 1 r).1=1 then (2:Int) else 1)=2:=rfl
   rw [e1,e2]
   by_cases g:Zd5 (ZbV (l++[Za1 2 (1,r.2)])).2=0
   ·rw [if_neg (fun q=>q g),if_pos g]
    rfl
   ·rw [if_pos g,if_neg g]
  ·have n0:¬ r.1=0:=by rw [h];decide
   rw [if_pos h,if_neg n0,ZfB hwr,if_pos h,Zf9 (o:=r.1) hw t1 (by decide) hr.2.2]
  ·have n0:¬ r.1=0:=by rw [h];decide
   have n1:¬ r.1=1:=by rw [h];decide
   rw [if_neg n1,if_pos h,if_neg n0,ZfB hwr,if_neg n1,Zf9 (o:=r.1) hw t1 (by decide) hr.2.2]
theorem Zq1 {z:Int} (h:Zd5 z=0):z=1:=by
 unfold Zd5 at h
 split at h
 ·cases h
 ·split at h
  ·assumption
  ·cases h
theorem Zig {l:List Rw} {r:Rw} (hw:∀ r∈l,ZX r) (hr:ZX r) (hop:r.1=1\/r.1=2) (h:ZcO l r=0) {x:Nat->Rat} (hx:∀ s∈l,Zcs s x):Zcs r x:=by
 cases hwr:ZP r with
 | true=>
  unfold ZcO at h
  rw [hwr] at h
  cases h
 | false=>
  rw [ZfB hwr] at h
  have hz:=Zq1 h
  obtain ⟨t1,_⟩:=ZcB ⟨hr.1,hr.2.1⟩ hwr
  have hm:ZX (Za1 (if r.1=1 then 2 else 1) r):=Zdq hr (by split<;>decide)
  have no:=ZnA (Zhs hw hm) hz x
  have ee:=Zk4 (o:=if r.1=1 then 2 else 1) t1 (ZhA t1) x
  have no2:¬ Zcs (Za1 (if r.1=1 then 2 else 1) r) x:=fun q=>no fun y hy=>by
   rcases List.mem_append.1 hy with a | a
   ·exact hx y a
   ·rw [List.mem_singleton] at a;subst a;exact q
  rcases hop with q | q
  ·rw [if_pos q] at no2 ee
   rw [Zln (r:=Za1 2 r) rfl,ee] at no2
   rw [ZiS q]
   grind
  ·rw [if_neg (by omega)] at no2 ee
   rw [ZiS (r:=Za1 1 r) rfl,ee] at no2
   rw [Zln q]
   grind
theorem Zqk {l:List Rw} {r:Rw} (hw:∀ r∈l,ZX r) (hr:ZX r) (h:Zff l r=0) {x:Nat->Rat} (hx:∀ s∈l,Zcs s x):Zcs r x:=by
 unfold Zff at h
 split at h
 ·cases h
 rename_i g
 have hwr:ZP r=false:=by simpa using g
 obtain ⟨t1,hop⟩:=ZcB ⟨hr.1,hr.2.1⟩ hwr
 split at h
 ·rename_i h0
  split at h
  ·rename_i g1
   have a:=Zig (r:=(1,r.2)) hw ⟨hr.1,hr.2.1,(show -9223372036854775808<=(1:Int)/\(1:Int)<=9223372036854775807 by decide)⟩ (.inl rfl) g1 hx
   have b:=Zig (r:=Za1 1 r) hw (Zdq hr (by decide)) (.inl rfl) h hx
   rw [ZiS rfl] at a b
   rw [Zk4 t1 (ZhA t1) x] at b
   rw [ZoI h0]
   dsimp only at a
   grind
  ·rename_i g1
   exact absurd h g1
 ·rename_i h0
  exact Zig hw hr (by rcases hop with a | a | a;(· exact absurd a h0);(· exact .inl a);(· exact .inr a)) h hx
def xOf (m:List (Int×Int)):Nat->Rat:=fun k=>q (atL (m.take 8) k)
theorem ZmI {r:Rw} {m:List (Int×Int)} (hr:ZX r) (hm:Zv m) (he:(ZS r.2.1 m r.2.2).2=0) (hop:r.1=0\/r.1=1\/r.1=2):Zcq r.1 (ZS r.2.1 m r.2.2).1.1=true↔Zcs r (xOf m):=by
 obtain ⟨a,b⟩:=Zq9 hr.1 hr.2.1 hm he
 obtain ⟨s1,s2⟩:=Zox a
 have s0:=Zge a
 rw [b] at s0 s1 s2
 unfold Zcq
 rcases hop with h | h | h
 ·rw [ZoI h,if_pos h]
  unfold xOf
  rw [s0,beq_iff_eq]
 ·rw [ZiS h,if_neg (by omega),if_pos h]
  unfold xOf
  rw [s1,decide_eq_true_iff]
 ·rw [Zln h,if_neg (by omega),if_neg (by omega),if_pos h]
  unfold xOf
  rw [s2,decide_eq_true_iff]
theorem Zq5 {op n:Int} (h:Zcq op n=true):op=0\/op=1\/op=2:=by
 unfold Zcq at h
 split at h
 ·rename_i q;exact .inl q
 ·split at h
  ·rename_i q;exact .inr (.inl q)
  ·split at h
   ·rename_i q;exact .inr (.inr q)
   ·cases h
theorem follows_holds {l:List Rw} {r:Rw} {m:List (Int×Int)} (hw:∀ r∈l,ZX r) (hr:ZX r) (hm:Zv m) (h:Zff l r=0) (hh:Zed l m=true) (he:(ZS r.2.1 m r.2.2).2=0):Zed [r] m=true:=by
 unfold Zed at hh ⊢
 rw [Bool.and_eq_true,Bool.not_eq_true',List.any_eq_false] at hh
 have all:∀ s∈l,Zcs s (xOf m):=fun s hs=>by
  have:=hh.2 s hs
  unfold Zc3 at this
  simp only [Bool.or_eq_true,bne_iff_ne,ne_eq,Bool.not_eq_true',not_or,Decidable.not_not,Bool.not_eq_false] at this
  exact (ZmI (hw s hs) hm this.1 (Zq5 this.2)).1 this.2
 have sr:=Zqk hw hr h all
 have hwr:ZP r=false:=by
  cases q:ZP r with
  | false=>rfl
  | true=>
   unfold Zff at h
   rw [q] at h
   cases h
 have ok:=(ZmI hr hm he (ZcB ⟨hr.1,hr.2.1⟩ hwr).2).2 sr
 rw [Bool.and_eq_true,Bool.not_eq_true',List.any_cons,List.any_nil,Bool.or_false]
 refine ⟨hh.1,?_⟩
 unfold Zc3
 rw [ok,he]
 rfl
end
section
open Go.RowKit
def Zaz:List Trm->List Int->List Trm
 | t::l,k::tk=>if k<0 then t::Zaz l tk else Zaz l tk
 | _,_=>[]
theorem ZgT:∀ {a b:List Trm} {c d:List Int},a.length=c.length->Zaz (a++b) (c++d)=Zaz a c++Zaz b d
 | [],b,[],d,_=>rfl
 | x::a,b,k::c,d,h=>by
  rw [List.cons_append,List.cons_append,Zaz,Zaz,ZgT (by simpa using h)]
  split<;>rfl
theorem Zee {t:Trm}:∀ {l:List Trm} {tk:List Int},t∈Zaz l tk->∃ (i:Nat) (k:Int),l[i]? = some t/\tk[i]? = some k/\k<0
 | [],_,h=>by simp [Zaz] at h
 | _::_,[],h=>by simp [Zaz] at h
 | x::l,k::tk,h=>by
  rw [Zaz] at h
  split at h
  ·rename_i hk
   rcases List.mem_cons.1 h with rfl | h
   ·exact ⟨0,k,rfl,rfl,hk⟩
   ·obtain ⟨i,z,a,b,c⟩:=Zee h
    exact ⟨i+1,z,a,b,c⟩
  ·obtain ⟨i,z,a,b,c⟩:=Zee h
   exact ⟨i+1,z,a,b,c⟩
theorem Zeb {t:Trm} {k:Int} (hk:k<0):∀ {l:List Trm} {tk:List Int} {i:Nat},l[i]? = some t->tk[i]? = some k->t∈Zaz l tk
 | [],_,_,h,_=>by simp at h
 | _::_,[],_,_,h=>by simp at h
 | x::l,z::tk,0,h,g=>by
  obtain rfl:=Option.some.inj h
  obtain rfl:=Option.some.inj g
  rw [Zaz,if_pos hk]
  exact List.mem_cons_self
 | x::l,z::tk,i+1,h,g=>by
  have:=Zeb hk (l:=l) (tk:=tk) (i:=i) h g
  rw [Zaz]
  split
  ·exact List.mem_cons_of_mem _ this
  ·exact this
theorem Zjz:∀ (l:List Trm),Zaz l (List.replicate l.length (-1))=l
 | []=>rfl
 | x::l=>by
  rw [List.length_cons,List.replicate_succ,Zaz,if_pos (by decide),Zjz l]
theorem Zn1 {α:Type} {l:List α} {i:Nat} {t:α} (h:l[i]? = some t):l=l.take i++t::l.drop (i+1):=by
 have hl:=Za4 h
 rw [List.getElem?_eq_getElem hl] at h
 rw [<- Option.some.inj h,List.getElem_cons_drop,List.take_append_drop]
theorem ZjA {l:List Trm} {tk:List Int} {i:Nat} {t:Trm} {k:Int} (hl:tk.length=l.length) (h:l[i]? = some t) (g:tk[i]? = some k) :
  Zaz l tk=Zaz (l.take i) (tk.take i)++(if k<0 then t::Zaz (l.drop (i+1)) (tk.drop (i+1)) else Zaz (l.drop (i+1)) (tk.drop (i+1))):=by
 have e:=ZgT (a:=l.take i) (c:=tk.take i) (b:=t::l.drop (i+1)) (d:=k::tk.drop (i+1)) (by rw [List.length_take,List.length_take,hl])
 rw [<- Zn1 h,<- Zn1 g] at e
 rw [e,Zaz]
theorem ZhS {f:Trm->Option Trm}:∀ {a b c d:List Trm},Zak f a=some c->Zak f b=some d->Zak f (a++b)=some (c++d)
 | [],b,c,d,h,g=>by
  obtain rfl:[]=c:=by simpa [Zak] using h
  exact g
 | x::a,b,c,d,h,g=>by
  rw [Zak,Option.bind_eq_some_iff] at h
  obtain ⟨u,hu,h⟩:=h
  obtain ⟨r,hr,rfl⟩:=Option.map_eq_some_iff.1 h
  rw [List.cons_append,Zak,hu,Option.bind_some,ZhS hr g]
  rfl
theorem Zg2 {f:Trm->Option Trm}:∀ {l us:List Trm} {tk:List Int},us.length=l.length->(∀ (j:Nat) (t:Trm),l[j]? = some t->∃ u,us[j]? = some u/\f t=some u)->Zak f (Zaz l tk)=some (Zaz us tk)
 | [],us,tk,h,_=>by
  obtain rfl:=List.eq_nil_of_length_eq_zero h
  cases tk<;>rfl
 | x::l,[],_,h,_=>by cases h
 | x::l,u::us,[],h,g=>rfl
 | x::l,u::us,k::tk,h,g=>by
  have ih:=Zg2 (f:=f) (l:=l) (us:=us) (tk:=tk) (by simpa using h) fun j t hj=>g (j+1) t hj
  obtain ⟨u',hu,hf⟩:=g 0 x rfl
  obtain rfl:=Option.some.inj hu
  rw [Zaz,Zaz]
  split
  ·rw [Zak,hf,Option.bind_some,ih]
   rfl
  ·exact ih
structure Beside (n:Nat) (s:ZbY) (l:List Trm) (tk od:List Int):Prop where
 ll:l.length=n
 tl:tk.length=n
 free:s.1=Zaz l tk
 ol:od.length=s.2.1.length
 at_:∀ (m:Nat) (o:Int),od[m]? = some o->∃ (i:Nat) (t:Trm) (z:Int),o=i/\l[i]? = some t/\s.2.1[m]? = some t/\tk[i]? = some z/\0<=z
 cover:∀ (i:Nat) (z:Int),tk[i]? = some z->0<=z->∃ m:Nat,od[m]? = some (i:Int)
theorem Beside.start (ts:List Trm):Beside ts.length (ts,[],[]) ts (List.replicate ts.length (-1)) []:=by
 refine ⟨rfl,List.length_replicate,(Zjz ts).symm,rfl,fun m o h=>by simp at h,fun i z h hz=>?_⟩
 rw [List.getElem?_replicate] at h
 split at h
 ·have:=Option.some.inj h
  omega
 ·cases h
theorem Beside.none_ {n:Nat} {s:ZbY} {l:List Trm} {tk od:List Int} {v:Int} (h:Beside n s l tk od) (hf:Zez v l tk (-1)):ZaB s v=some s:=by
 have e:s.1.findIdx? (Zbb v)=none:=by
  rw [List.findIdx?_eq_none_iff]
  intro t ht
  rw [h.free] at ht
  obtain ⟨i,k,a,b,c⟩:=Zee ht
  rcases hf with ⟨_,hf⟩ | ⟨j,e,_⟩
  ·have:=hf i t k a b
   unfold ZeR at this
   rw [decide_eq_true c,Bool.true_and] at this
   exact this
  ·omega
 unfold ZaB
 rw [e]
theorem Beside.found {n:Nat} {s:ZbY} {l:List Trm} {tk od:List Int} {v:Int} {i:Nat} (h:Beside n s l tk od) (hf:Zez v l tk i) :
  ∃ (t:Trm) (k:Int),l[i]? = some t/\tk[i]? = some k/\k<0/\Zbb v t=true/\s.1=Zaz (l.take i) (tk.take i)++t::Zaz (l.drop (i+1)) (tk.drop (i+1)) ∧
   s.1.findIdx? (Zbb v)=some (Zaz (l.take i) (tk.take i)).length:=by
 rcases hf with ⟨e,_⟩ | ⟨j,e,⟨t,k,a,b,c⟩,d⟩
 ·omega
 obtain rfl:i=j:=by omega
 unfold ZeR at c
 rw [Bool.and_eq_true,decide_eq_true_eq] at c
 have e:=ZjA (by rw [h.tl,h.ll]) a b
 rw [if_pos c.1,<- h.free] at e
 refine ⟨t,k,a,b,c.1,c.2,e,ZkV (t:=t) ?_ c.2 ?_⟩
 ·rw [e,List.getElem?_append_right (Nat.le_refl _),Nat.sub_self]
  rfl
 ·rw [e,List.take_left,List.any_eq_false]
  intro u hu
  obtain ⟨j,z,p,q,r⟩:=Zee hu
  rw [List.getElem?_take] at p q
  split at p
  ·rename_i hj
   rw [if_pos hj] at q
   have:=d j u z hj p q
   unfold ZeR at this
   rw [decide_eq_true r,Bool.true_and] at this
   rw [this]
   decide
  ·cases p
theorem ZgS {α:Type}:∀ (a:List α) (t:α) (b:List α),(a++t::b).eraseIdx a.length=a++b
 | [],_,_=>rfl
 | x::a,t,b=>by
  show x::(a++t::b).eraseIdx a.length=x::(a++b)
  rw [ZgS a t b]
theorem Beside.over {n:Nat} {s:ZbY} {l:List Trm} {tk od:List Int} {v:Int} {i:Nat} {t:Trm} (h:Beside n s l tk od) (hf:Zez v l tk i) (ht:l[i]? = some t) (hb:(ZM t v).2.2≠0\/ZgI ((ZM t v).1,(ZM t v).2.1) v i l):ZaB s v=none:=by
 obtain ⟨t',k,a,b,c,d,e,f⟩:=h.found hf
 rw [ht] at a
 obtain rfl:=Option.some.inj a
 have g:s.1[(Zaz (l.take i) (tk.take i)).length]? = some t:=by
  rw [e,List.getElem?_append_right (Nat.le_refl _),Nat.sub_self]
  rfl
 unfold ZaB
 rw [f]
 dsimp only
 rw [g,Option.bind_some]
 by_cases he:(ZM t v).2.2=0
 rotate_left
 ·exact if_neg he
 rw [if_pos he]
 rcases hb with hb | ⟨j,u,hj,hu⟩
 ·exact absurd he hb
 have hji:j≠i:=fun q=>by
  unfold ZeS at hu
  rw [if_pos q] at hu
  cases hu
 have hn:ZQ ((ZM t v).1,(ZM t v).2.1) v u=none:=by
  unfold ZeS at hu
  rw [if_neg hji] at hu
  exact hu
 have hjl:=Za4 hj
 obtain ⟨z,hz⟩:∃ z,tk[j]? = some z:=⟨_,List.getElem?_eq_getElem (by rw [h.tl,<- h.ll];exact hjl)⟩
 by_cases hz0:z<0
 ·have hm:u∈s.1.eraseIdx (Zaz (l.take i) (tk.take i)).length:=by
   rw [e,ZgS,List.mem_append]
   rcases Nat.lt_or_ge j i with q | q
   ·exact .inl (Zeb hz0 (i:=j) (by rw [List.getElem?_take,if_pos q];exact hj) (by rw [List.getElem?_take,if_pos q];exact hz))
   ·exact .inr (Zeb hz0 (i:=j-(i+1)) (by rw [List.getElem?_drop,show i+1+(j-(i+1))=j by omega];exact hj) (by rw [List.getElem?_drop,show i+1+(j-(i+1))=j by omega];exact hz))
  rw [Zf7 hn hm]
  rfl
 ·obtain ⟨m,hm⟩:=h.cover j z hz (by omega)
  obtain ⟨i',u',_,q1,q2,q3,_⟩:=h.at_ m j hm
  obtain rfl:j=i':=by omega
  rw [hj] at q2
  obtain rfl:=Option.some.inj q2
  rw [Zf7 hn (List.mem_of_getElem? q3)]
  cases Zak (ZQ ((ZM t v).1,(ZM t v).2.1) v) (s.1.eraseIdx (Zaz (l.take i) (tk.take i)).length)<;>rfl
theorem Beside.next {n:Nat} {s:ZbY} {l us:List Trm} {tk od:List Int} {v:Int} {i:Nat} {t:Trm} (h:Beside n s l tk od) (hv:0<=v) (hf:Zez v l tk i) (ht:l[i]? = some t) (he:(ZM t v).2.2=0) (hu:ZmY ((ZM t v).1,(ZM t v).2.1) v i l us) :
  ∃ r,ZaB s v=some r/\Beside n r us (tk.set i v) (od++[(i:Int)])/\r.2.2=s.2.2++[v]:=by
 obtain ⟨t',k,a,b,c,d,e,f⟩:=h.found hf
 rw [ht] at a
 obtain rfl:=Option.some.inj a
 have g:s.1[(Zaz (l.take i) (tk.take i)).length]? = some t:=by
  rw [e,List.getElem?_append_right (Nat.le_refl _),Nat.sub_self]
  rfl
 have hil:=Za4 ht
 have itk:=Za4 b
 have other:∀ (j:Nat) (x:Trm),j≠i->l[j]? = some x->∃ u,us[j]? = some u/\ZQ ((ZM t v).1,(ZM t v).2.1) v x=some u:=fun j x hj hx=>by
  obtain ⟨u,q1,q2⟩:=hu.2 j x hx
  unfold ZeS at q2
  rw [if_neg hj] at q2
  exact ⟨u,q1,q2⟩
 have own:us[i]? = some ((ZM t v).1,(ZM t v).2.1):=by
  obtain ⟨u,q1,q2⟩:=hu.2 i t ht
  unfold ZeS at q2
  rw [if_pos rfl] at q2
  rw [q1,q2]
 have m1:Zak (ZQ ((ZM t v).1,(ZM t v).2.1) v) (Zaz (l.take i) (tk.take i))=some (Zaz (us.take i) (tk.take i)):=by
  refine Zg2 (by rw [List.length_take,List.length_take,hu.1]) fun j x hx=>?_
  rw [List.getElem?_take] at hx ⊢
  split at hx
  ·rename_i q
   rw [if_pos q]
   exact other j x (by omega) hx
  ·cases hx
 have m2:Zak (ZQ ((ZM t v).1,(ZM t v).2.1) v) (Zaz (l.drop (i+1)) (tk.drop (i+1)))=some (Zaz (us.drop (i+1)) (tk.drop (i+1))):=by
  refine Zg2 (by rw [List.length_drop,List.length_drop,hu.1]) fun j x hx=>?_
  rw [List.getElem?_drop] at hx ⊢
  exact other _ x (by omega) hx
 have ne:∀ (m j:Nat),od[m]? = some (j:Int)->j≠i:=fun m j hm q=>by
  obtain ⟨i',_,z,q1,_,_,q4,q5⟩:=h.at_ m j hm
  obtain rfl:j=i':=by omega
  rw [q,b] at q4
  have:=Option.some.inj q4
  omega
 obtain ⟨Q,hQ,HQ⟩:∃ Q,Zak (ZQ ((ZM t v).1,(ZM t v).2.1) v) s.2.1=some Q/\∀ (m j:Nat),od[m]? = some (j:Int)->∃ x,us[j]? = some x/\Q[m]? = some x:=by
  have all:∀ (m:Nat) (x:Trm),s.2.1[m]? = some x->∃ u,ZQ ((ZM t v).1,(ZM t v).2.1) v x=some u:=fun m x hx=>by
   obtain ⟨o,ho⟩:∃ o,od[m]? = some o:=⟨_,List.getElem?_eq_getElem (by rw [h.ol];exact Za4 hx)⟩
   obtain ⟨j,x',_,rfl,q2,q3,_⟩:=h.at_ m o ho
   rw [hx] at q3
   obtain rfl:=Option.some.inj q3
   obtain ⟨u,_,q⟩:=other j x (ne m j ho) q2
   exact ⟨u,q⟩
  cases hq:Zak (ZQ ((ZM t v).1,(ZM t v).2.1) v) s.2.1 with
  | none=>
   exfalso
   have none_:∀ (f:Trm->Option Trm) (y:List Trm),Zak f y=none->∃ x∈y,f x=none:=by
    intro f y
    induction y with
    | nil=>intro q;simp [Zak] at q
    | cons x r ih=>
     intro q
     cases hx:f x with
     | none=>exact ⟨x,by simp,hx⟩
     | some u=>
      rw [Zak,hx,Option.bind_some,Option.map_eq_none_iff] at q
      obtain ⟨x',q1,q2⟩:=ih q
      exact ⟨x',by simp [q1],q2⟩
   obtain ⟨x,q1,q2⟩:=none_ _ _ hq
   obtain ⟨m,hm⟩:=List.mem_iff_getElem?.1 q1
   obtain ⟨u,q3⟩:=all m x hm
   rw [q2] at q3
   cases q3
  | some Q=>
   refine ⟨Q,rfl,fun m j hm=>?_⟩
   obtain ⟨j',x,_,q1,q2,q3,_⟩:=h.at_ m j hm
   obtain rfl:j=j':=by omega
   obtain ⟨u,q4,q5⟩:=other j x (ne m j hm) q2
   obtain ⟨u',q6,q7⟩:=ZfC hq m x q3
   rw [q5] at q7
   exact ⟨u,q4,by rw [q6,<- Option.some.inj q7]⟩
 have hQl:=Zc0 hQ
 refine ⟨(Zaz (us.take i) (tk.take i)++Zaz (us.drop (i+1)) (tk.drop (i+1)),Q++[((ZM t v).1,(ZM t v).2.1)],s.2.2++[v]),?_,?_,rfl⟩
 ·unfold ZaB
  rw [f]
  dsimp only
  rw [g,Option.bind_some,if_pos he,e,ZgS,ZhS m1 m2,Option.bind_some,hQ]
  rfl
 ·have ts:(tk.set i v)[i]? = some v:=by rw [List.getElem?_set_self itk]
  refine ⟨by rw [hu.1,h.ll],by rw [List.length_set,h.tl],?_,?_,?_,?_⟩
  ·have q:=ZjA (l:=us) (tk:=tk.set i v) (i:=i) (by rw [List.length_set,h.tl,hu.1,h.ll]) own ts
   rw [if_neg (by omega),List.take_set_of_le (Nat.le_refl _),List.drop_set_of_lt (by omega)] at q
   exact q.symm
  ·rw [List.length_append,List.length_append,h.ol,hQl]
   rfl
  ·intro m o hm
   rcases Nat.lt_or_ge m od.length with q | q
   ·rw [List.getElem?_append_left q] at hm
    obtain ⟨j,x,z,rfl,q2,q3,q4,q5⟩:=h.at_ m o hm
    obtain ⟨u,q6,q7⟩:=HQ m j hm
    exact ⟨j,u,z,rfl,q6,by rw [List.getElem?_append_left (by rw [hQl,<- h.ol];exact q)];exact q7,by rw [List.getElem?_set_ne (fun w=>ne m j hm w.symm)];exact q4,q5⟩
   ·have hml:=Za4 hm
    rw [List.length_append,List.length_singleton] at hml
    obtain rfl:m=od.length:=by omega
    rw [List.getElem?_append_right (Nat.le_refl _),Nat.sub_self] at hm
    obtain rfl:=Option.some.inj hm
    exact ⟨i,_,v,rfl,own,by rw [h.ol,<- hQl,List.getElem?_append_right (Nat.le_refl _),Nat.sub_self];rfl,ts,hv⟩
  ·intro j z hz hz0
   by_cases q:j=i
   ·exact ⟨od.length,by rw [List.getElem?_append_right (Nat.le_refl _),Nat.sub_self,q];rfl⟩
   ·rw [List.getElem?_set_ne (fun w=>q w.symm)] at hz
    obtain ⟨m,hm⟩:=h.cover j z hz hz0
    exact ⟨m,by rw [List.getElem?_append_left (Za4 hm)];exact hm⟩
end
section
open Go.RowKit
abbrev ZfQ:=Value×List Int
def ZdI (vl:Value) (R:List ZfQ) (b:Nat):Prop:=vl.ownBlock=some b\/∃ x∈R,x.1.ownBlock=some b
def Zh9 (x y:ZfQ):Prop:=∀ b,x.1.ownBlock=some b->y.1.ownBlock≠some b
theorem Zh9.symm {x y:ZfQ} (h:Zh9 x y):Zh9 y x:=fun b hb q=>h b q hb
structure RowsS (W w:World) (vl:Value) (l:List Trm) (R:List ZfQ):Prop where
 l:ZY w W.heap.size vl l (ZdI vl R)
 r:∀ x∈R,w.ownsRow W.heap.size 3 1 x.1 x.2.length (ZbQ x.2)
 lr:∀ x∈R,∀ b,vl.ownBlock=some b->x.1.ownBlock≠some b
 rr:R.Pairwise Zh9
 below:Below W.heap.size W w
section
variable {W w w':World} {vl vl' v':Value} {l:List Trm} {R A B:List ZfQ} {x:ZfQ} {l':List Int}
theorem Zil {y:ZfQ} {row:Option Nat} (h:w.ownsRow W.heap.size 3 1 y.1 y.2.length (ZbQ y.2)) (hg:w.grownBy w' row) (hn:∀ b,row=some b->y.1.ownBlock≠some b):w'.ownsRow W.heap.size 3 1 y.1 y.2.length (ZbQ y.2):=by
 refine h.kept hg ?_
 cases q:row with
 | none=>cases hv:y.1.ownBlock<;>simp
 | some b=>exact .inr (hn b q)
theorem RowsS.keep (h:RowsS W w vl l R) (hb:Below w.heap.size w w'):RowsS W w' vl l R:=
 ⟨h.l.below hb,fun y hy=>Zil (h.r y hy) (Zac hb none) fun b q=>(by cases q),h.lr,h.rr,h.below.trans (hb.mono h.below.size)⟩
theorem RowsS.lt (h:RowsS W w vl l R):∀ b,ZdI vl R b->W.heap.size<=b/\b<w.heap.size:=by
 intro b hb
 rcases hb with g | ⟨y,hy,g⟩
 ·exact h.l.lt b g
 ·exact (h.r y hy).lt b g
theorem RowsS.row (h:RowsS W w vl l (A++x::B)) (hown:w'.ownsRow W.heap.size 3 1 v' l'.length (ZbQ l')) (hg:w.grownBy w' x.1.ownBlock) (hv:v'.ownBlock=x.1.ownBlock\/v'.ownBlock=some w.heap.size):RowsS W w' vl l (A++(v',l')::B):=by
 obtain ⟨pA,pB,pAB⟩:=List.pairwise_append.1 h.rr
 obtain ⟨pxB,pB⟩:=List.pairwise_cons.1 pB
 have hx:x∈A++x::B:=by simp
 have old:∀ y,y∈A\/y∈B->y∈A++x::B/\Zh9 x y:=fun y hy=>by
  rcases hy with q | q
  ·exact ⟨by simp [q],(pAB y q x (by simp)).symm⟩
  ·exact ⟨by simp [q],pxB y q⟩
 have split:∀ y,y∈A++(v',l')::B->y=(v',l')\/(y∈A\/y∈B):=fun y hy=>by
  rcases List.mem_append.1 hy with q | q
  ·exact .inr (.inl q)
  ·rcases List.mem_cons.1 q with q | q
   ·exact .inl q
   ·exact .inr (.inr q)
 have lw:=h.lt
 have ap:∀ y,y∈A++x::B->Zh9 x y->Zh9 (v',l') y:=fun y hy hxy b hb=>by
  rcases hv with e | e
  ·exact hxy b (e▸hb)
  ·have hb:v'.ownBlock=some b:=hb
   rw [e] at hb
   injection hb with hb
   intro q
   have:=(lw b (.inr ⟨y,hy,q⟩)).2
   omega
 have hs3:∀ b,ZdI vl (A++(v',l')::B) b->ZdI vl (A++x::B) b\/w.heap.size<=b:=by
  intro b hb
  rcases hb with g | ⟨y,hy,g⟩
  ·exact .inl (.inl g)
  ·rcases split y hy with q | q
   ·subst q
    rcases hv with e | e
    ·exact .inl (.inr ⟨x,hx,e▸g⟩)
    ·have g:v'.ownBlock=some b:=g
     rw [e] at g
     injection g with g
     exact .inr (by omega)
   ·exact .inl (.inr ⟨y,(old y q).1,g⟩)
 have l0:ZY w W.heap.size vl l (fun b=>ZdI vl (A++x::B) b\/ZdI vl (A++(v',l')::B) b):=h.l.mono fun b hb=>hb.elim .inl (hs3 b)
 refine ⟨(l0.other hg fun b hb=>⟨.inl (.inr ⟨x,hx,hb⟩),fun q=>h.lr x hx b q hb⟩).mono fun b hb=>.inl (.inr hb),fun y hy=>?_,fun y hy b hb=>?_,?_,h.below.grown hg h.below.size fun k hk=>((h.r x hx).lt k hk).1⟩
 ·rcases split y hy with q | q
  ·subst q
   exact hown
  ·exact Zil (h.r y (old y q).1) hg fun b hb=>(old y q).2 b hb
 ·rcases split y hy with q | q
  ·subst q
   rcases hv with e | e
   ·show v'.ownBlock≠some b
    rw [e]
    exact h.lr x hx b hb
   ·show v'.ownBlock≠some b
    rw [e]
    intro q
    injection q with q
    have:=(lw b (.inl hb)).2
    omega
  ·exact h.lr y (old y q).1 b hb
 ·refine List.pairwise_append.2 ⟨pA,List.pairwise_cons.2 ⟨fun y hy=>ap y (old y (.inr hy)).1 (old y (.inr hy)).2,pB⟩,fun y hy z hz=>?_⟩
  rcases List.mem_cons.1 hz with q | q
  ·subst q
   exact (ap y (old y (.inl hy)).1 (old y (.inl hy)).2).symm
  ·exact pAB y hy z (by simp [q])
theorem RowsS.take {us:List Trm} (h:RowsS W w vl l R) (o:ZY w' w.heap.size vl' us (fun b=>vl'.ownBlock=some b\/ZdI vl R b)) (hb:Below w.heap.size w w'):RowsS W w' vl' us R:=by
 have h':=h.keep hb
 refine ⟨(o.base h.below.size).mono fun b q=>.inl ?_,h'.r,fun x hx b q e=>?_,h.rr,h'.below⟩
 ·rcases q with q | q
  ·exact .inl q
  ·exact .inr (.inr q)
 ·have a:=(o.lt b q).1
  have c:=(h.lt b (.inr ⟨x,hx,e⟩)).2
  omega
theorem RowsS.push {vt:Value} {t:Trm} {rs:List (Value×Trm)} (h:RowsS W w vl l R) (h1:rs.map (·.2)=l) (h3:∀ x∈rs,Zb w x.1 x.2.1/\Off (ZdI vl R) x.1 x.2.1)
  (hown:w'.ownsRow W.heap.size 27 3 vl' (l.length+1) (Zg rs++[vt,.int .i64 t.2.1,.int .i64 t.2.2])) (hg:w.grownBy w' vl.ownBlock) (hv:vl'.ownBlock=vl.ownBlock\/vl'.ownBlock=some w.heap.size) (hr:Zb w vt t.1) (ho:Off (ZdI vl R) vt t.1):RowsS W w' vl' (l++[t]) R:=by
 have lw:=h.lt
 have hs3:∀ b,ZdI vl' R b->ZdI vl R b\/w.heap.size<=b:=by
  intro b hb
  rcases hb with g | g
  ·rcases hv with e | e
   ·exact .inl (.inl (e▸g))
   ·rw [e] at g
    injection g with g
    exact .inr (by omega)
  ·exact .inl (.inr g)
 refine ⟨ZY.appended h1 h3 hown hg (fun b hb=>.inl hb) hr ho hs3,fun y hy=>Zil (h.r y hy) hg fun b hb=>h.lr y hy b hb,fun y hy b hb=>?_,h.rr,h.below.grown hg h.below.size fun k hk=>(h.l.lt k hk).1⟩
 rcases hv with e | e
 ·exact h.lr y hy b (e▸hb)
 ·rw [e] at hb
  injection hb with hb
  intro q
  have:=(lw b (.inr ⟨y,hy,q⟩)).2
  omega
theorem RowsS.at_ (h:RowsS W w vl l R) (hx:x∈R) {i:Nat} {z:Int} (hz:x.2[i]? = some z):∃ g cap,x.1=.slice (some ⟨g,0,none⟩) x.2.length cap/\W.heap.size<=g/\w.cell? ⟨g,i,none⟩=some (.int .i64 z)/\w.frozen? ⟨g,i,none⟩=false:=by
 obtain ⟨v,is⟩:=x
 have h0:=h.r _ hx
 dsimp only at h0 hz ⊢
 have hl:=Za4 hz
 rcases h0.2 with ⟨_,q⟩ | ⟨g,cap,cur,rfl,hb,_⟩
 ·omega
 ·refine ⟨g,cap,rfl,hb,?_,h0.frozenAt _⟩
  rw [h0.cellAt _ (by omega),ZbQ,List.getElem?_map,hz]
  rfl
theorem RowsS.stored {g n cap i:Nat} {is:List Int} {z:Int} (h:RowsS W w vl l (A++(.slice (some ⟨g,0,none⟩) n cap,is)::B)) (hn:n=is.length):RowsS W (w.setCell ⟨g,i,none⟩ (.int .i64 z)) vl l (A++(.slice (some ⟨g,0,none⟩) n cap,is.set i z)::B):=by
 have h0:=h.r (.slice (some ⟨g,0,none⟩) n cap,is) (by simp)
 dsimp only at h0
 subst hn
 obtain ⟨a,b⟩:=h0.stored i (.int .i64 z)
 refine h.row ?_ b (.inl rfl)
 rw [List.length_set,ZbQ,List.map_set]
 exact a
theorem Znv (w:World):RowsS w w (.slice none 0 0) [] [(.slice none 0 0,[])]:=
 ⟨ZY.nil _ _ _,fun y hy=>by rw [List.mem_singleton] at hy;subst hy;exact World.ownsRow_nil _ _ _ _,fun y _ b hb=>(by cases hb),List.pairwise_singleton _ _,Below.refl _ _⟩
theorem RowsS.more (h:RowsS W w vl l R):RowsS W w vl l (R++[(.slice none 0 0,[])]):=by
 refine ⟨h.l.mono fun b hb=>.inl ?_,fun y hy=>?_,fun y hy b hb=>?_,?_,h.below⟩
 ·rcases hb with q | ⟨y,hy,q⟩
  ·exact .inl q
  ·rcases List.mem_append.1 hy with g | g
   ·exact .inr ⟨y,g,q⟩
   ·rw [List.mem_singleton] at g
    subst g
    cases q
 ·rcases List.mem_append.1 hy with g | g
  ·exact h.r y g
  ·rw [List.mem_singleton] at g
   subst g
   exact World.ownsRow_nil _ _ _ _
 ·rcases List.mem_append.1 hy with g | g
  ·exact h.lr y g b hb
  ·rw [List.mem_singleton] at g
   subst g
   intro q
   cases q
 ·refine List.pairwise_append.2 ⟨h.rr,List.pairwise_singleton _ _,fun y _ z hz b _ q=>?_⟩
  rw [List.mem_singleton] at hz
  subst hz
  cases q
end
end
end Go.Proofs.YtolookeddknmoaaGreat
