import Derived.Test.YtkgkmdhpnhmcpaaGreatDoorQAB
set_option maxRecDepth 100000
set_option maxHeartbeats 8000000
namespace Go.Proofs.YtkgkmdhpnhmcpaaGreatDoor
section
open Go.RowKit
theorem ZiH (w0 w:World) (v:Value) (l:List (Ou)) (b:Nat) (t:Nat->Bool) (R:Nat->World->Prop) (hl:Zak 2 ouC (fun _ x=>x.name.length<=maxLen) w0 v l) (hb:Below w0.heap.size w0 w) (h0:R 0 w)
  (hf:∀ (k:Nat) (x:Ou) (wr:World),l[k]? = some x->Below w0.heap.size w0 wr->R k wr->Calls Tryz.prog 113 #[.agg #[txt x.name,.int .i64 x.to],.pointer (some ⟨b,0,none⟩)] wr fun e w'=>e=.returned (.bool (t k))/\Below w0.heap.size w0 w'/\R (k+1) w') :
  Calls Tryz.prog 77 #[v,.func (.func 113) #[] #[.pointer (some ⟨b,0,none⟩)]] w fun e w'=>e=.returned (.bool ((List.range l.length).any t))/\Below w0.heap.size w0 w'/\∃ k,R k w':=by
 have IXH:=zh (ZiT w0 w v l b t R hl hb h0 hf)
 have EQ:=zh (Zdi (t:=t) (n:=l.length))
 clear hl hb h0 hf
 generalize (List.range l.length).any t=B at *
 generalize ZE t l.length=z at *
 go_enter Tryz.func77,Tryz.ntmps77
 go_wp2_with (go_at_call 107;(with_reducible refine IXH.out.mono ?_);rintro e w1 ⟨rfl,hb1,hr1⟩;have H1:=zh (zi hb1 hr1);clear hb1 hr1)
 go_ret
 exact ⟨by rw [<- EQ.out];rfl,H1.out⟩
theorem Zjf (w0 w:World) (v:Value) (l:List (Ou)) (b:Nat) (t:Nat->Bool) (R:Nat->World->Prop) (hl:Zak 2 ouC (fun _ x=>x.name.length<=maxLen) w0 v l) (hb:Below w0.heap.size w0 w) (h0:R 0 w)
  (hf:∀ (k:Nat) (x:Ou) (wr:World),l[k]? = some x->Below w0.heap.size w0 wr->R k wr->Calls Tryz.prog 140 #[.agg #[txt x.name,.int .i64 x.to],.pointer (some ⟨b,0,none⟩)] wr fun e w'=>e=.returned (.bool (t k))/\Below w0.heap.size w0 w'/\R (k+1) w') :
  Calls Tryz.prog 77 #[v,.func (.func 140) #[] #[.pointer (some ⟨b,0,none⟩)]] w fun e w'=>e=.returned (.bool ((List.range l.length).any t))/\Below w0.heap.size w0 w'/\∃ k,R k w':=by
 have IXH:=zh (Zjj w0 w v l b t R hl hb h0 hf)
 have EQ:=zh (Zdi (t:=t) (n:=l.length))
 clear hl hb h0 hf
 generalize (List.range l.length).any t=B at *
 generalize ZE t l.length=z at *
 go_enter Tryz.func77,Tryz.ntmps77
 go_wp2_with (go_at_call 107;(with_reducible refine IXH.out.mono ?_);rintro e w1 ⟨rfl,hb1,hr1⟩;have H1:=zh (zi hb1 hr1);clear hb1 hr1)
 go_ret
 exact ⟨by rw [<- EQ.out];rfl,H1.out⟩
end
section
open Go.RowKit
theorem mkF:∀ (fn:Fn) (first cap:Array Value) (w:World),(Instr.makeFunc fn first cap).run Tryz.prog w=.ok (.func fn first cap) w:=fun _ _ _ _=>rfl
theorem stF:∀ (a:Addr) (m:Mode) (fn:Fn) (f c:Array Value) (w:World),(store a (.func fn f c) m).run Tryz.prog w=stored Tryz.prog w a (.func fn f c) m:=fun a m _ _ _ w=>run_store Tryz.prog w a _ m rfl
def Za1 (n:Nat) (x:Int):Bool:=decide (x<0)||decide ((n:Int)<=x)
def ZW (n:Nat) (m:Mov):Bool:=Za1 n m.at_||decide (m.outs.length=0)||m.outs.any fun o=>Za1 n o.to
theorem Zcu {α:Type} {l:List α} {f:α->Bool} {t:Nat->Bool} (h:∀ k x,l[k]? = some x->t k=f x):(List.range l.length).any t=l.any f:=by
 cases q:l.any f with
 | true=>
  obtain ⟨x,hx,hf⟩:=List.any_eq_true.mp q
  obtain ⟨k,hk⟩:=List.mem_iff_getElem?.mp hx
  exact List.any_eq_true.mpr ⟨k,List.mem_range.mpr (List.getElem?_eq_some_iff.mp hk).1,by rw [h k x hk,hf]⟩
 | false=>
  rw [List.any_eq_false] at q ⊢
  intro k hk
  have hl:=List.mem_range.mp hk
  rw [h k l[k] (List.getElem?_eq_getElem hl)]
  exact q _ (List.getElem_mem hl)
theorem ZeX (w:World) (bp n c:Nat) (A:Option Addr) (nm vm:Value) (x:Int) (h:Blk w bp #[nm,.slice A n c,vm]) :
  Calls Tryz.prog 111 #[.int .i64 x,.pointer (some ⟨bp,0,none⟩)] w fun e w'=>e=.returned (.bool (Za1 n x))/\w=w':=by
 have c1:=h.cell 1
 simp only [List.getElem?_toArray,List.getElem?_cons_zero,List.getElem?_cons_succ] at c1
 unfold Za1
 clear h
 by_cases q:x<0
 ·rw [decide_eq_true q]
  go_enter Tryz.func111,Tryz.ntmps111
  go_wp2_with fail
  go_ret
  exact ⟨rfl,rfl⟩
 ·rw [decide_eq_false q]
  go_enter Tryz.func111,Tryz.ntmps111
  go_wp2_with fail
  go_ret
  exact ⟨rfl,rfl⟩
structure NonS (w:World) (bp bn n c:Nat) (A:Option Addr) (nm vm:Value):Prop where
 p:Blk w bp #[nm,.slice A n c,vm]
 f:Blk w bn #[.func (.func 111) #[] #[.pointer (some ⟨bp,0,none⟩)]]
theorem NonS.keep {w w':World} {bp bn n c:Nat} {A:Option Addr} {nm vm:Value} (h:NonS w bp bn n c A nm vm) (hb:Below w.heap.size w w'):NonS w' bp bn n c A nm vm:=⟨h.p.keep hb,h.f.keep hb⟩
theorem Zhe (w:World) (bp bn n c:Nat) (A:Option Addr) (nm vm:Value) (o:Ou) (h:NonS w bp bn n c A nm vm) :
  Calls Tryz.prog 113 #[.agg #[txt o.name,.int .i64 o.to],.pointer (some ⟨bn,0,none⟩)] w fun e w'=>e=.returned (.bool (Za1 n o.to))/\Below w.heap.size w w':=by
 have a1:=below_alloc1 w (.cells #[txt o.name,.int .i64 o.to] 110)
 have B1:=Blk.start w #[txt o.name,.int .i64 o.to] 110
 have h1:=h.keep a1
 have NO:=zh (ZeX _ bp n c A nm vm o.to h1.p)
 have c1:=B1.cell 1
 have c2:=h1.f.cell 0
 simp only [List.getElem?_toArray,List.getElem?_cons_zero,List.getElem?_cons_succ] at c1 c2
 have HA:=zh a1
 clear h h1 B1 a1
 generalize Za1 n o.to=B at *
 go_enter Tryz.func113,Tryz.ntmps113
 go_wp2_with (go_at_call 111;(refine NO.out.mono ?_);rintro e w1 ⟨rfl,rfl⟩)
 go_ret
 exact ⟨rfl,HA.out⟩
theorem Zfg (w:World) (bp bn n c:Nat) (A:Option Addr) (nm vm vo:Value) (m:Mov) (h:NonS w bp bn n c A nm vm) (ho:Zaj w vo m.outs) :
  Calls Tryz.prog 112 #[.agg #[txt m.op,.int .i64 m.at_,vo],.pointer (some ⟨bn,0,none⟩)] w fun e w'=>e=.returned (.bool (ZW n m))/\Below w.heap.size w w':=by
 obtain ⟨Ao,co,rfl,hlo⟩:=ho.len
 have a1:=below_alloc1 w (.cells #[txt m.op,.int .i64 m.at_,.slice Ao m.outs.length co] 85)
 have B1:=Blk.start w #[txt m.op,.int .i64 m.at_,.slice Ao m.outs.length co] 85
 have h1:=h.keep a1
 have NO:=zh (ZeX _ bp n c A nm vm m.at_ h1.p)
 have CF:=zh (ZiH _ _ _ m.outs bn (fun k=>match m.outs[k]? with | some o=>Za1 n o.to | none=>false) (fun _ wr=>NonS wr bp bn n c A nm vm) (ho.below a1) (Below.refl _ _) h1 (fun k x wr hx hb hr=>(Zhe wr bp bn n c A nm vm x hr).mono fun e w' ⟨he,hb'⟩=>⟨by rw [he,hx],hb.trans (hb'.mono hb.size),hr.keep hb'⟩))
 rw [Zcu (f:=fun o=>Za1 n o.to) (fun k x hx=>by rw [hx])] at CF
 have c0:=B1.cell 0
 have c1:=B1.cell 1
 have c2:=B1.cell 2
 have c3:=h1.f.cell 0
 simp only [List.getElem?_toArray,List.getElem?_cons_zero,List.getElem?_cons_succ] at c0 c1 c2 c3
 have HA:=zh a1
 have hlen:((m.outs.length:Int)==0)=decide (m.outs.length=0):=by
  by_cases q:m.outs.length=0
  ·rw [decide_eq_true q,q];rfl
  ·rw [decide_eq_false q];exact beq_eq_false_iff_ne.mpr (by omega)
 have HL:=zh hlen
 clear h h1 B1 a1 ho hlen
 unfold ZW
 generalize m.outs.any (fun o=>Za1 n o.to)=B3 at *
 generalize decide (m.outs.length=0)=B2 at *
 generalize Za1 n m.at_=B1 at *
 cases B1
 ·cases B2
  ·have t2:=HL.out
   go_enter Tryz.func112,Tryz.ntmps112
   go_wp2_with (first
    | (go_at_call 111;(refine NO.out.mono ?_);rintro e w1 ⟨rfl,rfl⟩)
    | (go_at_call 77;(refine CF.out.mono ?_);rintro e w1 ⟨rfl,hb,hr⟩;have H1:=zh hb;clear hb hr))
   go_ret
   exact ⟨rfl,HA.out.trans (H1.out.mono HA.out.size)⟩
  ·have t2:=HL.out
   go_enter Tryz.func112,Tryz.ntmps112
   go_wp2_with (go_at_call 111;(refine NO.out.mono ?_);rintro e w1 ⟨rfl,rfl⟩)
   go_ret
   exact ⟨rfl,HA.out⟩
 ·go_enter Tryz.func112,Tryz.ntmps112
  go_wp2_with (go_at_call 111;(refine NO.out.mono ?_);rintro e w1 ⟨rfl,rfl⟩)
  go_ret
  exact ⟨rfl,HA.out⟩
def ZT {α:Type} (f:α->Bool) (l:List α):Int:=match l.findIdx? f with
 | some k=>(k:Int)
 | none=>-1
theorem ZcD {α:Type} {l:List α} {t:Nat->Bool} {f:α->Bool} (h:∀ k x,l[k]? = some x->t k=f x):ZE t l.length=ZT f l:=by
 unfold ZT
 cases q:l.findIdx? f with
 | none=>
  rw [List.findIdx?_eq_none_iff] at q
  refine Zas fun i hi=>?_
  rw [h i l[i] (List.getElem?_eq_getElem hi)]
  exact q _ (List.getElem_mem hi)
 | some k=>
  rw [List.findIdx?_eq_some_iff_getElem] at q
  obtain ⟨hk,h1,h2⟩:=q
  refine ZaA hk ?_ fun i hi=>?_
  ·rw [h k l[k] (List.getElem?_eq_getElem hk)];exact h1
  ·have hl:i<l.length:=by omega
   rw [h i l[i] (List.getElem?_eq_getElem hl)]
   have:=h2 i hi
   simpa using this
theorem ZeC {α β:Type} (g:α->β) (f:β->Bool) (l:List α):ZT f (l.map g)=ZT (fun x=>f (g x)) l:=by
 unfold ZT
 rw [List.findIdx?_map]
 rfl
end
end Go.Proofs.YtkgkmdhpnhmcpaaGreatDoor
