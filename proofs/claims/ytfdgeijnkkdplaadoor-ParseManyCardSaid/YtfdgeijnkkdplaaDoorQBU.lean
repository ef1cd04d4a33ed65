import Derived.Test.YtfdgeijnkkdplaaDoorQBT
set_option maxRecDepth 100000
set_option maxHeartbeats 8000000
namespace Go.Proofs.YtfdgeijnkkdplaaDoor
section
open Go Go.RowKit
theorem Zib:(Tryd.prog.info? 33).map (fun i=>(i.zero,i.size,i.bytes))=some (some (.agg #[.int .i64 0,.slice none 0 0,.slice none 0 0,.slice none 0 0,.int .i64 0]),5,88):=by kernel_rfl
theorem ZkY:Tryd.prog.underlying 23=some (.slice 33):=Tryd.underlying23
def ZiY (B:Nat) (sl:Nat) (p:String):Oper:=⟨some B,.load 23 (.tmp sl),23,p,#[],none⟩
def ZiZ (B:Nat) (sb:Nat) (p:String):Oper:=⟨some (B+1),.move (.tmp sb),39,p,#[],none⟩
def Zi0 (B:Nat) (p:String):Oper:=⟨some (B+2),.nilCheck (.tmp (B+1)),0,p,#[Zf 1],none⟩
def Zi1 (B:Nat) (p:String):Oper:=⟨some (B+3),.fieldAddr 59 (.tmp (B+2)) 0,0,p,#[Zf 2],none⟩
def Zi2 (B:Nat) (p:String):Oper:=⟨some (B+4),.load 33 (.tmp (B+3)),33,p,#[Zf 3],none⟩
def Zi3 (B:Nat) (p:String):Oper:=⟨some (B+5),.buildSlice 23 1 #[(0,.tmp (B+4))],23,p,#[Zf 4],none⟩
def Zi4 (B:Nat) (p:String):Oper:=⟨some (B+6),.call ⟨.builtin .append,#[.tmp B,.tmp (B+5)],#[23,23]⟩,23,p,#[Zf 0,Zf 5],none⟩
def Zi5 (B:Nat) (sl:Nat) (p:String):Oper:=⟨none,.store 23 (.tmp sl) (.tmp (B+6)),0,p,#[Zf 6,ZbT 6,Zc 0,Zc 1,Zc 2,Zc 3,Zc 4,Zc 5,Zc 6],none⟩
def ZmD (B:Nat) (sb:Nat) (sl:Nat) (p:String):Array Oper:=#[ZiY B sl p,ZiZ B sb p,Zi0 B p,Zi1 B p,Zi2 B p,Zi3 B p,Zi4 B p,Zi5 B sl p]
def ZbA (B:Nat):List (Option Nat):=[some B,some (B+1),some (B+2),some (B+3),some (B+4),some (B+5),some (B+6),none]
theorem ZmM (B sb sl:Nat) {p:String} {id:Nat} {Q:Exit->Act->World->Prop} {a:Act} {w:World} {B0 lb fb vb b:Nat} {lv vw vn vk:Value} {rs:List (NdV×Nd)} {f:Int×Int} {k pz:Int} {ws:List Txt} {us:List Int} (hG:VisS w B0 lb fb vb lv rs f) (hT:Zy w b 59 #[.int .i64 k,vw,vn,.slice none 0 0,.int .i64 pz,vk])
  (hw:Za2 w (fun k=>k<B0) 9 vw (ws.map txt)) (hn:Za2 w (fun k=>k<B0) 2 vn (us.map (Value.int .i64))) (hl:rs.length<=2000000)
  (h:∀ x w',(∃ lv',VisS w' B0 lb fb vb lv' (rs++[((vw,vn,.slice none 0 0),⟨k,ws,us,[],pz⟩)]) f/\FrV w w' lb fb lv/\(lv'.ownBlock=lv.ownBlock\/∀ j,lv'.ownBlock=some j->w.heap.size<=j))->Q .normal (ZE x 0 (ZbA B) a) w')
  (hB:Nat.blt (B+6) a.tmps.size=true:=by kernel_rfl) (n_sb:some sb ∉ ZbA B:=by decide) (n_sl:some sl ∉ ZbA B:=by decide) (hon:Zbc (ZbA B)=true:=by kernel_rfl) (h_sb:a.eval (.tmp sb)=brV b:=by rfl) (h_sl:a.eval (.tmp sl)=pV lb:=by rfl) :
  (Code.region id (ZmD B sb sl p) true).wp Tryd.prog Q a w:=by
 rw [Nat.blt_eq] at hB
 have s1:∃ A n c,vw=.slice A n c:=by obtain ⟨A,c,e⟩:=ZcF hw.1;exact ⟨A,_,c,e⟩
 have s2:∃ A n c,vn=.slice A n c:=by obtain ⟨A,c,e⟩:=ZcF hn.1;exact ⟨A,_,c,e⟩
 have hd0:Below w.heap.size w w.drew:=(Below.refl _ _).drew
 obtain ⟨iN,hN,zN0,zN1,zN2⟩:=info_parts Zib
 refine Zav 7 [5,6] (ZbA B) (fun i v=>match i with | 0=>v=lv | 1=>v=brV b | 2=>v=brV b | 3=>v=brV b | 4=>v=(.agg #[.int .i64 k,vw,vn,.slice none 0 0,.int .i64 pz]) | _=>True) (fun q v w1=>match q with | 0=>(VisS w1 B0 lb fb vb lv rs f/\Zy w1 b 59 #[.int .i64 k,vw,vn,.slice none 0 0,.int .i64 pz,vk]/\FrV w w1 lb fb lv) | 1=>∃ w2,(VisS w2 B0 lb fb vb lv rs f/\Zy w2 b 59 #[.int .i64 k,vw,vn,.slice none 0 0,.int .i64 pz,vk]/\FrV w w2 lb fb lv)/\w1=(w2.alloc (.cells #[.int .i64 k,vw,vn,.slice none 0 0,.int .i64 pz] 33))/\v 0=.slice (some ⟨w2.heap.size,0,none⟩) 1 1 | _=>∃ w2 lv',(VisS w2 B0 lb fb vb lv rs f/\Zy w2 b 59 #[.int .i64 k,vw,vn,.slice none 0 0,.int .i64 pz,vk]/\FrV w w2 lb fb lv)/\w1.ownsRow B0 33 5 lv' (rs.length+1) (ZX rs++ZX [(((vw,vn,.slice none 0 0),⟨k,ws,us,[],pz⟩):NdV×Nd)])/\w2.grownBy w1 lv.ownBlock/\(lv'.ownBlock=lv.ownBlock\/lv'.ownBlock=some w2.heap.size)/\v 1=lv') (fun _ w'=>∃ lv',VisS w' B0 lb fb vb lv' (rs++[((vw,vn,.slice none 0 0),⟨k,ws,us,[],pz⟩)]) f/\FrV w w' lb fb lv/\(lv'.ownBlock=lv.ownBlock\/∀ j,lv'.ownBlock=some j->w.heap.size<=j)) rfl (by kernel_rfl) (by kernel_rfl) (by kernel_rfl) (by kernel_rfl) (by decide) (by decide) rfl hon ⟨hG.grown hd0,hT.keep hd0,FrV.of_below hd0⟩ ?_ ?_ ?_ ?_ ?_
 ·intro q v v' w1 hv hW
  match q,hW with
  | 0,hW=>exact hW
  | 1,hW=>
   have e0:=hv 0 (by omega)
   simpa only [<- e0] using hW
  | q+2,hW=>
   have e1:=hv 1 (by omega)
   simpa only [<- e1] using hW
 ·intro i o hi him ho x ph w1 hp hW hd hq K' hK
  have hS:w1.cell? ⟨lb,0,none⟩=some lv/\w1.cell? ⟨b,0,none⟩=some (.int .i64 k)/\w1.cell? ⟨b,1,none⟩=some vw/\w1.cell? ⟨b,2,none⟩=some vn/\w1.cell? ⟨b,3,none⟩=some (.slice none 0 0)/\w1.cell? ⟨b,4,none⟩=some (.int .i64 pz):=by
   have key:∀ w3,Zy w3 lb 23 #[lv]->Zy w3 b 59 #[.int .i64 k,vw,vn,.slice none 0 0,.int .i64 pz,vk]->(w3.cell? ⟨lb,0,none⟩=some lv/\w3.cell? ⟨b,0,none⟩=some (.int .i64 k)/\w3.cell? ⟨b,1,none⟩=some vw/\w3.cell? ⟨b,2,none⟩=some vn/\w3.cell? ⟨b,3,none⟩=some (.slice none 0 0)/\w3.cell? ⟨b,4,none⟩=some (.int .i64 pz)):=fun w3 h1 h2=>⟨h1.blk.cell 0,h2.blk.cell 0,h2.blk.cell 1,h2.blk.cell 2,h2.blk.cell 3,h2.blk.cell 4⟩
   have hc2:ph=0\/ph=1\/ph=2:=by dsimp only [List.length] at hp;omega
   rcases hc2 with rfl | rfl | rfl
   ·exact key _ hW.1.lbox hW.2.1
   ·obtain ⟨w2,h1,rfl,_⟩:=hW
    exact key _ (h1.1.lbox.keep (below_alloc1 w2 _)) (h1.2.1.keep (below_alloc1 w2 _))
   ·obtain ⟨w2,lv',h1,h2,h3,_⟩:=hW
    exact key _ (h1.1.lbox.grown h3 (h1.1.lbox.off h1.1.own (by decide))) (h1.2.1.grown h3 (h1.2.1.off h1.1.own (by decide)))
  obtain ⟨q1,q2,q3,q4,q5,q6⟩:=hS
  clear hW hq hp
  have hc:i=0\/i=1\/i=2\/i=3\/i=4\/i=5\/i=6:=by omega
  clear hi
  rcases hc with rfl | rfl | rfl | rfl | rfl | rfl | rfl
  ·obtain rfl:ZiY B sl p=o:=Option.some.inj ho
   dsimp only [ZiY] at hK hd ⊢
   have y_sl:=(ZM (x:=x) (ZbA B) 0 a n_sl).trans h_sl
   refine Zi rfl (v:=lv) (w2:=w1) ?_ (hK.out (lv) rfl)
   simp only [execOp,y_sl]
   go_simp
  ·obtain rfl:ZiZ B sb p=o:=Option.some.inj ho
   dsimp only [ZiZ] at hK hd ⊢
   have y_sb:=(ZM (x:=x) (ZbA B) 0 a n_sb).trans h_sb
   refine Zi rfl (v:=brV b) (w2:=w1) ?_ (hK.out (brV b) rfl)
   simp only [execOp,y_sb]
   go_simp
  ·obtain rfl:Zi0 B p=o:=Option.some.inj ho
   dsimp only [Zi0] at hK hd ⊢
   have y_1:=(Ze (x:=x) (ZbA B) 0 1 a hon rfl (show (B+1)<a.tmps.size by omega)).trans ((congrArg x (Nat.zero_add 1)).trans (show x 1=brV b from hd (Zf 1) (by simp) rfl (by decide)))
   refine Zi rfl (v:=brV b) (w2:=w1) ?_ (hK.out (brV b) rfl)
   simp only [execOp,y_1]
   go_simp
  ·obtain rfl:Zi1 B p=o:=Option.some.inj ho
   dsimp only [Zi1] at hK hd ⊢
   have y_2:=(Ze (x:=x) (ZbA B) 0 2 a hon rfl (show (B+2)<a.tmps.size by omega)).trans ((congrArg x (Nat.zero_add 2)).trans (show x 2=brV b from hd (Zf 2) (by simp) rfl (by decide)))
   refine Zi rfl (v:=brV b) (w2:=w1) ?_ (hK.out (brV b) rfl)
   simp only [execOp,y_2]
   go_simp
  ·obtain rfl:Zi2 B p=o:=Option.some.inj ho
   dsimp only [Zi2] at hK hd ⊢
   have y_3:=(Ze (x:=x) (ZbA B) 0 3 a hon rfl (show (B+3)<a.tmps.size by omega)).trans ((congrArg x (Nat.zero_add 3)).trans (show x 3=brV b from hd (Zf 3) (by simp) rfl (by decide)))
   refine Zi rfl (v:=(.agg #[.int .i64 k,vw,vn,.slice none 0 0,.int .i64 pz])) (w2:=w1) ?_ (hK.out ((.agg #[.int .i64 k,vw,vn,.slice none 0 0,.int .i64 pz])) rfl)
   simp only [execOp,y_3]
   go_simp
  ·exact absurd (by decide) him
  ·exact absurd (by decide) him
 ·intro q m o hq ho x w1 hW hd K' hK
  have hc:q=0\/q=1:=by have:=(List.getElem?_eq_some_iff.1 hq).1;dsimp only [List.length] at this;omega
  rcases hc with rfl | rfl
  ·obtain rfl:5=m:=Option.some.inj hq
   obtain rfl:Zi3 B p=o:=Option.some.inj ho
   dsimp only [Zi3] at hK hd ⊢
   have y_4:=(Ze (x:=x) (ZbA B) 0 4 a hon rfl (show (B+4)<a.tmps.size by omega)).trans ((congrArg x (Nat.zero_add 4)).trans (show x 4=(.agg #[.int .i64 k,vw,vn,.slice none 0 0,.int .i64 pz]) from hd (Zf 4) (by simp) rfl (by decide)))
   have HW:=zh hW
   refine Zi rfl (v:=.slice (some ⟨w1.heap.size,0,none⟩) 1 1) (w2:=(w1.alloc (.cells #[.int .i64 k,vw,vn,.slice none 0 0,.int .i64 pz] 33))) ?_ (hK.out _ _ ⟨w1,HW.out,rfl,rfl⟩)
   clear hW
   simp only [execOp,List.map_toArray,List.map_cons,List.map_nil,y_4]
   go_simp
  ·obtain rfl:6=m:=Option.some.inj hq
   obtain rfl:Zi4 B p=o:=Option.some.inj ho
   dsimp only [Zi4] at hK hd ⊢
   obtain ⟨w2,⟨hV,hT2,hF⟩,rfl,hv0⟩:=hW
   have y_0:=(Ze (x:=x) (ZbA B) 0 0 a hon rfl (show B<a.tmps.size by omega)).trans ((congrArg x (Nat.zero_add 0)).trans (show x 0=lv from hd (Zf 0) (by simp) rfl (by decide)))
   have y_5:=(Ze (x:=x) (ZbA B) 0 5 a hon rfl (show (B+5)<a.tmps.size by omega)).trans ((congrArg x (Nat.zero_add 5)).trans (show x 5=.slice (some ⟨w2.heap.size,0,none⟩) 1 1 from hv0))
   have hb2:=below_alloc1 w2 (.cells #[.int .i64 k,vw,vn,.slice none 0 0,.int .i64 pz] 33)
   have V2:=hV.grown hb2
   refine Zc3 rfl (.tmp B) (.tmp (B+5)) 23 rfl B0 33 iN _ 5 88 ZkY hN zN0 zN1 zN2 rfl (by decide) lv rs.length (ZX rs) y_0 V2.own _ (some ⟨w2.heap.size,0,none⟩) 1 1 [.int .i64 k,vw,vn,.slice none 0 0,.int .i64 pz] y_5 (Zb3 (Zy.start w2 _ _).blk rfl) (fun u hu=>?_) (by unfold maxLen;omega) (by omega) (by have:=V2.lbox.lt;have:=V2.ge.1;omega) ?_
   ·obtain ⟨A,n,c,e1⟩:=s1
    obtain ⟨A',n',c',e2⟩:=s2
    simp only [List.mem_cons,List.not_mem_nil,or_false] at hu
    rcases hu with rfl | rfl | rfl | rfl | rfl
    ·rfl
    ·rw [e1];rfl
    ·rw [e2];rfl
    ·rfl
    ·rfl
   ·intro v' w3 hown hgrow hat
    exact hK.out _ _ ⟨_,v',⟨V2,hT2.keep hb2,hF.trans (FrV.of_below hb2) (Or.inl rfl)⟩,hown,hgrow,hat,rfl⟩
 ·intro o ho x w1 hW hd K' hK
  obtain rfl:Zi5 B sl p=o:=Option.some.inj ho
  dsimp only [Zi5] at hK ⊢
  obtain ⟨w2,lv',⟨hV,hT2,hF⟩,hown,hgrow,hat,hv1⟩:=hW
  have y_sl:=(ZM (x:=x) (ZbA B) 0 a n_sl).trans h_sl
  have y_6:=(Ze (x:=x) (ZbA B) 0 6 a hon rfl (show (B+6)<a.tmps.size by omega)).trans ((congrArg x (Nat.zero_add 6)).trans (show x 6=lv' from hv1))
  obtain ⟨A0,c0,rfl⟩:=Zbp hown
  have low:∀ k,k<B0->w2.heap[k]? = w.heap[k]?:=fun k hk=>FrV.low hG hF k hk
  have HF:FrV w (w1.setCell ⟨lb,0,none⟩ (.slice A0 (rs.length+1) c0)) lb fb lv:=(hF.trans (FrV.of_grown hgrow) (Or.inl rfl)).trans (FrV.setL w1 0 _) (Or.inl rfl)
  have HV:=hV.push (x:=((vw,vn,.slice none 0 0),⟨k,ws,us,[],pz⟩)) ⟨ZaM hw low,ZaM hn low⟩ ⟨rfl,rfl⟩ hown hgrow
  have HA:(Value.slice A0 (rs.length+1) c0).ownBlock=lv.ownBlock\/∀ j,(Value.slice A0 (rs.length+1) c0).ownBlock=some j->w.heap.size<=j:=hat.imp (fun e=>e) (fun e j hj=>by rw [e] at hj;injection hj with hj;have:=hF.size;omega)
  have T1:=hV.lbox.grown hgrow (hV.lbox.off hV.own (by decide))
  have q1:w1.cell? ⟨lb,0,none⟩=some lv:=T1.blk.cell 0
  have q0:=T1.blk.free 0
  have FIN:=zh (zi HV (zi HF HA))
  clear hV hT2 hF hown hgrow hat hv1 HF HV HA T1 low
  refine ZbE rfl (w2:=w1.setCell ⟨lb,0,none⟩ (.slice A0 (rs.length+1) c0)) ?_ (hK.out undef _ ⟨_,FIN.out⟩)
  simp only [execOp,y_6,y_sl]
  go_simp
 ·exact fun x w1 hE=>h x w1 hE
end
end Go.Proofs.YtfdgeijnkkdplaaDoor
