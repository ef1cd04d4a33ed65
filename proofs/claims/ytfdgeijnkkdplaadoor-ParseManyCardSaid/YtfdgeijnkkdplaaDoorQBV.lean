import Derived.Deep.CutRange
import Derived.Test.YtfdgeijnkkdplaaDoorQBU
set_option maxRecDepth 100000
set_option maxHeartbeats 8000000
namespace Go.Proofs.YtfdgeijnkkdplaaDoor
section
open Go Go.RowKit
def ZmW (w:World) (B0 lb fb vb:Nat) (lv:Value) (rs:List (NdV×Nd)) (t:Tr) (a:Int) (f:Int×Int) (e:Ending) (w':World):Prop:=
 e=.returned (.int .i64 rs.length)/\∃ lv' rs',VisS w' B0 lb fb vb lv' rs' (Zci t a f)/\rs'.map (·.2)=Zb6 t (rs.map (·.2))/\FrV w w' lb fb lv/\ZhK w rs rs'/\(lv'.ownBlock=lv.ownBlock\/∀ j,lv'.ownBlock=some j->w.heap.size<=j)
theorem Zkq:(Tryd.prog.info? 3).map (fun i=>(i.zero,i.size,i.bytes))=some (some (.int .i64 0),1,8):=by kernel_rfl
theorem Zf4 {w:World} {S:Nat->Prop}:∀ {ts:List Tr} {bs:List Nat} {i:Nat} {g:Nat},ZO w S ts bs->bs[i]? = some g->∃ t,ts[i]? = some t/\BrP w S t g
 | [],bs,i,g,h,hg=>by unfold ZO at h;subst h;simp at hg
 | t::ts,bs,i,g,h,hg=>by
  unfold ZO at h
  obtain ⟨b,r,rfl,h1,h2⟩:=h
  cases i with
  | zero=>
   obtain rfl:b=g:=by simpa using hg
   exact ⟨t,rfl,h1⟩
  | succ i=>
   obtain ⟨t',e,h3⟩:=Zf4 h2 (by simpa using hg)
   exact ⟨t',by simpa using e,h3⟩
theorem ZkR {w wr:World} {S:Nat->Prop} {e:TypeId} {A:Option Addr} {n c:Nat} {xs:List Value} {i:Nat} {u:Value} (h:Za2 w S e (.slice A n c) xs) (hu:xs[i]? = some u) (low:∀ k,S k->wr.heap[k]? = w.heap[k]?):∃ g,A=some ⟨g,0,none⟩/\wr.cell? ⟨g,i,none⟩=some u:=by
 obtain ⟨⟨h1,h2⟩,h3⟩:=h
 have hl:=(List.getElem?_eq_some_iff.1 hu).1
 rcases h2 with ⟨_,h2⟩ | ⟨g,cap,cur,e1,h4,h5,h6,h7,h8,h9⟩
 ·omega
 ·injection e1 with e1 e2 e3
  subst e1
  refine ⟨g,rfl,?_⟩
  have hr:wr.ownsRow 0 e 1 (.slice (some ⟨g,0,none⟩) n c) xs.length xs:=⟨h1,Or.inr ⟨g,cap,cur,by rw [e2,e3],h4,(low g (h3 g rfl)).trans h5,h6,h7,h8,h9⟩⟩
  have e9:n=xs.length:=e2
  subst e9
  rw [<- hu]
  exact hr.cellAt i (by omega)
structure VisI (B0 lb fb vb:Nat) (w wc:World) (lv0:Value) (rs0 rs1:List (NdV×Nd)) (a:Int) (f1:Int×Int) (nb:Nat) (done:List Tr) (i:Nat) (wr:World) (lvi:Value) (rsi:List (NdV×Nd)) (ks:List Int) (rest:List Value):Prop where
 V:VisS wr B0 lb fb vb lvi rsi (ZaW done a f1)
 M:(ks,rsi.map (·.2))=Zaw done (rs1.map (·.2))
 row:wr.ownsRow B0 3 1 (.slice (some ⟨wc.heap.size,0,none⟩) nb nb) nb (ks.map (Value.int .i64)++rest)
 F:FrV w wr lb fb lv0
 N:ZhK w rs0 rsi
 hv:lvi.ownBlock=lv0.ownBlock\/∀ j,lvi.ownBlock=some j->w.heap.size<=j
 ap:∀ x∈rsi,x.1.2.2.ownBlock≠some wc.heap.size
 at_:done.length=i
 old:w.heap.size<=wc.heap.size/\wc.heap.size<wr.heap.size
theorem VisI.klen {B0 lb fb vb:Nat} {w wc wr:World} {lv0 lvi:Value} {rs0 rs1 rsi:List (NdV×Nd)} {a:Int} {f1:Int×Int} {nb i:Nat} {done:List Tr} {ks:List Int} {rest:List Value} (h:VisI B0 lb fb vb w wc lv0 rs0 rs1 a f1 nb done i wr lvi rsi ks rest):ks.length=i:=by
 have e:=congrArg Prod.fst h.M
 dsimp only at e
 rw [e,(ZcV _ _).2,h.at_]
theorem VisI.len {B0 lb fb vb:Nat} {w wc wr:World} {lv0 lvi:Value} {rs0 rs1 rsi:List (NdV×Nd)} {a:Int} {f1:Int×Int} {nb i:Nat} {done:List Tr} {ks:List Int} {rest:List Value} (h:VisI B0 lb fb vb w wc lv0 rs0 rs1 a f1 nb done i wr lvi rsi ks rest):rsi.length=rs1.length+ZI done:=by
 have e:=congrArg (fun q=>q.2.length) h.M
 dsimp only at e
 rw [List.length_map] at e
 rw [e,(ZcV _ _).1,List.length_map]
theorem ZiW {B0 lb fb vb:Nat} {w wc w3:World} {lv0 lv1:Value} {rs0:List (NdV×Nd)} {a:Int} {f1:Int×Int} {nb:Nat} {zs:List Value} {vw vn:Value} {nd:Nd} (hv:lv1.ownBlock=lv0.ownBlock\/∀ j,lv1.ownBlock=some j->w.heap.size<=j) (hV:VisS wc B0 lb fb vb lv1 (rs0++[((vw,vn,.slice none 0 0),nd)]) f1) (hF:FrV w wc lb fb lv0) (ho:w3.ownsRow B0 3 1 (.slice (some ⟨wc.heap.size,0,none⟩) nb nb) nb zs) (hb:Below wc.heap.size wc w3) (hs:wc.heap.size<w3.heap.size) :
  VisI B0 lb fb vb w wc lv0 rs0 (rs0++[((vw,vn,.slice none 0 0),nd)]) a f1 nb [] 0 w3 lv1 (rs0++[((vw,vn,.slice none 0 0),nd)]) [] zs:=by
 refine ⟨by rw [ZaW];exact hV.grown hb,by rw [Zaw],ho,hF.trans (FrV.of_below hb) hv,fun y hy=>?_,hv,fun y hy e=>?_,rfl,hF.size,hs⟩
 ·rcases List.mem_append.1 hy with hy | hy
  ·exact Or.inl ⟨y,hy,rfl⟩
  ·obtain rfl:=List.mem_singleton.1 hy
   exact Or.inr (fun k hk=>by cases hk)
 ·have:=((hV.each y hy).2.2.lt _ e).2
  omega
structure VisJ (B0 lb fb vb:Nat) (w wc:World) (lv0:Value) (rs0 rs1:List (NdV×Nd)) (a:Int) (f1:Int×Int) (nb:Nat) (done:List Tr) (i:Nat) (t:Tr) (wr:World) (lvi:Value) (rsi:List (NdV×Nd)) (ks:List Int) (rest:List Value) (num:Nat):Prop where
 V:VisS wr B0 lb fb vb lvi rsi (Zci t a (ZaW done a f1))
 M:∃ rso:List (NdV×Nd),(ks,rso.map (·.2))=Zaw done (rs1.map (·.2))/\rsi.map (·.2)=Zb6 t (rso.map (·.2))/\num=rso.length
 row:wr.ownsRow B0 3 1 (.slice (some ⟨wc.heap.size,0,none⟩) nb nb) nb (ks.map (Value.int .i64)++rest)
 F:FrV w wr lb fb lv0
 N:ZhK w rs0 rsi
 hv:lvi.ownBlock=lv0.ownBlock\/∀ j,lvi.ownBlock=some j->w.heap.size<=j
 ap:∀ x∈rsi,x.1.2.2.ownBlock≠some wc.heap.size
 at_:done.length=i
 old:w.heap.size<=wc.heap.size/\wc.heap.size<wr.heap.size
theorem VisI.called {B0 lb fb vb:Nat} {w wc wr w5:World} {lv0 lvi lv5:Value} {rs0 rs1 rsi rs5:List (NdV×Nd)} {a:Int} {f1:Int×Int} {nb i:Nat} {done:List Tr} {ks:List Int} {rest:List Value} {t:Tr} (h:VisI B0 lb fb vb w wc lv0 rs0 rs1 a f1 nb done i wr lvi rsi ks rest)
  (V:VisS w5 B0 lb fb vb lv5 rs5 (Zci t a (ZaW done a f1))) (hm:rs5.map (·.2)=Zb6 t (rsi.map (·.2))) (F:FrV wr w5 lb fb lvi) (N:ZhK wr rsi rs5) (hv:lv5.ownBlock=lvi.ownBlock\/∀ j,lv5.ownBlock=some j->wr.heap.size<=j) :
  VisJ B0 lb fb vb w wc lv0 rs0 rs1 a f1 nb done i t w5 lv5 rs5 ks rest rsi.length:=by
 have hs:=h.old
 have ap:lvi.ownBlock≠some wc.heap.size:=fun e=>ZbJ h.V.own h.row (by decide) wc.heap.size e rfl
 have n1:wc.heap.size≠lb:=fun e=>h.V.lbox.off h.row (by decide) (by rw [<- e];rfl)
 have n2:wc.heap.size≠fb:=fun e=>h.V.fbox.off h.row (by decide) (by rw [<- e];rfl)
 have hblk:=F.block wc.heap.size hs.2 n1 n2 ap
 have hrow:w5.ownsRow B0 3 1 (.slice (some ⟨wc.heap.size,0,none⟩) nb nb) nb (ks.map (Value.int .i64)++rest):=by
  obtain ⟨r1,r2⟩:=h.row
  refine ⟨r1,?_⟩
  rcases r2 with r2 | ⟨g,cap,cur,e1,r4,r5,r6⟩
  ·exact Or.inl r2
  ·refine Or.inr ⟨g,cap,cur,e1,r4,?_,r6⟩
   injection e1 with e1
   injection e1 with e1
   injection e1 with e1
   rw [<- e1] at r5 ⊢
   exact hblk.trans r5
 have hlv:lvi.ownBlock=lv0.ownBlock\/∀ j,lvi.ownBlock=some j->w.heap.size<=j:=h.hv
 refine ⟨V,⟨rsi,h.M,hm,rfl⟩,hrow,h.F.trans F hlv,fun y hy=>?_,?_,fun y hy e=>?_,h.at_,hs.1,Nat.lt_of_lt_of_le hs.2 F.size⟩
 ·rcases N y hy with ⟨z,hz,e⟩ | hz
  ·rcases h.N z hz with ⟨z2,hz2,e2⟩ | hz2
   ·exact Or.inl ⟨z2,hz2,e2.trans e⟩
   ·exact Or.inr (by rw [<- e];exact hz2)
  ·exact Or.inr (fun k hk=>Nat.le_trans h.F.size (hz k hk))
 ·rcases hv with hv | hv
  ·rw [hv];exact hlv
  ·exact Or.inr (fun j hj=>Nat.le_trans h.F.size (hv j hj))
 ·rcases N y hy with ⟨z,hz,e2⟩ | hz
  ·exact h.ap z hz (by rw [e2];exact e)
  ·have:=hz _ e
   omega
theorem VisJ.slot {B0 lb fb vb:Nat} {w wc wr:World} {lv0 lvi:Value} {rs0 rs1 rsi:List (NdV×Nd)} {a:Int} {f1:Int×Int} {nb i num:Nat} {done:List Tr} {t:Tr} {ks:List Int} {rest:List Value} (h:VisJ B0 lb fb vb w wc lv0 rs0 rs1 a f1 nb done i t wr lvi rsi ks rest num) (j:Nat) (hj:j<nb):(∃ u,wr.cell? ⟨wc.heap.size,j,none⟩=some u)/\wr.frozen? ⟨wc.heap.size,j,none⟩=false:=by
 have e:=h.row.cellAt j (by omega)
 have hl:=h.row.1
 refine ⟨?_,h.row.frozenAt j⟩
 rw [e]
 exact ⟨_,List.getElem?_eq_getElem (by omega)⟩
theorem Zgn {α:Type} (u:α):∀ (l r:List α) (i:Nat),l.length=i->i<(l++r).length->∃ r',(l++r).set i u=(l++[u])++r'
 | [],[],i,hl,hi=>by simp at hi
 | [],y::r,i,hl,hi=>by
  obtain rfl:i=0:=hl.symm
  exact ⟨r,rfl⟩
 | x::l,r,i,hl,hi=>by
  obtain ⟨i',rfl⟩:∃ i',i=i'+1:=⟨i-1,by rw [List.length_cons] at hl;omega⟩
  obtain ⟨r',e⟩:=Zgn u l r i' (by simpa using hl) (by simpa using hi)
  exact ⟨r',by rw [List.cons_append,List.set_cons_succ,e];rfl⟩
theorem VisJ.stored {B0 lb fb vb:Nat} {w wc wr:World} {lv0 lvi:Value} {rs0 rs1 rsi:List (NdV×Nd)} {a:Int} {f1:Int×Int} {nb i num:Nat} {kk:List Tr} {t:Tr} {ks:List Int} {rest:List Value} (h:VisJ B0 lb fb vb w wc lv0 rs0 rs1 a f1 nb (kk.take i) i t wr lvi rsi ks rest num) (ht:kk[i]? = some t) (hi:i<nb) :
  ∃ rest',VisI B0 lb fb vb w wc lv0 rs0 rs1 a f1 nb (kk.take (i+1)) (i+1) (wr.setCell ⟨wc.heap.size,i,none⟩ (.int .i64 num)) lvi rsi (ks++[(num:Int)]) rest':=by
 obtain ⟨rso,m1,m2,m3⟩:=h.M
 have hkl:ks.length=i:=by
  have e:=congrArg Prod.fst m1
  dsimp only at e
  rw [e,(ZcV _ _).2,h.at_]
 have hl:=h.row.1
 obtain ⟨rest',hr⟩:=Zgn (Value.int .i64 num) (ks.map (Value.int .i64)) rest i (by rw [List.length_map,hkl]) (by omega)
 have n1:wc.heap.size≠lb:=fun e=>h.V.lbox.off h.row (by decide) (by rw [<- e];rfl)
 have n2:wc.heap.size≠fb:=fun e=>h.V.fbox.off h.row (by decide) (by rw [<- e];rfl)
 have n3:wc.heap.size≠vb:=fun e=>h.V.vbox.off h.row (by decide) (by rw [<- e];rfl)
 have hge:B0<=wc.heap.size:=(h.row.lt wc.heap.size rfl).1
 have hF:=FrP.set wr wc.heap.size i (.int .i64 num)
 refine ⟨rest',?_,?_,?_,?_,h.N,h.hv,h.ap,?_,h.old.1,Nat.lt_of_lt_of_le h.old.2 hF.size⟩
 ·rw [ZcI ht,Zfb]
  exact h.V.past i _ hge n1 n2 n3 (fun e=>ZbJ h.V.own h.row (by decide) wc.heap.size e rfl) h.ap
 ·rw [ZcI ht,Zfz,<- m1]
  dsimp only
  rw [m2,m3,List.length_map]
 ·have:=(h.row.stored i (.int .i64 num)).1
  rw [hr] at this
  rw [List.map_append]
  exact this
 ·exact ⟨hF.os.trans h.F.os,hF.tape.trans h.F.tape,hF.output.trans h.F.output,Nat.le_trans h.F.size hF.size,fun j hj a1 a2 a3=>(hF.block j (Nat.lt_of_lt_of_le hj h.F.size) (fun e=>by injection e with e;have:=h.old.1;omega)).trans (h.F.block j hj a1 a2 a3)⟩
 ·rw [ZcI ht,List.length_append,h.at_]
  rfl
theorem Zgr:∀ ts:List Tr,ts.length<=ZI ts
 | []=>Nat.zero_le _
 | t::r=>by
  have:=Zgr r
  have h1:1<=szT t:=by cases t;rw [szT];omega
  rw [ZI,List.length_cons]
  omega
theorem Zfy (B0 lb fb vb:Nat):∀ (n:Nat) (t:Tr),szT t<=n->∀ (w:World) (S:Nat->Prop) (b:Nat) (a:Int) (lv:Value) (rs:List (NdV×Nd)) (f:Int×Int),BrP w S t b->(∀ k,S k->k<B0)->VisS w B0 lb fb vb lv rs f->0<=a->a+szT t<=1000000->rs.length+szT t<=1000000 ->
  Calls Tryd.prog 14 #[brV b,.int .i64 a,pV lb,pV fb,pV vb] w (ZmW w B0 lb fb vb lv rs t a f)
 | 0,t,hn,_,_,_,_,_,_,_,_,_,_,_,_,_=>by cases t;rw [szT] at hn;omega
 | n+1,.mk k ws us p kk,hn,w,S,b,a,lv,rs,f,hT,hS,hV,ha,han,hrn=>by
  rw [szT] at hn han hrn
  have hT0:=hT
  unfold BrP at hT
  obtain ⟨hSb,vw,vn,vk,bs,T,hw,hnr,hk,hkids⟩:=hT
  have low0:∀ {e:TypeId} {v:Value} {xs:List Value},Za2 w S e v xs->Za2 w (fun k=>k<B0) e v xs:=fun q=>q.frame hS (fun _ _=>rfl)
  have hbl:=ZcN hkids
  obtain ⟨A0,c0,rfl⟩:=Zbp hV.own
  obtain ⟨Ak,ck,rfl⟩:=ZcF hk.1
  obtain ⟨iI,hiI,zI0,zI1,zI2⟩:=info_parts Zkq
  have hkl:(bs.map brV).length=kk.length:=by rw [List.length_map,hbl]
  have hsz:=Zgr kk
  have q1:w.cell? ⟨lb,0,none⟩=some (.slice A0 rs.length c0):=hV.lbox.blk.cell 0
  have H:=zh (zi hV (zi T (zi (low0 hw) (zi (low0 hnr) (zi hk (zi hkids (zi hS (zi hSb (zi hbl (zi hn (zi hkl hsz)))))))))))
  have HB:=zh (zi ha (zi han hrn))
  have IH:=zh (Zfy B0 lb fb vb n)
  clear hV T hw hnr hk hkids hS hSb low0 hn hT0 ha han hrn hbl hkl hsz
  go_enter Tryd.func14,Tryd.ntmps14
  go_upto_region 2 with fail
  rename_i KK aK
  clear q1
  refine ZmM 14 0 2 H.out.1 H.out.2.1 H.out.2.2.1 H.out.2.2.2.1 (by have:=HB.out;omega) (fun x wr hE=>?_)
  simp only [ZE,ZbA,cl,Act.put]
  obtain ⟨lv1,V1,F1,hv1⟩:=hE
  have K1:=zh (zi V1 (zi F1 hv1))
  have q1:wr.cell? ⟨fb,0,none⟩=some (.int .i64 f.1):=V1.fbox.blk.cell 0
  have q2:wr.cell? ⟨fb,1,none⟩=some (.int .i64 f.2):=V1.fbox.blk.cell 1
  have f1:=V1.fbox.blk.free 0
  have f2:=V1.fbox.blk.free 1
  have TB:Zy wr b 59 #[.int .i64 k,vw,vn,.slice none 0 0,.int .i64 p,.slice Ak (bs.map brV).length ck]:=(FrV.low H.out.1 F1 b (H.out.2.2.2.2.2.2.1 b H.out.2.2.2.2.2.2.2.1)).trans H.out.2.1
  have q3:wr.cell? ⟨b,4,none⟩=some (.int .i64 p):=TB.blk.cell 4
  have TBh:=zh TB
  clear V1 F1 hv1 TB
  refine aK _ _ ?_
  clear aK KK
  apply wp_seq_k
  intro KK aK
  go_cut [] from 14 to 65 (fun wx=>VisS wx B0 lb fb vb lv1 (rs++[((vw,vn,.slice none 0 0),⟨k,ws,us,[],p⟩)]) (if 24<a/\f.1=0 then (12,p) else f)/\FrV w wx lb fb (.slice A0 rs.length c0))
  case first=>
   by_cases h24:24<a
   ·by_cases hf0:f.1=0
    ·have e1:(f.1==0)=true:=by simpa using hf0
     go_upto_region 4 with fail
     go_region
     go_wp2_with fail
     go_meet
     case rel=>
      rw [if_pos ⟨h24,hf0⟩]
      have hd:∀ w1:World,Below w1.heap.size w1 w1.drew:=fun _=>(Below.refl _ _).drew
      exact ⟨((K1.out.1.fault 0 0).fault 12 p).grown (hd _),((((K1.out.2.1.trans (FrV.setF _ 0 _) (Or.inl rfl)).trans (FrV.setF _ 1 _) (Or.inl rfl)).trans (FrV.setF _ 0 _) (Or.inl rfl)).trans (FrV.setF _ 1 _) (Or.inl rfl)).trans (FrV.of_below (hd _)) (Or.inl rfl)⟩
    ·have e1:(f.1==0)=false:=by simpa using hf0
     go_wp2_with fail
     go_meet
     case rel=>rw [if_neg (fun q=>hf0 q.2)];exact ⟨K1.out.1,K1.out.2.1⟩
   ·go_wp2_with fail
    go_meet
    case rel=>rw [if_neg (fun q=>by omega)];exact ⟨K1.out.1,K1.out.2.1⟩
  case rest=>
   obtain ⟨V2,F2⟩:=hcut
   refine aK _ _ ?_
   clear aK KK q1 q2 f1 f2 q3
   generalize hf1:(if 24<a/\f.1=0 then ((12:Int),p) else f)=f1 at *
   have TB:Zy wc b 59 #[.int .i64 k,vw,vn,.slice none 0 0,.int .i64 p,.slice Ak (bs.map brV).length ck]:=(FrV.low H.out.1 F2 b (H.out.2.2.2.2.2.2.1 b H.out.2.2.2.2.2.2.2.1)).trans H.out.2.1
   have q3:wc.cell? ⟨b,5,none⟩=some (.slice Ak (bs.map brV).length ck):=TB.blk.cell 5
   have K2:=zh (zi V2 (zi F2 hf1))
   obtain ⟨nb,hnb⟩:∃ nb,(bs.map brV).length=nb:=⟨_,rfl⟩
   rw [hnb] at q3
   have HNB:=zh (show nb=kk.length by rw [<- hnb];exact H.out.2.2.2.2.2.2.2.2.2.2.1)
   have HNL:=zh (show nb<=1000000 by have:=HNB.out;have:=H.out.2.2.2.2.2.2.2.2.2;have:=HB.out;omega)
   clear V2 F2 hf1 TB
   go_upto_region 6 with (at_make;refine wpList_make_full _ rfl _ _ 31 rfl B0 3 iI (.int .i64 0) 1 Tryd.underlying31 hiI zI0 zI1 .i64 .i64 _ _ nb rfl rfl ?c1 ?c2 ?c3 ?c4 ?c5 ?_)
   case c1=>rfl
   case c2=>rfl
   case c3=>rw [zI2];have:=HNL.out;omega
   case c4=>have:=HNL.out;unfold maxLen;omega
   case c5=>have:=K2.out.1.lbox.lt;have:=K2.out.1.ge.1;omega
   intro w3 hown hgrow
   have b3:Below wc.heap.size wc w3:=(Below.refl _ _).grown hgrow (Nat.le_refl _) (fun k hk=>by cases hk)
   have q4:w3.cell? ⟨b,5,none⟩=some (.slice Ak nb ck):=(b3.cell (p:=⟨b,5,none⟩) (by have:=K2.out.1.lbox.lt;have:=K2.out.1.ge.1;have:=H.out.2.2.2.2.2.2.1 b H.out.2.2.2.2.2.2.2.1;show b<_;omega)).trans q3
   have K3:=zh (zi hown b3)
   have HSZ:=zh (show wc.heap.size<w3.heap.size from (hown.lt wc.heap.size rfl).2)
   clear hown hgrow b3 q3
   go_upto_region 7 with fail
   clear q4
   go_loopg [10,11,46] nb (fun g v10 v11 v46 wr=>∃ i:Nat,v46=.int .i64 i/\i<=nb/\g=nb-i/\∃ lvi rsi ks rest,VisI B0 lb fb vb w wc (.slice A0 rs.length c0) rs (rs++[((vw,vn,.slice none 0 0),⟨k,ws,us,[],p⟩)]) (a+1) f1 nb (kk.take i) i wr lvi rsi ks rest)
   case atStart=>exact ⟨0,rfl,Nat.zero_le _,rfl,lv1,_,[],_,ZiW K1.out.2.2 K2.out.1 K2.out.2.1 K3.out.1 K3.out.2 HSZ.out⟩
   case round=>
    obtain ⟨i,rfl,hi,hg,lvi,rsi,ks,rest,hI⟩:=hrel
    have HI:=zh hI
    have HJ:=zh (zi hi hg)
    clear hI
    rcases Nat.lt_or_ge i nb with hlt | hge
    ·obtain ⟨g,hgi⟩:∃ g,bs[i]? = some g:=⟨_,List.getElem?_eq_getElem (by rw [List.length_map] at hnb;omega)⟩
     obtain ⟨t,hti,hTt⟩:=Zf4 H.out.2.2.2.2.2.1 hgi
     have low:∀ k,S k->wr.heap[k]? = w.heap[k]?:=fun k hk=>FrV.low H.out.1 HI.out.F k (H.out.2.2.2.2.2.2.1 k hk)
     have hTr:BrP wr S t g:=BrP.frame (fun _ q=>q) low _ _ hTt
     have hsz:ZI (kk.take i)+szT t<=ZI kk:=by
      have h1:kk=kk.take (i+1)++kk.drop (i+1):=(List.take_append_drop _ _).symm
      rw [ZcI hti] at h1
      have h2:=congrArg ZI h1
      rw [ZdW,ZdW,ZI,ZI] at h2
      omega
     obtain ⟨gk,hAk,hcell⟩:=ZkR H.out.2.2.2.2.1 (i:=i) (u:=brV g) (by rw [List.getElem?_map,hgi];rfl) low
     subst hAk
     have i0:(i:Int)<(nb:Int):=by omega
     have i1:(0:Int)<=(i:Int):=by omega
     have wa:IntKind.i64.wrap (a+1)=a+1:=IntWalk.i64_in _ (by have:=HB.out;omega)
     have wi:IntKind.i64.wrap ((i:Int)+1)=(i:Int)+1:=IntWalk.i64_in _ (by have:=HNL.out;omega)
     have q5:wr.cell? ⟨vb,0,none⟩=some (ZiX lb fb vb):=HI.out.V.vbox.blk.cell 0
     have VC:=zh (IH.out t (by have:=H.out.2.2.2.2.2.2.2.2.2.1;omega) wr S g (a+1) lvi rsi _ hTr H.out.2.2.2.2.2.2.1 HI.out.V (by have:=HB.out;omega) (by have:=HB.out;omega) (by have e9:=HI.out.len;have:=HB.out;rw [List.length_append,List.length_singleton] at e9;omega))
     have HT:=zh (zi hti hlt)
     clear hTr hTt low hgi hti hsz hlt hi hg
     go_wp2_with (go_at_call 14;refine VC.out.mono ?_;rintro e5 w5 ⟨rfl,lv5,rs5,V5,hm5,F5,N5,hv5⟩;have I5:=zh (HI.out.called V5 hm5 F5 N5 hv5);obtain ⟨⟨u6,q6⟩,q7⟩:=I5.out.slot i HT.out.2;clear V5 hm5 F5 N5 hv5)
     go_roundg (nb-(i+1))
     case measure=>have:=HT.out;have:=HJ.out;omega
     case rel=>exact ⟨i+1,by push_cast;rfl,by have:=HT.out;omega,rfl,_,_,_,_,(I5.out.stored HT.out.1 HT.out.2).choose_spec⟩
    ·obtain rfl:i=nb:=by omega
     have hV:=HI.out.V
     have htk:kk.take i=kk:=by rw [HNB.out];exact List.take_length
     have hlen:=HI.out.len
     rw [List.length_append,List.length_singleton] at hlen
     have hrest:rest=[]:=by
      have h1:=HI.out.row.1
      have h2:=HI.out.klen
      rw [List.length_append,List.length_map,h2] at h1
      exact List.eq_nil_of_length_eq_zero (by omega)
     subst hrest
     obtain ⟨gl,cl',rfl⟩:∃ gl cl',lvi=.slice (some ⟨gl,0,none⟩) rsi.length cl':=by
      rcases hV.own.2 with ⟨_,q⟩ | ⟨g,cap,cur,e,_⟩
      ·omega
      ·exact ⟨g,cap,e⟩
     obtain ⟨x0,hx0⟩:∃ x0,rsi[rs.length]? = some x0:=⟨_,List.getElem?_eq_getElem (by omega)⟩
     have q1:wr.cell? ⟨lb,0,none⟩=some (.slice (some ⟨gl,0,none⟩) rsi.length cl'):=hV.lbox.blk.cell 0
     have q2:wr.frozen? ⟨gl,rs.length*5+3,none⟩=false:=hV.own.frozenAt _
     have q3:∃ u,wr.cell? ⟨gl,rs.length*5+3,none⟩=some u:=by
      rw [hV.own.cellAt (rs.length*5+3) (by omega)]
      exact ⟨_,List.getElem?_eq_getElem (by rw [ZcQ];omega)⟩
     obtain ⟨u3,q3⟩:=q3
     have i0:(0:Int)<=(rs.length:Int):=by omega
     have i1:(rs.length:Int)<(rsi.length:Int):=by omega
     have HX:=zh (zi hx0 (zi htk hlen))
     clear hV htk hlen hx0 hge hi hg
     go_wp2_with fail
     go_ret
     have hI:=HI.out
     obtain ⟨hx0,htk,hlen⟩:=HX.out
     have hV:=hI.V
     have hM:=hI.M
     have hrow:=hI.row
     rw [htk] at hV hM
     rw [List.append_nil] at hrow
     have hkl:=hI.klen
     have e1:=congrArg Prod.fst hM
     have e2:=congrArg Prod.snd hM
     dsimp only at e1 e2
     have hrow':wr.ownsRow B0 3 1 (.slice (some ⟨wc.heap.size,0,none⟩) i i) ks.length (ks.map (Value.int .i64)):=by rw [hkl];exact hrow
     have hKV:=hV.kids hx0 rfl hrow'
     have hs:=FrP.set wr gl (rs.length*5+3) (.slice (some ⟨wc.heap.size,0,none⟩) i i)
     refine ⟨rfl,.slice (some ⟨gl,0,none⟩) rsi.length cl',rsi.set rs.length ((x0.1.1,x0.1.2.1,.slice (some ⟨wc.heap.size,0,none⟩) i i),⟨x0.2.kind,x0.2.words,x0.2.nums,ks,x0.2.pos⟩),?_,?_,?_,?_,hI.hv⟩
     ·rw [Zci,K2.out.2.2]
      exact hKV
     ·rw [Zb6,List.map_set]
      have e3:(rs++[(((vw,vn,.slice none 0 0):NdV),(⟨k,ws,us,[],p⟩:Nd))]).map (·.2)=rs.map (·.2)++[⟨k,ws,us,[],p⟩]:=List.map_append
      rw [e3] at e1 e2
      have ee:(rs.map (·.2)).length=rs.length:=List.length_map _
      rw [ee]
      rw [<- e2,<- e1]
      unfold ZbV
      rw [List.getElem?_map,hx0]
      rfl
     ·exact ⟨hs.os.trans hI.F.os,hs.tape.trans hI.F.tape,hs.output.trans hI.F.output,Nat.le_trans hI.F.size hs.size,fun j hj a1 a2 a3=>(hs.block j (Nat.lt_of_lt_of_le hj hI.F.size) (fun e=>by
       injection e with e
       rcases hI.hv with h4 | h4
       ·exact a3 (by rw [<- h4,<- e];rfl)
       ·have:=h4 gl rfl
        omega)).trans (hI.F.block j hj a1 a2 a3)⟩
     ·intro y hy
      rcases List.mem_or_eq_of_mem_set hy with hy | rfl
      ·exact hI.N y hy
      ·refine Or.inr (fun k hk=>?_)
       injection hk with hk
       have:=hI.old.1
       dsimp only at hk
       omega
end
end Go.Proofs.YtfdgeijnkkdplaaDoor
