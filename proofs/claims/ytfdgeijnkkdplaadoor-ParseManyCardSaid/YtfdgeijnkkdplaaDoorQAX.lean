import Derived.Test.YtfdgeijnkkdplaaDoorQAV
set_option maxRecDepth 100000
set_option maxHeartbeats 8000000
namespace Go.Proofs.YtfdgeijnkkdplaaDoor
section
open Go Go.RowKit
theorem Zc3 {P:Program} {ops:Array Oper} {o:Oper} {a:Act} {w:World} {K:Act->World->Prop} {Q:Exit->Act->World->Prop} (hgd:o.guard=none) (s x:Operand) (t:TypeId)
  (ho:o.op=.call { callee:=.builtin .append,args:=#[s,x],argTypes:=#[t,t] })
  (base:Nat) (e:TypeId) (i:TypeInfo) (z:Value) (size bytes:Nat) (ht:P.underlying t=some (.slice e)) (hi:P.info? e=some i) (hz:i.zero=some z)
  (hsize:i.size=size) (hby:i.bytes=bytes) (hzs:z.cells.size=size) (hsz:0<size)
  (v:Value) (n:Nat) (xs:List Value) (hs:a.eval s=v) (hown:w.ownsRow base e size v n xs)
  (B:Nat) (A:Option Addr) (m c:Nat) (news:List Value) (hx:a.eval x=.slice A m c) (hr:ZT w B size A m news) (h1:∀ u∈news,u.oneCell'=true)
  (h63:n+m<=maxLen) (hbytes:(n+m)*bytes<=140737488355328) (hbase:base<=w.heap.size)
  (h:∀ v' w',w'.ownsRow base e size v' (n+m) (xs++news)->w.grownBy w' v.ownBlock->(v'.ownBlock=v.ownBlock\/v'.ownBlock=some w.heap.size)->K (a.put o.dst v') w'):StepP P ops Q o a w K:=
 ⟨ZeN w hgd s x t ho base e i z size bytes ht hi hz hsize hby hzs hsz v n xs hs hown B A m c news hx hr h1 h63 hbytes hbase h⟩
theorem ZdJ:(Tryd.prog.info? 9).map (fun i=>(i.zero,i.size,i.bytes))=some (some (.string ⟨#[]⟩),1,16):=by kernel_rfl
theorem Zeu:Tryd.prog.underlying 29=some (.slice 9):=Tryd.underlying29
section
variable {w0 wS w:World} {bp c:Nat} {ad:Addr} {L:List Tok} {s:PS} {k:Int} {ws:List Txt} {ns:List Int} {at_:Int} {kids:List Tr} {b:Nat} {xs:List (Nat×TypeId×Array Value)}
structure WayK (w0 wS w:World) (bp c:Nat) (ad:Addr) (L:List Tok) (s:PS) (k:Int) (ws:List Txt) (ns:List Int) (at_:Int) (kids:List Tr) (b:Nat) (xs:List (Nat×TypeId×Array Value)) (ts:List Tr) (gs:List Nat):Prop where
 P:ParQ w0 w bp ad c L s
 F:FrP wS w bp
 X:∃ vw vn vk bs K K2,BrX w wS.heap.size k ws ns at_ kids b xs vw vn vk bs K/\ZO w K2 ts gs/\∀ j,K2 j->wS.heap.size<=j/\j<w.heap.size/\j≠b/\vk.ownBlock≠some j
 lt:bp<wS.heap.size
theorem WayK.of (h:Way w0 wS w bp c ad L s k ws ns at_ kids b xs):WayK w0 wS w bp c ad L s k ws ns at_ kids b xs [] []:=by
 obtain ⟨vw,vn,vk,bs,K,X⟩:=h.X
 exact ⟨h.P,h.F,⟨vw,vn,vk,bs,K,fun _=>False,X,by unfold ZO;rfl,fun _ q=>q.elim⟩,h.lt⟩
theorem WayK.way {ts:List Tr} {gs:List Nat} (h:WayK w0 wS w bp c ad L s k ws ns at_ kids b xs ts gs):Way w0 wS w bp c ad L s k ws ns at_ kids b xs:=by
 obtain ⟨vw,vn,vk,bs,K,K2,X,_,_⟩:=h.X
 exact ⟨h.P,h.F,⟨vw,vn,vk,bs,K,X⟩,h.lt⟩
theorem WayK.call {ts:List Tr} {gs:List Nat} (h:WayK w0 wS w bp c ad L s k ws ns at_ kids b xs ts gs) {w':World} {s':PS} (hP:ParQ w0 w' bp ad c L s') (hF:FrP w w' bp):WayK w0 wS w' bp c ad L s' k ws ns at_ kids b xs ts gs:=by
 obtain ⟨vw,vn,vk,bs,K,K2,X,h1,h2⟩:=h.X
 have hlt:=h.lt
 exact ⟨hP,h.F.trans hF,⟨vw,vn,vk,bs,K,K2,X.call hF h.lt,ZO.frame (fun k hk=>hk) (fun j hj=>hF.block j (h2 j hj).2.1 (fun e=>by injection e with e;have:=(h2 j hj).1;omega)) _ _ h1,fun j hj=>⟨(h2 j hj).1,Nat.lt_of_lt_of_le (h2 j hj).2.1 hF.size,(h2 j hj).2.2⟩⟩,h.lt⟩
theorem WayK.grown {ts:List Tr} {gs:List Nat} (h:WayK w0 wS w bp c ad L s k ws ns at_ kids b xs ts gs) {w':World} (hb:Below w.heap.size w w'):WayK w0 wS w' bp c ad L s k ws ns at_ kids b xs ts gs:=h.call (h.P.keep hb) (FrP.of_below bp hb)
theorem WayK.got {ts:List Tr} {gs:List Nat} (h:WayK w0 wS w bp c ad L s k ws ns at_ kids b xs ts gs) {w':World} {s':PS} {t:Tr} {g:Nat} (hP:ParQ w0 w' bp ad c L s') (hF:FrP w w' bp) (hT:BrP w' (ZbC w w') t g):WayK w0 wS w' bp c ad L s' k ws ns at_ kids b xs (ts++[t]) (gs++[g]):=by
 have h':=h.call hP hF
 obtain ⟨vw,vn,vk,bs,K,K2,X0,_,_⟩:=h.X
 have hlt:=h.lt
 obtain ⟨vw,vn,vk,bs,K,K2,X,h1,h2⟩:=h.X
 have X':=X.call hF h.lt
 refine ⟨hP,h.F.trans hF,⟨vw,vn,vk,bs,K,fun j=>K2 j\/ZbC w w' j,X',Zej (ZO.frame (fun k hk=>Or.inl hk) (fun j hj=>hF.block j (h2 j hj).2.1 (fun e=>by injection e with e;have:=(h2 j hj).1;omega)) _ _ h1) ?_,?_⟩,h.lt⟩
 ·unfold ZO
  exact ⟨g,[],rfl,BrP.frame (fun k hk=>Or.inr hk) (fun _ _=>rfl) _ _ hT,by unfold ZO;rfl⟩
 ·rintro j (hj | hj)
  ·exact ⟨(h2 j hj).1,Nat.lt_of_lt_of_le (h2 j hj).2.1 hF.size,(h2 j hj).2.2⟩
  ·have sz:=X.size
   have bl:=X.box.lt
   exact ⟨Nat.le_trans sz hj.1,hj.2,fun e=>by have:=hj.1;omega,fun e=>by have:=(X.kd.lt j e).2;have:=hj.1;omega⟩
theorem WayK.add {ts:List Tr} {gs:List Nat} (h:WayK w0 wS w bp c ad L s k ws ns at_ kids b xs ts gs) {m:Nat} (hn:kids.length<=200000) (hm:gs.length=m) (hm2:m<=10) :
  Calls Tryd.prog 23 #[brV b,.slice (some ⟨w.heap.size,0,none⟩) m m] (w.alloc (.cells (gs.map brV).toArray 39)) fun e w'=>e=.returned (.tuple #[])/\Way w0 wS w' bp c ad L s k ws ns at_ (kids++ts) b xs:=by
 have hb:=below_alloc1 w (.cells (gs.map brV).toArray 39)
 have h':=h.grown hb
 have hlt:=h.lt
 obtain ⟨vw,vn,vk,bs,K,K2,X,h1,h2⟩:=h'.X
 have hl:=ZcN X.kids
 have hrow:ZT (w.alloc (.cells (gs.map brV).toArray 39)) (w.alloc (.cells (gs.map brV).toArray 39)).heap.size 1 (some ⟨w.heap.size,0,none⟩) m (gs.map brV):=Zb3 (Zy.start w _ _).blk (by rw [List.length_map,hm];omega)
 refine (Zlf _ 0 b _ _ _ _ _ vk bs gs X.box (Zga X.kd) (Nat.zero_le _) _ ⟨w.heap.size,0,none⟩ m m hrow (by omega)).mono ?_
 rintro e w' ⟨rfl,vk',T,ho,hF,hv⟩
 refine ⟨rfl,h'.P.frs hF ?_,h'.F.frs hF ?_,⟨vw,vn,vk',_,_,X.kidsMore h1 h2 T (by rw [hm];exact ho) hF hv⟩,h.lt⟩
 ·rintro j (rfl | hj)
  ·have:=X.ge;omega
  ·have:=(X.kd.lt j hj).1;omega
 ·rintro j (rfl | hj)
  ·exact X.ge
  ·exact (X.kd.lt j hj).1
structure WayV (w0 wS w:World) (bp c:Nat) (ad:Addr) (L:List Tok) (s:PS) (k:Int) (ws:List Txt) (ns:List Int) (at_:Int) (kids:List Tr) (b:Nat) (xs:List (Nat×TypeId×Array Value)) (vw:Value):Prop where
 P:ParQ w0 w bp ad c L s
 F:FrP wS w bp
 X:∃ vn vk bs K,BrX w wS.heap.size k ws ns at_ kids b xs vw vn vk bs K
 lt:bp<wS.heap.size
theorem Way.words (h:Way w0 wS w bp c ad L s k ws ns at_ kids b xs):∃ vw,WayV w0 wS w bp c ad L s k ws ns at_ kids b xs vw:=by
 obtain ⟨vw,X⟩:=h.X
 exact ⟨vw,h.P,h.F,X,h.lt⟩
theorem WayV.way {vw:Value} (h:WayV w0 wS w bp c ad L s k ws ns at_ kids b xs vw):Way w0 wS w bp c ad L s k ws ns at_ kids b xs:=⟨h.P,h.F,⟨vw,h.X⟩,h.lt⟩
theorem WayV.call {vw:Value} (h:WayV w0 wS w bp c ad L s k ws ns at_ kids b xs vw) {w':World} {s':PS} (hP:ParQ w0 w' bp ad c L s') (hF:FrP w w' bp):WayV w0 wS w' bp c ad L s' k ws ns at_ kids b xs vw:=by
 obtain ⟨vn,vk,bs,K,X⟩:=h.X
 exact ⟨hP,h.F.trans hF,⟨vn,vk,bs,K,X.call hF h.lt⟩,h.lt⟩
theorem WayV.grown {vw:Value} (h:WayV w0 wS w bp c ad L s k ws ns at_ kids b xs vw) {w':World} (hb:Below w.heap.size w w'):WayV w0 wS w' bp c ad L s k ws ns at_ kids b xs vw:=h.call (h.P.keep hb) (FrP.of_below bp hb)
theorem WayV.cell {vw:Value} (h:WayV w0 wS w bp c ad L s k ws ns at_ kids b xs vw):w.cell? ⟨b,1,none⟩=some vw:=by
 obtain ⟨vn,vk,bs,K,X⟩:=h.X
 exact X.box.blk.cell 1
theorem WayV.row {vw:Value} (h:WayV w0 wS w bp c ad L s k ws ns at_ kids b xs vw):w.ownsRow wS.heap.size 9 1 vw ws.length (ws.map txt):=by
 obtain ⟨vn,vk,bs,K,X⟩:=h.X
 exact X.wd
structure WayP (w0 wS w:World) (bp c:Nat) (ad:Addr) (L:List Tok) (s:PS) (k:Int) (ws:List Txt) (ns:List Int) (at_:Int) (kids:List Tr) (b:Nat) (xs:List (Nat×TypeId×Array Value)) (vw vw':Value):Prop where
 P:ParQ w0 w bp ad c L s
 F:FrP wS w bp
 X:∃ vn vk bs K,wS.heap.size<=b/\Zy w b 59 #[.int .i64 k,vw,vn,.slice none 0 0,.int .i64 at_,vk]/\w.ownsRow wS.heap.size 9 1 vw' ws.length (ws.map txt)/\w.ownsRow wS.heap.size 2 1 vn ns.length (ns.map (Value.int .i64))/\w.ownsRow wS.heap.size 39 1 vk bs.length (bs.map brV)/\ZO w K kids bs ∧
  (∀ j,K j->wS.heap.size<=j/\j<w.heap.size/\j≠b/\vk.ownBlock≠some j)/\∀ x∈xs,wS.heap.size<=x.1/\x.1≠b/\Zy w x.1 x.2.1 x.2.2/\vw'.ownBlock≠some x.1/\vn.ownBlock≠some x.1/\vk.ownBlock≠some x.1
 lt:bp<wS.heap.size
theorem WayV.append {vw vw':Value} (h:WayV w0 wS w bp c ad L s k ws ns at_ kids b xs vw) {ys:List Txt} {w':World} (hk0:kids=[]) (ho:w'.ownsRow wS.heap.size 9 1 vw' (ws.length+ys.length) (ws.map txt++ys.map txt)) (hg:w.grownBy w' vw.ownBlock) (hv:vw'.ownBlock=vw.ownBlock\/vw'.ownBlock=some w.heap.size):WayP w0 wS w' bp c ad L s k (ws++ys) ns at_ kids b xs vw vw':=by
 subst hk0
 obtain ⟨vn,vk,bs,K,X⟩:=h.X
 have hS:FrS (fun j=>vw.ownBlock=some j) w w':=⟨hg.os,hg.tape,hg.output,hg.size,fun j hj hn=>hg.block j hj (fun e=>hn e.symm)⟩
 have hB:∀ j,vw.ownBlock=some j->wS.heap.size<=j:=fun j e=>(X.wd.lt j e).1
 have hlt:=h.lt
 have hl:=ZcN X.kids
 obtain rfl:bs=[]:=List.eq_nil_of_length_eq_zero hl.symm
 have other:∀ {e:TypeId} {v:Value} {n:Nat} {zs:List Value},w.ownsRow wS.heap.size e 1 v n zs->9≠e->w'.ownsRow wS.heap.size e 1 v n zs:=by
  intro e v n zs q hne
  refine q.kept hg ?_
  cases hq:vw.ownBlock with
  | none=>
   cases hv':v.ownBlock with
   | none=>exact .inl rfl
   | some j=>exact .inr (fun e=>by cases e)
  | some j=>exact .inr (ZbJ X.wd q hne j hq)
 refine ⟨h.P.frs hS (fun j e=>by have:=hB j e;omega),h.F.frs hS hB,⟨vn,vk,[],fun _=>False,X.ge,X.box.grown hg (X.box.off X.wd (by decide)),?_,other X.nm (by decide),other X.kd (by decide),by unfold ZO;rfl,fun _ q=>q.elim,fun x hx=>?_⟩,h.lt⟩
 ·rw [List.length_append,List.map_append]
  exact ho
 ·obtain ⟨e1,e2,e3,e4,e5,e6⟩:=X.ex x hx
  refine ⟨e1,e2,e3.grown hg e4,?_,e5,e6⟩
  rcases hv with hv | hv
  ·rw [hv];exact e4
  ·rw [hv];intro e;injection e with e;have:=e3.lt;omega
theorem WayP.store {vw vw':Value} (h:WayP w0 wS w bp c ad L s k ws ns at_ kids b xs vw vw'):Way w0 wS (w.setCell ⟨b,1,none⟩ vw') bp c ad L s k ws ns at_ kids b xs:=by
 obtain ⟨vn,vk,bs,K,g,T,hw,hn,hk,hK,ho,hx⟩:=h.X
 have hF:FrP w (w.setCell ⟨b,1,none⟩ vw') b:=FrP.set w b 1 vw'
 refine ⟨h.P.past (Nat.lt_of_lt_of_le h.lt g) _ _,h.F.past g _ _,⟨vw',vn,vk,bs,K,g,T.set 1 vw',Zag hw (T.off hw (by decide)),Zag hn (T.off hn (by decide)),Zag hk (T.off hk (by decide)),ZO.frame (fun k hk=>hk) (fun j hj=>hF.block j (ho j hj).2.1 (fun e=>by injection e with e;exact (ho j hj).2.2.1 (by first | exact e | exact e.symm))) _ _ hK,fun j hj=>?_,fun x hx'=>?_⟩,h.lt⟩
 ·obtain ⟨a,b,c,d⟩:=ho j hj
  exact ⟨a,Nat.lt_of_lt_of_le b hF.size,c,d⟩
 ·obtain ⟨a,b,c,d⟩:=hx x hx'
  exact ⟨a,b,c.grown hF (fun e=>by injection e with e;exact b (by first | exact e | exact e.symm)),d⟩
theorem WayP.cell {vw vw':Value} (h:WayP w0 wS w bp c ad L s k ws ns at_ kids b xs vw vw'):w.cell? ⟨b,1,none⟩=some vw/\w.frozen? ⟨b,1,none⟩=false:=by
 obtain ⟨vn,vk,bs,K,g,T,_⟩:=h.X
 exact ⟨T.blk.cell 1,T.blk.free 1⟩
theorem WayP.box {vw vw':Value} (h:WayP w0 wS w bp c ad L s k ws ns at_ kids b xs vw vw') {x:Nat} {ty:TypeId} {v:Value} (hx:(x,ty,#[v])∈xs):w.cell? ⟨x,0,none⟩=some v:=by
 obtain ⟨vn,vk,bs,K,g,T,_,_,_,_,_,h1⟩:=h.X
 exact (h1 _ hx).2.2.1.blk.cell 0
theorem WayV.form {vw:Value} {y:Txt} (h:WayV w0 wS w bp c ad L s k [y] ns at_ kids b xs vw):∃ g c,vw=.slice (some ⟨g,0,none⟩) 1 c:=by
 rcases h.row.2 with ⟨_,q⟩ | ⟨g,cap,cur,rfl,_⟩
 ·cases q
 ·exact ⟨g,cap,rfl⟩
theorem WayV.at0 {g cn:Nat} {y:Txt} (h:WayV w0 wS w bp c ad L s k [y] ns at_ kids b xs (.slice (some ⟨g,0,none⟩) 1 cn)):w.cell? ⟨g,0,none⟩=some (txt y):=h.row.cellAt 0 (by decide)
structure WayN (w0 wS w:World) (bp c:Nat) (ad:Addr) (L:List Tok) (s:PS) (k:Int) (ws:List Txt) (ns:List Int) (at_:Int) (b:Nat) (xs:List (Nat×TypeId×Array Value)) (g cn:Nat):Prop where
 P:ParQ w0 w bp ad c L s
 F:FrP wS w bp
 X:∃ vw vk,BrX w wS.heap.size k ws ns at_ [] b xs vw (.slice (some ⟨g,0,none⟩) 3 cn) vk [] fun _=>False
 lt:bp<wS.heap.size
 three:ns.length=3
theorem Way.nums {x y z:Int} (h:Way w0 wS w bp c ad L s k ws [x,y,z] at_ [] b xs):∃ g cn,WayN w0 wS w bp c ad L s k ws [x,y,z] at_ b xs g cn:=by
 obtain ⟨vw,vn,vk,bs,K,X⟩:=h.X
 have hl:=ZcN X.kids
 obtain rfl:bs=[]:=List.eq_nil_of_length_eq_zero hl.symm
 rcases X.nm.2 with ⟨_,q⟩ | ⟨g,cap,cur,rfl,_⟩
 ·cases q
 ·exact ⟨g,cap,h.P,h.F,⟨vw,vk,X.ge,X.box,X.wd,X.nm,X.kd,by unfold ZO;rfl,fun _ q=>q.elim,X.ex⟩,h.lt,rfl⟩
theorem WayN.way {g cn:Nat} (h:WayN w0 wS w bp c ad L s k ws ns at_ b xs g cn):Way w0 wS w bp c ad L s k ws ns at_ [] b xs:=by
 obtain ⟨vw,vk,X⟩:=h.X
 exact ⟨h.P,h.F,⟨vw,_,vk,_,_,X⟩,h.lt⟩
theorem WayN.call {g cn:Nat} (h:WayN w0 wS w bp c ad L s k ws ns at_ b xs g cn) {w':World} {s':PS} (hP:ParQ w0 w' bp ad c L s') (hF:FrP w w' bp):WayN w0 wS w' bp c ad L s' k ws ns at_ b xs g cn:=by
 obtain ⟨vw,vk,X⟩:=h.X
 exact ⟨hP,h.F.trans hF,⟨vw,vk,X.call hF h.lt⟩,h.lt,h.three⟩
theorem WayN.drew {g cn:Nat} (h:WayN w0 wS w bp c ad L s k ws ns at_ b xs g cn):WayN w0 wS w.drew bp c ad L s k ws ns at_ b xs g cn:=h.call (h.P.keep (Below.refl _ _).drew) (FrP.of_below bp (Below.refl _ _).drew)
theorem WayN.cell {g cn:Nat} (h:WayN w0 wS w bp c ad L s k ws ns at_ b xs g cn):w.cell? ⟨b,2,none⟩=some (.slice (some ⟨g,0,none⟩) 3 cn):=by
 obtain ⟨vw,vk,X⟩:=h.X
 exact X.box.blk.cell 2
theorem WayN.slot {g cn:Nat} (h:WayN w0 wS w bp c ad L s k ws ns at_ b xs g cn) (j:Nat) (hj:j<3):∃ u,w.cell? ⟨g,j,none⟩=some (.int .i64 u):=by
 obtain ⟨vw,vk,X⟩:=h.X
 have h3:=h.three
 have:=X.nm
 rw [h3] at this
 have q:=this.cellAt j (by omega)
 obtain ⟨u,hu⟩:∃ u,ns[j]? = some u:=⟨_,List.getElem?_eq_getElem (by omega)⟩
 rw [List.getElem?_map,hu] at q
 exact ⟨u,q⟩
theorem WayN.free {g cn:Nat} (h:WayN w0 wS w bp c ad L s k ws ns at_ b xs g cn) (j:Nat):w.frozen? ⟨g,j,none⟩=false:=by
 obtain ⟨vw,vk,X⟩:=h.X
 have:=X.nm
 rw [h.three] at this
 exact this.frozenAt j
theorem WayN.put {g cn:Nat} (h:WayN w0 wS w bp c ad L s k ws ns at_ b xs g cn) (j:Nat) (u:Int):WayN w0 wS (w.setCell ⟨g,j,none⟩ (.int .i64 u)) bp c ad L s k ws (ns.set j u) at_ b xs g cn:=by
 obtain ⟨vw,vk,X⟩:=h.X
 have hlt:=h.lt
 have h3:=h.three
 have hg:wS.heap.size<=g:=(X.nm.lt g rfl).1
 have hF:FrP w (w.setCell ⟨g,j,none⟩ (.int .i64 u)) g:=FrP.set w g j _
 have hnb:g≠b:=fun e=>X.box.off X.nm (by decide) (by rw [e];rfl)
 have hst:=(show w.ownsRow wS.heap.size 2 1 (.slice (some ⟨g,0,none⟩) 3 cn) 3 (ns.map (Value.int .i64)) from by have:=X.nm;rwa [h3] at this).stored j (.int .i64 u)
 refine ⟨h.P.past (by omega) _ _,h.F.past hg _ _,⟨vw,vk,X.ge,X.box.other (fun e=>hnb e) _,Zag X.wd (fun e=>ZbJ X.nm X.wd (by decide) g rfl e),?_,Zag X.kd (fun e=>ZbJ X.nm X.kd (by decide) g rfl e),by unfold ZO;rfl,fun _ q=>q.elim,fun x hx=>?_⟩,h.lt,by rw [List.length_set];exact h3⟩
 ·rw [List.length_set,h3,List.map_set]
  exact hst.1
 ·obtain ⟨e1,e2,e3,e4,e5,e6⟩:=X.ex x hx
  exact ⟨e1,e2,e3.other (fun e=>e5 (by rw [<- e];rfl)) _,e4,e5,e6⟩
end
end
end Go.Proofs.YtfdgeijnkkdplaaDoor
