import Derived.Test.YtkgkmdhpnhmcpaaGreatDoorQAG
import Derived.Test.YtkgkmdhpnhmcpaaGreatDoorQAK
import Derived.Test.YtkgkmdhpnhmcpaaGreatDoorQAL
set_option maxRecDepth 100000
set_option maxHeartbeats 8000000
namespace Go.Proofs.YtkgkmdhpnhmcpaaGreatDoor
section
open Go.RowKit
def Zc8 (w:World) (a:Nat) (p:Pro):Prop:=∃ vs vm,Blk w a #[txt p.name,vs,vm]/\ProAt w vs vm p
theorem Zc8.below {w w':World} {a:Nat} {p:Pro} (h:Zc8 w a p) (hb:Below w.heap.size w w'):Zc8 w' a p:=by
 obtain ⟨vs,vm,h1,h2⟩:=h
 exact ⟨vs,vm,h1.keep hb,h2.below hb⟩
end
section
open Go.RowKit
def Zel (s:List UInt8) (p:Int×Int) (x:Sta):Int×Int:=(p.1+1,if x.name=s then p.1 else p.2)
def ZD (l:List Sta) (s:List UInt8):Int:=(l.foldl (Zel s) (0,-1)).2
theorem ZeI (s:List UInt8):∀ (l:List Sta) (p:Int×Int),(l.foldl (Zel s) p).1=p.1+l.length
 | [],p=>by simp
 | x::r,p=>by
  rw [List.foldl_cons,ZeI s r,List.length_cons]
  simp only [Zel]
  omega
theorem ZdV (s:List UInt8):ZD [] s=-1:=rfl
theorem Zdo (l:List Sta) (x:Sta) (s:List UInt8):ZD (l++[x]) s=if x.name=s then (l.length:Int) else ZD l s:=by
 unfold ZD
 rw [List.foldl_append]
 simp only [List.foldl_cons,List.foldl_nil,Zel]
 rw [ZeI]
 simp
theorem ZeH (s:List UInt8) (l:List Sta):-1<=ZD l s/\ZD l s<l.length:=by
 generalize hn:l.length=n
 induction n generalizing l with
 | zero=>rw [List.length_eq_zero_iff.1 hn];simp [ZdV]
 | succ n ih=>
  have hne:l≠[]:=fun e=>by rw [e] at hn;simp at hn
  have e:=(List.dropLast_concat_getLast hne).symm
  have hl:l.dropLast.length=n:=by rw [List.length_dropLast];omega
  have:=ih l.dropLast hl
  rw [e,Zdo]
  split<;>omega
def wdK (l:List (List UInt8)) (k:Nat):List UInt8:=(l[k]?).getD []
def Zag (ss:List Sta):List (List UInt8)->List Ou
 | a::b::r=>⟨a,ZD ss b⟩::Zag ss r
 | _=>[]
def Zem (ss:List Sta) (ws:List (List UInt8)):Mov:=⟨wdK ws 0,ZD ss (wdK ws 1),Zag ss (ws.drop 2)⟩
def ZM (ns:List Nd) (ks:List Int) (k:Int):List Nd:=(ks.map (Zu ns)).filter fun m=>m.kind==k
def stD (m:Nd):Sta:=⟨wdK m.words 0,decide ((m.nums[0]?).getD 0=1)⟩
structure Dcl where
 pro:Pro
 at_:Int
 sts:List Int
 ops:List Int
def ZaJ (ns:List Nd) (n:Nd):Dcl:=
 ⟨⟨wdK n.words 0,(ZM ns n.kids 2).map stD,(ZM ns n.kids 3).map fun m=>Zem ((ZM ns n.kids 2).map stD) m.words⟩,n.pos,(ZM ns n.kids 2).map (·.pos),(ZM ns n.kids 3).map (·.pos)⟩
def Zb7 (o:Ou):Bool:=decide (o.to=-1)
def ZbN (m:Mov):Bool:=decide (m.at_=-1)||m.outs.any Zb7
def ZaC (used:Bool) (d:Dcl):Int×Int:=
 if used then (2,d.at_)
 else if 0<=ZT ZbN d.pro.moves then (3,(d.ops[(ZT ZbN d.pro.moves).toNat]?).getD 0)
 else if (Zy d.pro).1=0 then (0,0)
 else if d.pro.states.length=0 then (1,d.at_)
 else if (Zy d.pro).1=1\/(Zy d.pro).1=5 then (1,(d.sts[(Zy d.pro).2.toNat]?).getD 0)
 else (1,(d.ops[(Zy d.pro).2.toNat]?).getD 0)
structure Bk where
 ps:List Pro
 taken:List (List UInt8)
 ds:List (Int×Int×List UInt8)
def ZaU (ns:List Nd) (b:Bk) (n:Nd):Bk:=
 let d:=ZaJ ns n
 let c:=ZaC (b.taken.contains d.pro.name) d
 if c.1=0 then { ps:=b.ps++[d.pro],taken:=d.pro.name::b.taken,ds:=b.ds }
 else { ps:=b.ps,taken:=d.pro.name::b.taken,ds:=b.ds++[(c.1,c.2,d.pro.name)] }
theorem Zgf (ns:List Nd) (j:Int) (ks:List Int) (k:Int):ZM ns (j::ks) k=if (Zu ns j).kind=k then Zu ns j::ZM ns ks k else ZM ns ks k:=by
 unfold ZM
 rw [List.map_cons,List.filter_cons]
 by_cases h:(Zu ns j).kind=k
 ·rw [if_pos h,if_pos (by simpa using h)]
 ·rw [if_neg h,if_neg (by simpa using h)]
theorem ZeF (ns:List Nd) (a b:List Int) (k:Int):ZM ns (a++b) k=ZM ns a k++ZM ns b k:=by
 unfold ZM
 rw [List.map_append,List.filter_append]
theorem Zch (ns:List Nd) (ks:List Int) (k:Int) (i:Nat) (j:Int) (h:ks[i]? = some j):ZM ns (ks.take (i+1)) k=ZM ns (ks.take i) k++(if (Zu ns j).kind=k then [Zu ns j] else []):=by
 rw [List.take_add_one,h,ZeF]
 congr 1
 show ZM ns [j] k=_
 rw [Zgf]
 split<;>rfl
end
section
open Go.RowKit
def Zbx (F:Nat):Prop:=∀ (args:Array Value) (w:World),Sem.run Tryz.prog (callFunc F args) w=.ok (.enter F args) w
theorem Zce {f:FuncId} {fn:Func} {c:Code} (hf:Tryz.prog.funcs[f]? = some fn) (hname:(fn.name=="runtime.NumGoroutine")=false) (hb:fn.body=some c):Zbx f:=fun args w=>by
 have h1:fn.name≠"runtime.NumGoroutine":=by simpa using hname
 simp [callFunc,hf,h1,hb,go_sem]
abbrev ndW (x:NdV×Nd):Value:=.agg #[.int .i64 x.2.kind,x.1.1,x.1.2.1,x.1.2.2,.int .i64 x.2.pos]
def Zej (ks:List Int) (n:Nat):Prop:=∀ k∈ks,0<=k/\k<(n:Int)
theorem ZcA (F:Nat) (caps:Array Value) (hF:Zbx F) (w0 w:World) (Al:Option Addr) (cl:Nat) (rs:List (NdV×Nd)) (x:NdV×Nd) (kind:Int) (R:Nat->World->Prop)
  (hR:Zr w0 w0.heap.size 5 Al rs.length (Zs rs)) (hN:∀ y∈rs,ZJ w0 y) (hl:rs.length<=maxLen) (hx:ZJ w0 x) (hk:Zej x.2.kids rs.length) (hb:Below w0.heap.size w0 w) (h0:R 0 w) (hS:∀ (k:Nat) (w w':World),R k w->Below w.heap.size w w'->R k w')
  (hf:∀ (i:Nat) (j:Nat) (y:NdV×Nd) (wr:World),x.2.kids[i]? = some (j:Int)->rs[j]? = some y->Below w0.heap.size w0 wr->R i wr ->
   (y.2.kind=kind->Calls Tryz.prog F (#[ndW y]++caps) wr fun e w'=>e=.returned (.tuple #[])/\Below w0.heap.size w0 w'/\R (i+1) w')/\(y.2.kind≠kind->R (i+1) wr)) :
  Calls Tryz.prog 21 #[.slice Al rs.length cl,ndW x,.int .i64 kind,.func (.func F) #[] caps] w fun e w'=>e=.returned (.tuple #[])/\Below w0.heap.size w0 w'/\R x.2.kids.length w':=by
 obtain ⟨⟨xw,xu,xk⟩,kd,ws,nums,ks,ps⟩:=x
 obtain ⟨hx1,hx2,hx3⟩:=hx
 dsimp only at hx1 hx2 hx3 hk hf ⊢
 obtain ⟨Aw,cw,rfl,_⟩:=hx1
 obtain ⟨Au,cu,rfl,_⟩:=hx2
 obtain ⟨Ak,ck,rfl,hk1,hk2,hK⟩:=hx3
 have a1:=below_alloc1 w (.cells #[.int .i64 kd,.slice Aw ws.length cw,.slice Au nums.length cu,.slice Ak ks.length ck,.int .i64 ps] 27)
 have B1:=Blk.start w #[.int .i64 kd,.slice Aw ws.length cw,.slice Au nums.length cu,.slice Ak ks.length ck,.int .i64 ps] 27
 have HO:=zh (zi hR (zi hN (zi hl (zi hk (zi hK (zi hf (zi hk1 hk2)))))))
 have S0:=zh (zi (hb.trans (a1.mono hb.size)) (hS 0 _ _ h0 a1))
 clear hR hN hl hk hK hf hb h0 hk1 hk2 a1 hS
 go_enter Tryz.func21,Tryz.ntmps21
 go_upto_region 1 with fail
 generalize w.alloc (.cells #[.int .i64 kd,.slice Aw ws.length cw,.slice Au nums.length cu,.slice Ak ks.length ck,.int .i64 ps] 27)=W at *
 have c3:=B1.cell 3
 simp only [List.getElem?_toArray,List.getElem?_cons_zero,List.getElem?_cons_succ] at c3
 clear B1
 go_wp2_with fail
 go_loopg [13] ks.length (fun g v13 wr=>∃ k:Nat,v13=.int .i64 k/\k<=ks.length/\g=ks.length-k/\Below w0.heap.size w0 wr/\R k wr)
 case atStart=>exact ⟨0,rfl,Nat.zero_le _,rfl,S0.out.1,S0.out.2⟩
 case round=>
  obtain ⟨k,rfl,hkk,hg,hb,hr⟩:=hrel
  by_cases hkn:k=ks.length
  ·have j1:decide (k<ks.length)=false:=decide_eq_false (by omega)
   have FIN:=zh (zi hb (show R ks.length wr by rw [<- hkn];exact hr))
   clear hkk hg hb hr hkn
   go_wp2_with fail
   go_end0
   exact ⟨rfl,FIN.out⟩
  ·have hlt:k<ks.length:=by omega
   obtain ⟨y,hy⟩:∃ y,ks[k]? = some y:=⟨_,List.getElem?_eq_getElem hlt⟩
   obtain ⟨hy0,hyn⟩:=HO.out.2.2.2.1 y (List.mem_of_getElem? hy)
   obtain ⟨j,rfl⟩:=Int.eq_ofNat_of_zero_le hy0
   have hnl:j<rs.length:=by omega
   obtain ⟨r,hrj⟩:∃ r,rs[j]? = some r:=⟨_,List.getElem?_eq_getElem hnl⟩
   obtain ⟨ak,rfl,q0⟩:=ints_at HO.out.2.2.2.2.1 hb hy (by omega)
   obtain ⟨an,rfl,n0,n1,n2,n3,n4⟩:=ZS HO.out.1 hb hrj (by omega)
   obtain ⟨h61,h62,h63⟩:=HO.out.2.1 r (List.mem_of_getElem? hrj)
   have CF:=HO.out.2.2.2.2.2.1 k j r wr hy hrj hb hr
   obtain ⟨⟨yw,yu,yk⟩,kd2,ws2,nums2,ks2,ps2⟩:=r
   dsimp only at h61 h62 h63 n0 n1 n2 n3 n4 CF
   obtain ⟨Bw,dw,rfl,_⟩:=h61
   obtain ⟨Bu,du,rfl,_⟩:=h62
   obtain ⟨Bk,dk,rfl,_⟩:=h63
   have j1:(k:Int)<(ks.length:Int):=by omega
   have j2:(0:Int)<=(k:Int):=by omega
   have i1:(j:Int)<(rs.length:Int):=by omega
   have i2:(0:Int)<=(j:Int):=by omega
   have wk:IntKind.i64.wrap ((k:Int)+1)=(k:Int)+1:=IntWalk.i64_in _ (by have:=HO.out.2.2.2.2.2.2.1;have:=HO.out.2.2.2.2.2.2.2;have e:maxLen=9223372036854775807:=rfl;omega)
   have HK:=zh (zi hlt (zi hg hb))
   by_cases q:kd2=kind
   ·have C1:=zh (CF.1 q)
    have q2:(kd2==kind)=true:=beq_iff_eq.mpr q
    have door:=hF
    unfold Zbx at door
    clear hkn hlt hkk hg hb hr hy hrj CF q hy0 hyn hnl
    unfold ndW at C1
    dsimp only at C1
    go_wp2_with (with_reducible refine C1.out.mono ?_;rintro e w1 ⟨rfl,hb1,hr1⟩;have H1:=zh (zi hb1 hr1);clear hb1 hr1)
    go_roundg (ks.length-(k+1))
    case measure=>have:=HK.out.1;have:=HK.out.2.1;omega
    case rel=>exact ⟨k+1,by push_cast;rfl,HK.out.1,rfl,H1.out⟩
   ·have C1:=zh (CF.2 q)
    have q2:(kd2==kind)=false:=beq_eq_false_iff_ne.mpr q
    clear hkn hlt hkk hg hb hr hy hrj CF q hy0 hyn hnl
    go_wp2_with fail
    go_roundg (ks.length-(k+1))
    case measure=>have:=HK.out.1;have:=HK.out.2.1;omega
    case rel=>exact ⟨k+1,by push_cast;rfl,HK.out.1,rfl,HK.out.2.2,C1.out⟩
end
end Go.Proofs.YtkgkmdhpnhmcpaaGreatDoor
