import Derived.Deep.RegionLaw
import Derived.Lib.SliceRun
import Derived.Deep.CutRange
import Derived.Test.YtolookeddknmoaaGreatQAS
import Derived.Test.YtolookeddknmoaaGreatQAU
import Derived.Test.YtolookeddknmoaaGreatQAV
import Derived.Test.YtolookeddknmoaaGreatQAW
set_option maxRecDepth 100000
set_option maxHeartbeats 8000000
namespace Go.Proofs.YtolookeddknmoaaGreat
section
open Go.RowKit
theorem ZdE {base size g n cap:Nat} {e:TypeId}:∀ (vs:List Value) (o:Nat) (w:World) (xs:List Value),w.ownsRow base e size (.slice (some ⟨g,0,none⟩) n cap) n xs->o+vs.length<=xs.length ->
  (w.setCells g o vs).ownsRow base e size (.slice (some ⟨g,0,none⟩) n cap) n (xs.take o++vs++xs.drop (o+vs.length))/\w.grownBy (w.setCells g o vs) (some g)
 | [],o,w,xs,h,_=>by
  rw [List.append_nil,List.length_nil,Nat.add_zero,List.take_append_drop]
  exact ⟨h,World.grownBy.refl w _⟩
 | v::vs,o,w,xs,h,hl=>by
  rw [List.length_cons] at hl
  obtain ⟨a,b⟩:=h.stored o v
  obtain ⟨c,d⟩:=ZdE vs (o+1) (w.setCell ⟨g,o,none⟩ v) (xs.set o v) a (by rw [List.length_set];omega)
  refine ⟨?_,Zaa b d⟩
  have e:(xs.set o v).take (o+1)++vs++(xs.set o v).drop (o+1+vs.length)=xs.take o++v::vs++xs.drop (o+(v::vs).length):=by
   rw [List.take_add_one,List.getElem?_set_self (by omega),List.take_set_of_le (Nat.le_refl _),List.drop_set_of_lt (by omega),List.length_cons,show o+(vs.length+1)=o+1+vs.length by omega]
   simp
  rw [<- e]
  exact c
theorem ZpJ {base size g n cap m:Nat} {e:TypeId} {w:World} {xs:List Value} (h:w.ownsRow base e size (.slice (some ⟨g,0,none⟩) n cap) n xs) (hm:m<=n):w.ownsRow base e size (.slice (some ⟨g,0,none⟩) m cap) m (xs.take (m*size)):=by
 have hl:=h.1
 have hk:m*size<=n*size:=Nat.mul_le_mul_right _ hm
 rcases h.2 with ⟨q,_⟩ | ⟨g',cap',cur,q,hb,hg,hc,hx,hs,ht⟩
 ·cases q
 ·simp only [Value.slice.injEq,Option.some.injEq,Addr.mk.injEq,and_true,true_and] at q
  obtain ⟨rfl,rfl⟩:=q
  refine ⟨by rw [List.length_take];omega,.inr ⟨g,cap,cur,rfl,hb,hg,by omega,hx,hs,?_⟩⟩
  rw [<- ht,List.take_take,Nat.min_eq_left hk]
theorem ZfO:∀ (l:List (Value×Trm)) (k:Nat),Zg (l.take k)=(Zg l).take (k*3)
 | [],k=>by simp [Zg]
 | x::r,0=>by simp [Zg]
 | x::r,k+1=>by
  rw [List.take_succ_cons,Zg,Zg,ZfO r k,show (k+1)*3=k*3+1+1+1 by omega,List.take_succ_cons,List.take_succ_cons,List.take_succ_cons]
theorem ZfN:∀ (l:List (Value×Trm)) (k:Nat),Zg (l.drop k)=(Zg l).drop (k*3)
 | [],k=>by simp [Zg]
 | x::r,0=>by simp
 | x::r,k+1=>by
  rw [List.drop_succ_cons,Zg,ZfN r k,show (k+1)*3=k*3+1+1+1 by omega,List.drop_succ_cons,List.drop_succ_cons,List.drop_succ_cons]
theorem Zl3 {w:World} {base g n cap i:Nat} {ts:List Trm} {S:Nat->Prop} (hS:S g) (hi:i<n) (zs:List Value) (hz:zs.length=3) (rs:List (Value×Trm)) (h1:rs.map (·.2)=ts) (h2:w.ownsRow base 27 3 (.slice (some ⟨g,0,none⟩) n cap) n (Zg rs)) (h3:∀ x∈rs,Zb w x.1 x.2.1/\Off S x.1 x.2.1) :
  ZY ((w.setCells g (i*3) (Zg (rs.drop (i+1)))).setCells g ((n-1)*3) zs) base (.slice (some ⟨g,0,none⟩) (n-1) cap) (ts.eraseIdx i) S/\w.grownBy ((w.setCells g (i*3) (Zg (rs.drop (i+1)))).setCells g ((n-1)*3) zs) (some g):=by
 have hn:rs.length=n:=by have:=h2.1;rw [Zcb] at this;omega
 have hl:(Zg (rs.drop (i+1))).length=(n-(i+1))*3:=by rw [Zcb,List.length_drop,hn]
 have hlr:(Zg rs).length=n*3:=by rw [Zcb,hn]
 obtain ⟨a,b⟩:=ZdE (Zg (rs.drop (i+1))) (i*3) w _ h2 (by rw [hl,hlr];omega)
 obtain ⟨c,d⟩:=ZdE zs ((n-1)*3) _ _ a (by simp only [List.length_append,List.length_take,List.length_drop,hl,hlr,hz];omega)
 have hg:=Zaa b d
 have e:=ZpJ c (m:=n-1) (by omega)
 have he:ts.eraseIdx i=(rs.eraseIdx i).map (·.2):=by rw [<- h1,List.eraseIdx_eq_take_drop_succ,List.eraseIdx_eq_take_drop_succ,List.map_append,List.map_take,List.map_drop]
 have hlen:(rs.eraseIdx i).length=n-1:=by rw [List.length_eraseIdx,if_pos (by omega),hn]
 refine ⟨⟨rs.eraseIdx i,he.symm,?_,fun x hx=>?_⟩,hg⟩
 ·rw [he,List.length_map,hlen]
  have key:Zg (rs.eraseIdx i)=(((Zg rs).take (i*3)++Zg (rs.drop (i+1))++(Zg rs).drop (i*3+(Zg (rs.drop (i+1))).length)).take ((n-1)*3)++zs++((Zg rs).take (i*3)++Zg (rs.drop (i+1))++(Zg rs).drop (i*3+(Zg (rs.drop (i+1))).length)).drop ((n-1)*3+zs.length)).take ((n-1)*3):=by
   have l1:((Zg rs).take (i*3)++Zg (rs.drop (i+1))).length=(n-1)*3:=by simp only [List.length_append,List.length_take,hl,hlr];omega
   rw [List.append_assoc,List.take_append_of_le_length (by simp only [List.length_take,List.length_append,List.length_drop,hl,hlr];omega),List.take_take,Nat.min_self,List.take_append_of_le_length (by rw [l1];exact Nat.le_refl _),List.take_of_length_le (by rw [l1];exact Nat.le_refl _),List.eraseIdx_eq_take_drop_succ,Zdk,ZfO]
  rw [key]
  exact e
 ·have:=h3 x (List.mem_of_mem_eraseIdx hx)
  exact ⟨this.1.off this.2 hg (fun b e=>by injection e with e;exact e▸hS),this.2⟩
theorem Zkm (w:World) (ty:TypeId) (b o c:Nat) (hc:∀ j,j<3->(w.cell? ⟨b,o+j,none⟩).isSome=true) (hf:∀ j,j<3->w.frozen? ⟨b,o+j,none⟩=false) :
  (Builtin.clear_ #[49] ty #[.slice (some ⟨b,o,none⟩) 1 c]).run Tryz.prog w=.ok (.tuple #[]) (w.setCells b o [.slice none 0 0,.int .i64 0,.int .i64 0]):=by
 have hzc:(Builtin.zeroCells (Value.agg #[.slice none 0 0,.int .i64 0,.int .i64 0]).cells 1).toList=[.slice none 0 0,.int .i64 0,.int .i64 0]:=by kernel_rfl
 have hst:=run_storeCells_cells (P:=Tryz.prog) b o [.slice none 0 0,.int .i64 0,.int .i64 0] 0 w (by simpa using hc) (by simpa using hf) (by intro v hv;simp at hv;rcases hv with rfl | rfl | rfl<;>rfl)
 simp only [Nat.add_zero] at hst
 simp [Builtin.clear_,run_underlying Tryz.underlying49,hzc,hst]
def ZnS (w:World) (base g n cap:Nat) (ts:List Trm) (S:Nat->Prop) (e:Ending) (w':World):Prop:=
 e=.returned (.slice (some ⟨g,0,none⟩) (n-1) cap)/\ZY w' base (.slice (some ⟨g,0,none⟩) (n-1) cap) ts S/\w.grownBy w' (some g)
theorem Zmk (w:World) (base g n cap i:Nat) (ts:List Trm) (S:Nat->Prop) (h:ZY w base (.slice (some ⟨g,0,none⟩) n cap) ts S) (hS:S g) (hi:i<n) :
  Calls Tryz.prog 51 #[.slice (some ⟨g,0,none⟩) n cap,.int .i64 i,.int .i64 ((i:Int)+1)] w (ZnS w base g n cap (ts.eraseIdx i) S):=by
 obtain ⟨i0,hi0,hz0,hz1,hz2⟩:=info_parts Zf3
 have hd:ZY w.drew base (.slice (some ⟨g,0,none⟩) n cap) ts S:=h.below (Zq _)
 obtain ⟨rs,h1,h2,h3⟩:=hd
 have e:ts.length=n:=by
  rcases h2.2 with ⟨q,_⟩ | ⟨g',cap',cur,q,_⟩
  ·cases q
  ·injection q with _ q _;exact q.symm
 rw [e] at h2
 obtain ⟨hnc,hcm⟩:n<=cap/\cap<=maxLen:=by
  rcases h2.2 with ⟨q,_⟩ | ⟨g',cap',cur,q,_,_,q1,q2,_⟩
  ·cases q
  ·injection q with _ _ q;exact ⟨q▸q1,q▸q2⟩
 have hrn:rs.length=n:=by rw [<- e,<- h1,List.length_map]
 have one:∀ u∈Zg (rs.drop (i+1)),u.oneCell'=true:=Zen _ fun x hx=>by
  obtain ⟨A',c',e⟩:=Zd (h3 x (List.mem_of_mem_drop hx)).1
  exact ⟨_,_,_,e⟩
 have hlen:(Zg (rs.drop (i+1))).length=(n-(i+1))*3:=by rw [Zcb,List.length_drop,hrn]
 have hcell:∀ j u,(Zg rs)[j]? = some u->w.drew.cell? ⟨g,j,none⟩=some u:=fun j u hu=>by
  have hj:j<n*3:=by
   rcases Nat.lt_or_ge j (Zg rs).length with q | q
   ·rw [h2.1] at q;exact q
   ·rw [List.getElem?_eq_none q] at hu;cases hu
  rw [h2.cellAt j hj,hu]
 obtain ⟨A,hA,hnews⟩:∃ A:Addr,(if cap=i+1 then some (⟨g,0,none⟩:Addr) else some ⟨g,(i+1)*3,none⟩)=some A/\Hid (∀ j u,(Zg (rs.drop (i+1)))[j]? = some u->w.drew.cell? (A.add j)=some u):=by
  by_cases q:cap=i+1
  ·refine ⟨⟨g,0,none⟩,by simp [q],fun j u hu=>?_⟩
   have h0:(Zg (rs.drop (i+1))).length=0:=by rw [hlen];omega
   rw [List.length_eq_zero_iff.1 h0] at hu
   simp at hu
  ·refine ⟨⟨g,(i+1)*3,none⟩,by simp [q],fun j u hu=>?_⟩
   rw [Addr.add_lit]
   rw [ZfN,List.getElem?_drop] at hu
   exact hcell _ _ hu
 have s1:Hid ((Zg (rs.drop (i+1))).length=(n-(i+1))*3):=hlen
 have s2:Hid (∀ u∈Zg (rs.drop (i+1)),u.oneCell'=true):=one
 have s3:Hid (∀ j,j<(Zg (rs.drop (i+1))).length->(w.drew.cell? ⟨g,0+i*3+j,none⟩).isSome=true/\w.drew.frozen? ⟨g,0+i*3+j,none⟩=false):=by
  intro j hj
  rw [hlen] at hj
  exact ⟨by rw [h2.cellAt _ (by omega),List.getElem?_eq_getElem (by rw [h2.1];omega)];rfl,h2.frozenAt _⟩
 obtain ⟨W1,hW1⟩:∃ W1,W1=w.drew.setCells g (0+i*3) (Zg (rs.drop (i+1))):=⟨_,rfl⟩
 have own1:W1.ownsRow base 27 3 (.slice (some ⟨g,0,none⟩) n cap) n ((Zg rs).take (0+i*3)++Zg (rs.drop (i+1))++(Zg rs).drop (0+i*3+(Zg (rs.drop (i+1))).length)):=by
  rw [hW1]
  exact (ZdE _ _ _ _ h2 (by rw [hlen,h2.1];omega)).1
 have hl1:=own1.1
 have hcl:∀ ty,(Builtin.clear_ #[49] ty #[.slice (some ⟨g,(i+(n-(i+1)))*3,none⟩) (n-(i+(n-(i+1)))) (cap-(i+(n-(i+1))))]).run Tryz.prog W1=.ok (.tuple #[]) (W1.setCells g ((i+(n-(i+1)))*3) [.slice none 0 0,.int .i64 0,.int .i64 0]):=by
  intro ty
  rw [show n-(i+(n-(i+1)))=1 by omega]
  exact Zkm W1 ty g _ _ (fun j hj=>by rw [own1.cellAt _ (by omega),List.getElem?_eq_getElem (by rw [hl1];omega)];rfl) (fun j _=>own1.frozenAt _)
 have fin:ZnS w base g n cap (ts.eraseIdx i) S (.returned (.slice (some ⟨g,0,none⟩) (i+(n-(i+1))) cap)) (W1.setCells g ((i+(n-(i+1)))*3) [.slice none 0 0,.int .i64 0,.int .i64 0]):=by
  rw [hW1,show i+(n-(i+1))=n-1 by omega,Nat.zero_add]
  obtain ⟨p,q⟩:=Zl3 (i:=i) hS hi [.slice none 0 0,.int .i64 0,.int .i64 0] rfl rs h1 h2 h3
  exact ⟨rfl,p,Zaa (Zac (Zq _) _) q⟩
 have FIN:=Lib.hid fin
 have HW:=Lib.hid hW1
 have hic:i<=cap:=by omega
 have hwr:IntKind.i64.wrap ((i:Int)+1)=(i:Int)+1:=IntWalk.i64_in _ (by unfold maxLen at hcm;omega)
 have hp0:(0:Int)<=(i:Int)+1:=by omega
 have hp1:(i:Int)+1<=(n:Int):=by omega
 have hp2:((i:Int)+1).toNat=i+1:=by omega
 have hp3:(i:Int)<=(i:Int)+1:=by omega
 have hp4:(n:Int)<=(cap:Int):=by omega
 have hp5:((i:Int)==(i:Int)+1)=false:=by rw [beq_eq_false_iff_ne];omega
 clear own1 hl1 fin hW1 h h1 h2 h3 hS hrn one hlen hcell e
 go_enter Tryz.func51,Tryz.ntmps51
 go_wp2_with fail
 go_region_law (refine step_append_room rfl (.tmp 22) (.tmp 25) 49 rfl 27 i0 3 Tryz.underlying49 hi0 hz1 g 0 i cap (by simp [Act.eval,Act.put]) A (n-(i+1)) (cap-(i+1)) (Zg (rs.drop (i+1))) (by simp [Act.eval,Act.put]) s1.out hnews.out s2.out (by omega) s3.out ?_;rw [<- HW.out])
 go_wp2_with fail
 go_ret
 exact FIN.out
end
section
open Go.RowKit
abbrev ZbY:=List Trm×List Trm×List Int
def ZM (t:Trm) (v:Int):List (Int×Int)×(Int×Int)×Int:=Zh t.1 t.2 (Zb7 (atL t.1 v))
def ZaB (s:ZbY) (v:Int):Option ZbY:=
 match s.1.findIdx? (Zbb v) with
 | none=>some s
 | some i=>(s.1[i]?).bind fun t=>
  if (ZM t v).2.2=0 then
   (Zak (ZQ ((ZM t v).1,(ZM t v).2.1) v) (s.1.eraseIdx i)).bind fun l=>
   (Zak (ZQ ((ZM t v).1,(ZM t v).2.1) v) s.2.1).map fun q=>(l,q++[((ZM t v).1,(ZM t v).2.1)],s.2.2++[v])
  else none
def Zat (ts:List Trm):Nat->Option ZbY
 | 0=>some (ts,[],[])
 | k+1=>(Zat ts k).bind fun s=>ZaB s k
def Zy (ts:List Trm):(List Trm×List Int)×Int:=
 if ts.length<=400/\ts.any ZW=false then
  match Zat ts 8 with
  | none=>(([],[]),2)
  | some s=>if s.1.any prK=true then (([],[]),1) else ((s.2.1,s.2.2),0)
 else (([],[]),2)
theorem Zfy {t:Trm} {v:Int} (h:TrmOk t) (hv:Zbb v t=true) (e:(ZM t v).2.2=0):TrmOk ((ZM t v).1,(ZM t v).2.1):=by
 have hn:(atL t.1 v).1≠0:=by unfold Zbb at hv;simpa using hv
 obtain ⟨_,_,_,_,P⟩:=Zcm h.ok.wide h.k.wide (ZeD (h.ok.at v) hn).wide e
 exact ⟨P.ok,P.okk,P.len⟩
structure SolOk (n k:Nat) (s:ZbY):Prop where
 l:∀ t∈s.1,TrmOk t
 q:∀ t∈s.2.1,TrmOk t
 len:s.1.length+s.2.1.length=n
 ql:s.2.1.length=s.2.2.length
 k:s.2.2.length<=k
theorem Zdz {pr:Trm->Bool} {l:List Trm} {i:Nat} (h:l.findIdx? pr=some i):∃ t,l[i]? = some t/\pr t=true:=by
 obtain ⟨hl,hp,_⟩:=List.findIdx?_eq_some_iff_getElem.1 h
 exact ⟨l[i],List.getElem?_eq_getElem hl,hp⟩
theorem Zlp {n k:Nat} {s r:ZbY} {v:Int} (h:SolOk n k s) (e:ZaB s v=some r):SolOk n (k+1) r:=by
 unfold ZaB at e
 split at e
 ·obtain rfl:=Option.some.inj e
  exact ⟨h.l,h.q,h.len,h.ql,by have:=h.k;omega⟩
 ·rename_i i hi
  obtain ⟨t,ht,hp⟩:=Zdz hi
  rw [ht,Option.bind_some] at e
  split at e
  ·rename_i he
   rw [Option.bind_eq_some_iff] at e
   obtain ⟨l,hl,e⟩:=e
   obtain ⟨q,hq,rfl⟩:=Option.map_eq_some_iff.1 e
   have hd:=Zfy (h.l t (List.mem_of_getElem? ht)) hp he
   have hi2:i<s.1.length:=by
    rcases Nat.lt_or_ge i s.1.length with g | g
    ·exact g
    ·rw [List.getElem?_eq_none g] at ht;cases ht
   have a:=Zc0 hl
   have b:=Zc0 hq
   rw [List.length_eraseIdx,if_pos hi2] at a
   refine ⟨Zjh hd (fun u hu=>h.l u (List.mem_of_mem_eraseIdx hu)) hl,fun u hu=>?_,?_,?_,?_⟩
   ·rcases List.mem_append.1 hu with g | g
    ·exact Zjh hd h.q hq u g
    ·rw [List.mem_singleton] at g
     rw [g]
     exact hd
   ·have:=h.len
    simp only [List.length_append,List.length_singleton]
    omega
   ·have:=h.ql
    simp only [List.length_append,List.length_singleton]
    omega
   ·have:=h.k
    simp only [List.length_append,List.length_singleton]
    omega
  ·cases e
theorem ZcC {ts:List Trm} (h:∀ t∈ts,TrmOk t):∀ (k:Nat) (s:ZbY),Zat ts k=some s->SolOk ts.length k s
 | 0,s,e=>by
  obtain rfl:=Option.some.inj e
  exact ⟨h,(fun _ ht=>by cases ht),rfl,rfl,Nat.le_refl _⟩
 | k+1,s,e=>by
  rw [Zat,Option.bind_eq_some_iff] at e
  obtain ⟨r,hr,e⟩:=e
  exact Zlp (ZcC h k r hr) e
theorem Zpq {pr:Trm->Bool} {l:List Trm} (h:l.any pr=false):l.findIdx? pr=none:=by
 rw [List.findIdx?_eq_none_iff]
 intro x hx
 exact Bool.eq_false_iff.2 fun q=>by rw [List.any_eq_true.2 ⟨x,hx,q⟩] at h;cases h
theorem ZkV {pr:Trm->Bool} {l:List Trm} {i:Nat} {t:Trm} (ht:l[i]? = some t) (hp:pr t=true) (h:(l.take i).any pr=false):l.findIdx? pr=some i:=by
 have hl:i<l.length:=by
  rcases Nat.lt_or_ge i l.length with g | g
  ·exact g
  ·rw [List.getElem?_eq_none g] at ht;cases ht
 have et:l[i]=t:=by rw [List.getElem?_eq_getElem hl] at ht;exact Option.some.inj ht
 refine List.findIdx?_eq_some_iff_getElem.2 ⟨hl,by rw [et];exact hp,fun j hj=>?_⟩
 intro q
 have:(l.take i).any pr=true:=List.any_eq_true.2 ⟨l[j],by rw [List.mem_iff_getElem?];exact ⟨j,by rw [List.getElem?_take,if_pos hj];exact List.getElem?_eq_getElem (by omega)⟩,q⟩
 rw [h] at this
 cases this
theorem Zh1 {ts:List Trm} {k:Nat}:∀ d,Zat ts k=none->Zat ts (k+d)=none
 | 0,h=>h
 | d+1,h=>by rw [<- Nat.add_assoc,Zat,Zh1 d h];rfl
theorem Zfl {ts:List Trm} {k:Nat} (hk:k<=8) (h:Zat ts k=none):Zy ts=(([],[]),2):=by
 have:=Zh1 (8-k) h
 rw [show k+(8-k)=8 by omega] at this
 unfold Zy
 rw [this]
 split<;>rfl
theorem Zgn {ts:List Trm} (h:¬ (ts.length<=400/\ts.any ZW=false)):Zy ts=(([],[]),2):=if_neg h
def ZbQ (l:List Int):List Value:=l.map (Value.int .i64)
def ZaT (w:World) (v:Value) (l:List Int):Prop:=∃ A c,v=.slice A l.length c/\l.length<=c/\c<=maxLen/\ZB w w.heap.size 1 A l.length (ZbQ l)
theorem ZaT.below {w w':World} {v:Value} {l:List Int} (h:ZaT w v l) (hb:Below w.heap.size w w'):ZaT w' v l:=by
 obtain ⟨A,c,h1,h2,h3,h4⟩:=h
 exact ⟨A,c,h1,h2,h3,(h4.below hb).more hb.size⟩
theorem ZaT.nil (w:World):ZaT w (.slice none 0 0) []:=⟨none,0,rfl,Nat.le_refl _,by decide,ZB.none_⟩
theorem ZdU {w:World} {base:Nat} {l:List Int} {v:Value} (h:w.ownsRow base 3 1 v l.length (ZbQ l)):ZaT w v l:=by
 have h0:=h
 rcases h.2 with ⟨rfl,hn⟩ | ⟨g,cap,cur,rfl,_,hh,hnc,hrest⟩
 ·have:l=[]:=List.eq_nil_of_length_eq_zero (by simpa using hn)
  subst this
  exact ZaT.nil w
 ·exact ⟨some _,cap,rfl,hnc,hrest.1,ZB.of_own h0⟩
theorem ZbL {w wr:World} {A:Option Addr} {n k:Nat} {l:List Int} {x:Int} (h4:ZB w w.heap.size 1 A n (ZbQ l)) (hb:Below w.heap.size w wr) (hx:l[k]? = some x) (hn:0<n) :
  ∃ ad,A=some ad/\wr.cell? (ad.add k)=some (.int .i64 x):=by
 obtain ⟨ad,e,hbk,hc⟩:=h4.2 hn
 exact ⟨ad,e,(hb.cell (p:=ad.add k) (by rw [ZL];exact hbk)).trans (hc _ _ (by rw [ZbQ,List.getElem?_map,hx];rfl))⟩
def three (vl vs vp:Value) (b:Nat):Prop:=vl.ownBlock=some b\/vs.ownBlock=some b\/vp.ownBlock=some b
structure SolS (W w:World) (vl vs vp:Value) (L Q:List Trm) (P:List Int):Prop where
 l:ZY w W.heap.size vl L (three vl vs vp)
 s:ZY w W.heap.size vs Q (three vl vs vp)
 p:w.ownsRow W.heap.size 3 1 vp P.length (ZbQ P)
 ls:∀ b,vl.ownBlock=some b->vs.ownBlock≠some b
 lp:∀ b,vl.ownBlock=some b->vp.ownBlock≠some b
 sp:∀ b,vs.ownBlock=some b->vp.ownBlock≠some b
 below:Below W.heap.size W w
section
variable {W w w':World} {vl vs vp vl' vs' vp':Value} {L Q L' Q':List Trm} {P P':List Int}
theorem SolS.keep (h:SolS W w vl vs vp L Q P) (hb:Below w.heap.size w w'):SolS W w' vl vs vp L Q P:=
 ⟨h.l.below hb,h.s.below hb,h.p.kept (Zac hb none) (by cases hv:vp.ownBlock<;>simp),h.ls,h.lp,h.sp,h.below.trans (hb.mono h.below.size)⟩
theorem SolS.lt (h:SolS W w vl vs vp L Q P):∀ b,three vl vs vp b->W.heap.size<=b/\b<w.heap.size:=by
 intro b hb
 rcases hb with g | g | g
 ·exact h.l.lt b g
 ·exact h.s.lt b g
 ·exact h.p.lt b g
theorem SolS.left (h:SolS W w vl vs vp L Q P) (hl:ZY w' W.heap.size vl' L' (three vl vs vp)) (hg:w.grownBy w' vl.ownBlock) (e:vl'.ownBlock=vl.ownBlock):SolS W w' vl' vs vp L' Q P:=by
 have e3:three vl' vs vp=three vl vs vp:=by unfold three;rw [e]
 refine ⟨by rw [e3];exact hl,by rw [e3];exact h.s.other hg fun b hb=>⟨.inl hb,h.ls b hb⟩,h.p.kept hg ?_,by rw [e];exact h.ls,by rw [e];exact h.lp,h.sp,h.below.grown hg h.below.size fun k hk=>(h.l.lt k hk).1⟩
 cases q:vl.ownBlock with
 | none=>cases hv:vp.ownBlock<;>simp
 | some b=>exact .inr (h.lp b q)
theorem SolS.sel (h:SolS W w vl vs vp L Q P) (hs:ZY w' W.heap.size vs' Q' (three vl vs vp)) (hg:w.grownBy w' vs.ownBlock) (e:vs'.ownBlock=vs.ownBlock):SolS W w' vl vs' vp L Q' P:=by
 have e3:three vl vs' vp=three vl vs vp:=by unfold three;rw [e]
 refine ⟨by rw [e3];exact h.l.other hg fun b hb=>⟨.inr (.inl hb),fun q=>h.ls b q hb⟩,by rw [e3];exact hs,h.p.kept hg ?_,by rw [e];exact h.ls,h.lp,by rw [e];exact h.sp,h.below.grown hg h.below.size fun k hk=>(h.s.lt k hk).1⟩
 cases q:vs.ownBlock with
 | none=>cases hv:vp.ownBlock<;>simp
 | some b=>exact .inr (h.sp b q)
theorem SolS.push {vt:Value} {t:Trm} {rs:List (Value×Trm)} (h:SolS W w vl vs vp L Q P) (h1:rs.map (·.2)=Q) (h3:∀ x∈rs,Zb w x.1 x.2.1/\Off (three vl vs vp) x.1 x.2.1) (hown:w'.ownsRow W.heap.size 27 3 vs' (Q.length+1) (Zg rs++[vt,.int .i64 t.2.1,.int .i64 t.2.2]))
  (hg:w.grownBy w' vs.ownBlock) (hv:vs'.ownBlock=vs.ownBlock\/vs'.ownBlock=some w.heap.size) (hr:Zb w vt t.1) (ho:Off (three vl vs vp) vt t.1):SolS W w' vl vs' vp L (Q++[t]) P:=by
 have hs3:∀ b,three vl vs' vp b->three vl vs vp b\/w.heap.size<=b:=by
  intro b hb
  rcases hb with g | g | g
  ·exact .inl (.inl g)
  ·rcases hv with e | e
   ·exact .inl (.inr (.inl (e▸g)))
   ·rw [e] at g
    injection g with g
    exact .inr (by omega)
  ·exact .inl (.inr (.inr g))
 have a:=ZY.appended (S:=three vl vs vp) (S':=three vl vs' vp) h1 h3 hown hg (fun b hb=>.inr (.inl hb)) hr ho hs3
 have lw:=h.lt
 have l0:ZY w W.heap.size vl L (fun b=>three vl vs vp b\/three vl vs' vp b):=h.l.mono fun b hb=>hb.elim .inl (hs3 b)
 refine ⟨(l0.other hg fun b hb=>⟨.inl (.inr (.inl hb)),fun q=>h.ls b q hb⟩).mono fun b hb=>.inl (.inr hb),a,h.p.kept hg ?_,fun b hb=>?_,h.lp,fun b hb=>?_,h.below.grown hg h.below.size fun k hk=>(h.s.lt k hk).1⟩
 ·cases q:vs.ownBlock with
  | none=>cases hv:vp.ownBlock<;>simp
  | some b=>exact .inr (h.sp b q)
 ·rcases hv with e | e
  ·rw [e];exact h.ls b hb
  ·rw [e]
   intro q
   injection q with q
   have:=lw b (.inl hb)
   omega
 ·rcases hv with e | e
  ·rw [e] at hb
   exact h.sp b hb
  ·rw [e] at hb
   injection hb with hb
   intro q
   have:=lw b (.inr (.inr q))
   omega
theorem SolS.pushp {x:Int} (h:SolS W w vl vs vp L Q P) (hown:w'.ownsRow W.heap.size 3 1 vp' (P.length+1) (ZbQ P++[.int .i64 x])) (hg:w.grownBy w' vp.ownBlock) (hv:vp'.ownBlock=vp.ownBlock\/vp'.ownBlock=some w.heap.size):SolS W w' vl vs vp' L Q (P++[x]):=by
 have lw:=h.lt
 have hs3:∀ b,three vl vs vp' b->three vl vs vp b\/w.heap.size<=b:=by
  intro b hb
  rcases hb with g | g | g
  ·exact .inl (.inl g)
  ·exact .inl (.inr (.inl g))
  ·rcases hv with e | e
   ·exact .inl (.inr (.inr (e▸g)))
   ·rw [e] at g
    injection g with g
    exact .inr (by omega)
 have l0:ZY w W.heap.size vl L (fun b=>three vl vs vp b\/three vl vs vp' b):=h.l.mono fun b hb=>hb.elim .inl (hs3 b)
 have s0:ZY w W.heap.size vs Q (fun b=>three vl vs vp b\/three vl vs vp' b):=h.s.mono fun b hb=>hb.elim .inl (hs3 b)
 refine ⟨(l0.other hg fun b hb=>⟨.inl (.inr (.inr hb)),fun q=>h.lp b q hb⟩).mono fun b hb=>.inl (.inr hb),(s0.other hg fun b hb=>⟨.inl (.inr (.inr hb)),fun q=>h.sp b q hb⟩).mono fun b hb=>.inl (.inr hb),?_,h.ls,fun b hb=>?_,fun b hb=>?_,h.below.grown hg h.below.size fun k hk=>(h.p.lt k hk).1⟩
 ·rw [List.length_append,ZbQ,List.map_append]
  exact hown
 ·rcases hv with e | e
  ·rw [e];exact h.lp b hb
  ·rw [e]
   intro q
   injection q with q
   have:=lw b (.inl hb)
   omega
 ·rcases hv with e | e
  ·rw [e];exact h.sp b hb
  ·rw [e]
   intro q
   injection q with q
   have:=lw b (.inr (.inl hb))
   omega
end
theorem Znb:(Tryz.prog.info? 3).map (fun i=>(i.zero,i.size,i.bytes))=some (some (.int .i64 0),1,8):=by kernel_rfl
def Zo3 (w:World) (S:Nat->Prop) (vp:Value) (p:Trm) (i:Int) (e:Ending) (w':World):Prop:=
 ∃ b bp,e=.returned (.func (.func 84) #[] #[.pointer (some ⟨b,0,none⟩),.pointer (some ⟨bp,0,none⟩)])/\ElimIn w' S b bp vp p i/\Below w.heap.size w w'
theorem Zje (w:World) (S:Nat->Prop) (vp:Value) (p:Trm) (i:Int) (hr:Zb w vp p.1) (ho:Off S vp p.1) (hS:∀ b,S b->b<w.heap.size) :
  Calls Tryz.prog 52 #[.agg #[vp,.int .i64 p.2.1,.int .i64 p.2.2],.int .i64 i] w (Zo3 w S vp p i):=by
 have hmf:∀ (fn:Fn) (first cap:Array Value) (w:World),(Instr.makeFunc fn first cap).run Tryz.prog w=.ok (.func fn first cap) w:=fun _ _ _ _=>rfl
 have hb:=ZI w (.cells #[vp,.int .i64 p.2.1,.int .i64 p.2.2] 27) (.cells #[.int .i64 i] 3)
 have F:=(FracBox.start w vp (.int .i64 p.2.1) (.int .i64 p.2.2) 27).keep (Za _ (.cells #[.int .i64 i] 3))
 have hi:((w.alloc (.cells #[vp,.int .i64 p.2.1,.int .i64 p.2.2] 27)).alloc (.cells #[.int .i64 i] 3)).cell? ⟨w.heap.size+1,0,none⟩=some (.int .i64 i):=by go_simp
 have E:ElimIn ((w.alloc (.cells #[vp,.int .i64 p.2.1,.int .i64 p.2.2] 27)).alloc (.cells #[.int .i64 i] 3)) S (w.heap.size+1) w.heap.size vp p i:=
  ⟨hi,F.k0,F.k1,F.k2,hr.below hb,ho,fun q=>by have:=hS _ q;omega,fun q=>by have:=hS _ q;omega⟩
 obtain ⟨A,c,rfl⟩:=Zd hr
 have FIN:=Lib.hid (And.intro E hb)
 clear E hb F hi hr ho hS
 go_enter Tryz.func52,Tryz.ntmps52
 go_wp2_with fail
 go_ret
 exact ⟨_,_,rfl,FIN.out.1,FIN.out.2⟩
end
section
open Go.RowKit
def q (x:Int×Int):Rat:=(x.1:Rat) / (x.2:Rat)
theorem OkR.ne {x:Int×Int} (h:OkR x):(x.2:Rat)≠0:=by
 have:=h.den
 exact_mod_cast (by omega:x.2≠0)
theorem OkR.inj {x y:Int×Int} (hx:OkR x) (hy:OkR y) (h:q x=q y):x=y:=by
 unfold q at h
 have a:=hx.ne
 have b:=hy.ne
 have:(x.1:Rat)*y.2=y.1*x.2:=by grind
 exact hx.ext hy (by exact_mod_cast this)
theorem Zrl {x y z:Int×Int} (hx:OkR x) (hy:OkR y) (hz:OkR z) (h:z.1*(x.2*y.2)=(x.1*y.2+y.1*x.2)*z.2):q z=q x+q y:=by
 unfold q
 have a:=hx.ne
 have b:=hy.ne
 have c:=hz.ne
 have:(z.1:Rat)*(x.2*y.2)=(x.1*y.2+y.1*x.2)*z.2:=by exact_mod_cast h
 grind
theorem Zrm {x y z:Int×Int} (hx:OkR x) (hy:OkR y) (hz:OkR z) (h:z.1*(x.2*y.2)=x.1*y.1*z.2):q z=q x*q y:=by
 unfold q
 have a:=hx.ne
 have b:=hy.ne
 have c:=hz.ne
 have:(z.1:Rat)*(x.2*y.2)=x.1*y.1*z.2:=by exact_mod_cast h
 grind
theorem ZkC {x y:Int×Int} (hx:OkR x) (hy:OkR y) (h:(Zo x y).2=0):OkR (Zo x y).1/\q (Zo x y).1=q x+q y:=by
 obtain ⟨a,b⟩:=Zi6 hx hy h
 exact ⟨a,Zrl hx hy a b⟩
theorem ZiN {x y:Int×Int} (hx:OkR x) (hy:OkR y) (h:(ZT x y).2=0):OkR (ZT x y).1/\q (ZT x y).1=q x*q y:=by
 obtain ⟨a,b⟩:=ZhB hx hy h
 exact ⟨a,Zrm hx hy a b⟩
def ZaE (l m:List (Int×Int)) (kx:Int×Int):Nat->Option (Int×Int)
 | 0=>some kx
 | k+1=>(ZaE l m kx k).bind fun s=>if (ZT (atL l k) (atL m k)).2=0/\(Zo s (ZT (atL l k) (atL m k)).1).2=0 then some (Zo s (ZT (atL l k) (atL m k)).1).1 else none
theorem Zcy {l m:List (Int×Int)} {kx:Int×Int} (hl:ZF l) (hm:ZF m) (hx:OkR kx):∀ (k:Nat) (s:Int×Int),ZaE l m kx k=some s->OkR s
 | 0,s,h=>by
  obtain rfl:kx=s:=by simpa [ZaE] using h
  exact hx
 | k+1,s,h=>by
  rw [ZaE,Option.bind_eq_some_iff] at h
  obtain ⟨a,ha,hb⟩:=h
  split at hb
  ·rename_i g
   obtain rfl:_=s:=Option.some.inj hb
   exact Zbn.ok _ _ (Zcy hl hm hx k a ha) (Zb3.ok _ _ (hl.at k) (hm.at k) g.1) g.2
  ·cases hb
theorem Zj4 {l m:List (Int×Int)} {kx:Int×Int} (hl:ZF l) (hm:ZF m) (hx:OkR kx):∀ d:Nat,ZaE l m kx (min l.length m.length+d)=ZaE l m kx (min l.length m.length)
 | 0=>rfl
 | d+1=>by
  rw [<- Nat.add_assoc,ZaE,Zj4 hl hm hx d]
  cases e:ZaE l m kx (min l.length m.length) with
  | none=>rfl
  | some s=>
   have hs:=Zcy hl hm hx _ _ e
   have hp:ZT (atL l ((min l.length m.length+d:Nat):Int)) (atL m ((min l.length m.length+d:Nat):Int))=((0,1),0):=by
    rcases Nat.le_total l.length m.length with g | g
    ·rw [Zbt (l:=l) (.inr (by omega))]
     exact Zk5 (hm.at _)
    ·rw [Zbt (l:=m) (.inr (by omega))]
     exact ZhC (hl.at _) Zah Zah (by show 0*(_*1)=_*0*1;grind)
   show (if _ then _ else _)=_
   rw [hp,Zc9 hs]
   rfl
theorem Zqy {l m:List (Int×Int)} {kx:Int×Int} (hl:ZF l) (hm:ZF m) (hx:OkR kx) (k:Nat) (h:min l.length m.length<=k):ZaE l m kx k=ZaE l m kx (min l.length m.length):=by
 have:=Zj4 hl hm hx (k-min l.length m.length)
 rwa [show min l.length m.length+(k-min l.length m.length)=k by omega] at this
def ZS (l m:List (Int×Int)) (kx:Int×Int):(Int×Int)×Int:=
 if ZO l kx.1 kx.2=true/\Zbd (m.take 8)=true then
  match ZaE l m kx (min l.length m.length) with
  | some s=>(s,0)
  | none=>((0,0),3)
 else ((0,0),2)
theorem ZkE {m:List (Int×Int)} {n:Nat} {k:Nat} (h:k<n):atL (m.take n) k=atL m k:=by
 unfold atL
 rw [if_pos (by omega),if_pos (by omega),Int.toNat_natCast,List.getElem?_take,if_pos h]
theorem Zhi (l m:List (Int×Int)) (kx:Int×Int):∀ k:Nat,k<=8->ZaE l (m.take 8) kx k=ZaE l m kx k
 | 0,_=>rfl
 | k+1,h=>by rw [ZaE,ZaE,Zhi l m kx k (by omega),ZkE (by omega)]
theorem Zd3 {l m:List (Int×Int)} {kx:Int×Int} (hl:Zv l) (hx:Bd kx) (hm:Zv m) (h:(ZS l m kx).2=0) :
  ZF l/\OkR kx/\ZF (m.take 8)/\l.length<=8/\ZaE l (m.take 8) kx 8=some (ZS l m kx).1:=by
 by_cases g:ZO l kx.1 kx.2=true/\Zbd (m.take 8)=true
 ·obtain ⟨p,a,b⟩:=Zam g.1 hl hx.1.1 hx.1.2 hx.2.1 hx.2.2
  have c:ZF (m.take 8):=ZfT g.2 fun x hx=>hm x (List.mem_of_mem_take hx)
  refine ⟨a,b,c,p,?_⟩
  have e:min l.length (m.take 8).length=min l.length m.length:=by rw [List.length_take];omega
  rw [Zqy a c b 8 (by omega),e,Zhi l m kx _ (by omega)]
  unfold ZS at h ⊢
  rw [if_pos g] at h ⊢
  cases q:ZaE l m kx (min l.length m.length) with
  | none=>rw [q] at h;cases h
  | some s=>rfl
 ·unfold ZS at h
  rw [if_neg g] at h
  cases h
end
section
open Go.RowKit
def co (t:Trm) (x:Int):Rat:=q (atL t.1 x)
theorem Zoy:q (0,1)=0:=by unfold q;grind
theorem Zp4:q (1,1)=1:=by unfold q;grind
theorem Zge {x:Int×Int} (h:OkR x):q x=0↔x.1=0:=by
 have:=h.ne
 unfold q
 constructor
 ·intro e
  have:(x.1:Rat)=0:=by grind
  exact_mod_cast this
 ·intro e
  rw [e]
  grind
theorem Zne (x:Int×Int):q (ZA x)=- q x:=by
 unfold q ZA
 push_cast
 grind
theorem Zrh {x:Int×Int} (h:OkR x) (hn:x.1≠0):q (Zb7 x)*q x=1:=by
 have a:=h.ne
 have b:(x.1:Rat)≠0:=by exact_mod_cast hn
 unfold q Zb7
 by_cases g:x.1<0
 ·rw [if_pos g]
  have e:((x.1.natAbs:Int):Rat)=-(x.1:Rat):=by
   have:(x.1.natAbs:Int)=-x.1:=by omega
   rw [this]
   push_cast
   rfl
  show ((-x.2:Int):Rat) / ((x.1.natAbs:Int):Rat)*((x.1:Rat) / (x.2:Rat))=1
  rw [e]
  push_cast
  grind
 ·rw [if_neg g]
  have e:((x.1.natAbs:Int):Rat)=(x.1:Rat):=by
   have:(x.1.natAbs:Int)=x.1:=by omega
   rw [this]
  show (x.2:Rat) / ((x.1.natAbs:Int):Rat)*((x.1:Rat) / (x.2:Rat))=1
  rw [e]
  grind
theorem ZgW (a b:Int):a<b\/b<=a:=by omega
theorem ZcV {t:Trm} {x:Int} (h:x<0):co t x=0:=by
 unfold co
 rw [Zbt (.inl h),Zoy]
theorem ZgQ {p t u:Trm} {v:Int} (hp:TrmOk p) (ht:TrmOk t) (h:ZQ p v t=some u):(∀ i:Int,co u i=co t i-co t v*co p i)/\q u.2=q t.2-co t v*q p.2:=by
 unfold ZQ at h
 split at h
 ·rename_i g
  obtain rfl:=Option.some.inj h
  by_cases hz:(atL t.1 v).1=0
  ·have e:Zar t.1 t.2 p.1 p.2 v=(t.1,t.2,0):=if_pos hz
   have z:co t v=0:=(Zge (ht.ok.at v)).2 hz
   rw [e,z]
   exact ⟨fun i=>by unfold co;grind,by grind⟩
  ·have hn:OkR (ZA (atL t.1 v)):=Zbv (ht.ok.at v)
   have hw:=ZaR (l:=p.1) (kx:=p.2) (kb:=ZA (atL t.1 v)) hp.ok.wide hp.k.wide hn.wide
   by_cases g2:(Zh p.1 p.2 (ZA (atL t.1 v))).2.2=0
   ·have e:Zar t.1 t.2 p.1 p.2 v=ZaQ t.1 (Zh p.1 p.2 (ZA (atL t.1 v))).1 t.2 (Zh p.1 p.2 (ZA (atL t.1 v))).2.1:=by
     unfold Zar
     rw [if_neg hz,if_pos g2]
    rw [e] at g ⊢
    obtain ⟨_,_,_,_,P1⟩:=Zcm hp.ok.wide hp.k.wide hn.wide g2
    obtain ⟨_,_,_,_,_,_,P2⟩:=Zc8 ht.ok.wide hw.1 ht.k.wide hw.2 g
    have part:∀ (x y m s:Int×Int),OkR x->OkR y->(ZT y (ZA (atL t.1 v))).2=0->m=(ZT y (ZA (atL t.1 v))).1->(Zo x m).2=0->s=(Zo x m).1->q s=q x-co t v*q y:=by
     intro x y m s ox oy e1 e2 e3 e4
     obtain ⟨om,qm⟩:=ZiN oy hn e1
     rw [<- e2] at om qm
     obtain ⟨_,qs⟩:=ZkC ox om e3
     rw [e4,qs,qm,Zne]
     unfold co
     grind
    refine ⟨fun i=>?_,part _ _ _ _ ht.k hp.k P1.k.1 P1.k.2 P2.k.1 P2.k.2⟩
    rcases ZgW i 0 with hi | hi
    ·rw [ZcV hi,ZcV hi,ZcV hi]
     grind
    ·obtain ⟨n,rfl⟩:∃ n:Nat,i=n:=⟨i.toNat,by omega⟩
     exact part _ _ _ _ (ht.ok.at n) (hp.ok.at n) (P1.at_ n).1 (P1.at_ n).2 (P2.at_ n).1 (P2.at_ n).2
   ·unfold Zar at g
    rw [if_neg hz,if_neg g2] at g
    exact absurd g g2
 ·cases h
theorem Zp1 {t:Trm} {v:Int} (ht:TrmOk t) (hv:Zbb v t=true) (e:(ZM t v).2.2=0):(∀ i:Int,co ((ZM t v).1,(ZM t v).2.1) i*co t v=co t i)/\q (ZM t v).2.1*co t v=q t.2/\Zw (ZM t v).1=(ZM t v).1:=by
 have hn:(atL t.1 v).1≠0:=by unfold Zbb at hv;simpa using hv
 have oi:=ZeD (ht.ok.at v) hn
 obtain ⟨_,_,_,_,P⟩:=Zcm ht.ok.wide ht.k.wide oi.wide e
 have iq:=Zrh (ht.ok.at v) hn
 have part:∀ (x m:Int×Int),OkR x->(ZT x (Zb7 (atL t.1 v))).2=0->m=(ZT x (Zb7 (atL t.1 v))).1->q m*co t v=q x:=by
  intro x m ox e1 e2
  obtain ⟨_,qm⟩:=ZiN ox oi e1
  rw [e2,qm]
  unfold co
  grind
 refine ⟨fun i=>?_,part _ _ ht.k P.k.1 P.k.2,P.own⟩
 rcases ZgW i 0 with hi | hi
 ·rw [ZcV hi,ZcV hi]
  grind
 ·obtain ⟨n,rfl⟩:∃ n:Nat,i=n:=⟨i.toNat,by omega⟩
  exact part _ _ (ht.ok.at n) (P.at_ n).1 (P.at_ n).2
theorem Zpk {p t u:Trm} {v:Int} (hp:TrmOk p) (ht:TrmOk t) (ho:Zw t.1=t.1) (h:ZQ p v t=some u):Zw u.1=u.1:=by
 unfold ZQ at h
 split at h
 ·rename_i g
  obtain rfl:=Option.some.inj h
  by_cases hz:(atL t.1 v).1=0
  ·have e:Zar t.1 t.2 p.1 p.2 v=(t.1,t.2,0):=if_pos hz
   rw [e]
   exact ho
  ·have hn:OkR (ZA (atL t.1 v)):=Zbv (ht.ok.at v)
   have hw:=ZaR (l:=p.1) (kx:=p.2) (kb:=ZA (atL t.1 v)) hp.ok.wide hp.k.wide hn.wide
   by_cases g2:(Zh p.1 p.2 (ZA (atL t.1 v))).2.2=0
   ·have e:Zar t.1 t.2 p.1 p.2 v=ZaQ t.1 (Zh p.1 p.2 (ZA (atL t.1 v))).1 t.2 (Zh p.1 p.2 (ZA (atL t.1 v))).2.1:=by
     unfold Zar
     rw [if_neg hz,if_pos g2]
    rw [e] at g ⊢
    exact (Zc8 ht.ok.wide hw.1 ht.k.wide hw.2 g).2.2.2.2.2.2.own
   ·unfold Zar at g
    rw [if_neg hz,if_neg g2] at g
    exact absurd g g2
 ·cases h
theorem ZkR {t:Trm} {v:Int} (ht:TrmOk t):Zbb v t=true↔co t v≠0:=by
 unfold Zbb co
 rw [Ne,Zge (ht.ok.at v)]
 simp
structure Ech (k:Nat) (s:ZbY):Prop where
 left:∀ t∈s.1,∀ v:Int,v<k->co t v=0
 rng:∀ (i:Nat) (x:Int),s.2.2[i]? = some x->0<=x/\x<k
 inc:∀ (i j:Nat) (x y:Int),i<j->s.2.2[i]? = some x->s.2.2[j]? = some y->x<y
 unit:∀ (i j:Nat) (x:Int) (u:Trm),s.2.2[i]? = some x->s.2.1[j]? = some u->co u x=if i=j then 1 else 0
 lead:∀ (j:Nat) (x:Int) (u:Trm),s.2.2[j]? = some x->s.2.1[j]? = some u->∀ v:Int,v<x->co u v=0
 own:∀ t∈s.2.1,Zw t.1=t.1
theorem ZcF {α:Type} {l:List α} {a x:α} {i:Nat} (h:(l++[a])[i]? = some x):l[i]? = some x\/(i=l.length/\x=a):=by
 rcases Nat.lt_or_ge i l.length with g | g
 ·rw [List.getElem?_append_left g] at h
  exact .inl h
 ·rw [List.getElem?_append_right g] at h
  have e:i-l.length=0:=by
   rcases Nat.eq_zero_or_pos (i-l.length) with q | q
   ·exact q
   ·rw [List.getElem?_eq_none (by simp;omega)] at h
    cases h
  rw [e] at h
  exact .inr ⟨by omega,by simpa using h.symm⟩
theorem Za4 {α:Type} {l:List α} {x:α} {i:Nat} (h:l[i]? = some x):i<l.length:=by
 rcases Nat.lt_or_ge i l.length with g | g
 ·exact g
 ·rw [List.getElem?_eq_none g] at h;cases h
theorem ZeJ {f:Trm->Option Trm}:∀ {l us:List Trm},Zak f l=some us->∀ u∈us,∃ t∈l,f t=some u
 | [],us,h,u,hu=>by
  obtain rfl:[]=us:=by simpa [Zak] using h
  cases hu
 | x::r,us,h,u,hu=>by
  rw [Zak,Option.bind_eq_some_iff] at h
  obtain ⟨a,ha,hb⟩:=h
  obtain ⟨b,hc,rfl⟩:=Option.map_eq_some_iff.1 hb
  rcases List.mem_cons.1 hu with rfl | hu
  ·exact ⟨x,by simp,ha⟩
  ·obtain ⟨t,ht,e⟩:=ZeJ hc u hu
   exact ⟨t,by simp [ht],e⟩
theorem Zg3 {f:Trm->Option Trm} {l us:List Trm} (h:Zak f l=some us) {k:Nat} {u:Trm} (hk:us[k]? = some u):∃ t,l[k]? = some t/\f t=some u:=by
 have hl:k<l.length:=by have:=Za4 hk;rw [Zc0 h] at this;exact this
 obtain ⟨u',e1,e2⟩:=ZfC h k l[k] (List.getElem?_eq_getElem hl)
 rw [hk] at e1
 obtain rfl:=Option.some.inj e1
 exact ⟨_,List.getElem?_eq_getElem hl,e2⟩
theorem Zpj {n k:Nat} {s r:ZbY} (so:SolOk n k s) (h:Ech k s) (e:ZaB s k=some r):Ech (k+1) r:=by
 obtain ⟨L,Q,P⟩:=s
 unfold ZaB at e
 dsimp only at e
 split at e
 ·rename_i hno
  obtain rfl:=Option.some.inj e
  rw [List.findIdx?_eq_none_iff] at hno
  refine ⟨fun t ht v hv=>?_,fun i x hx=>?_,h.inc,h.unit,h.lead,h.own⟩
  ·rcases ZgW v k with g | g
   ·exact h.left t ht v g
   ·obtain rfl:v=k:=by omega
    have:=hno t ht
    rcases Classical.em (co t k=0) with z | z
    ·exact z
    ·rw [(ZkR (so.l t ht)).2 z] at this
     cases this
  ·have:=h.rng i x hx
   omega
 ·rename_i i hi
  obtain ⟨t,ht,hp⟩:=Zdz hi
  rw [ht,Option.bind_some] at e
  split at e
  ·rename_i he
   rw [Option.bind_eq_some_iff] at e
   obtain ⟨l,hl,e⟩:=e
   obtain ⟨q',hq,rfl⟩:=Option.map_eq_some_iff.1 e
   have tm:=List.mem_of_getElem? ht
   have tok:=so.l t tm
   have pok:=Zfy tok hp he
   obtain ⟨dq,_,down⟩:=Zp1 tok hp he
   have tk:=(ZkR tok).1 hp
   have eL:=fun u (hu:u∈l)=>ZeJ hl u hu
   generalize hpv:((ZM t k).1,(ZM t k).2.1)=p at *
   have p1:co p k=1:=by have:=dq k;grind
   have p0:∀ v:Int,v<k->co p v=0:=fun v hv=>by
    have:=dq v
    have z:=h.left t tm v hv
    grind
   have pown:Zw p.1=p.1:=by rw [<- hpv];exact down
   have qlen:=Zc0 hq
   have ql:Q.length=P.length:=so.ql
   refine ⟨fun u hu v hv=>?_,fun j x hx=>?_,fun a b x y hab hx hy=>?_,fun a b x u hx hu=>?_,fun j x u hx hu v hv=>?_,fun u hu=>?_⟩
   ·obtain ⟨t',ht',et⟩:=eL u hu
    have t'm:=List.mem_of_mem_eraseIdx ht'
    have:=(ZgQ pok (so.l t' t'm) et).1 v
    rcases ZgW v k with g | g
    ·have z:=h.left t' t'm v g
     have z2:=p0 v g
     grind
    ·obtain rfl:v=k:=by omega
     grind
   ·rcases ZcF hx with g | ⟨_,rfl⟩
    ·have:=h.rng j x g
     omega
    ·omega
   ·rcases ZcF hx with g | ⟨g,rfl⟩
    ·rcases ZcF hy with g2 | ⟨_,rfl⟩
     ·exact h.inc a b x y hab g g2
     ·exact (h.rng a x g).2
    ·have hlen:=Za4 hy
     simp at hlen
     omega
   ·rcases ZcF hx with g | ⟨g,rfl⟩
    ·have xr:=h.rng a x g
     rcases ZcF hu with g2 | ⟨g2,rfl⟩
     ·obtain ⟨u',hu',eu⟩:=Zg3 hq g2
      have:=(ZgQ pok (so.q u' (List.mem_of_getElem? hu')) eu).1 x
      have z:=p0 x xr.2
      have:=h.unit a b x u' g hu'
      grind
     ·have z:=p0 x xr.2
      rw [z,if_neg (by have:=Za4 g;rw [qlen] at g2;omega)]
    ·rcases ZcF hu with g2 | ⟨g2,rfl⟩
     ·obtain ⟨u',hu',eu⟩:=Zg3 hq g2
      have:=(ZgQ pok (so.q u' (List.mem_of_getElem? hu')) eu).1 k
      rw [if_neg (by have:=Za4 hu';omega)]
      grind
     ·rw [p1,if_pos (by rw [qlen] at g2;omega)]
   ·rcases ZcF hx with g | ⟨g,rfl⟩
    ·have xr:=h.rng j x g
     rcases ZcF hu with g2 | ⟨g2,rfl⟩
     ·obtain ⟨u',hu',eu⟩:=Zg3 hq g2
      have:=(ZgQ pok (so.q u' (List.mem_of_getElem? hu')) eu).1 v
      have z:=p0 v (by omega)
      have:=h.lead j x u' g hu' v hv
      grind
     ·exact p0 v (by omega)
    ·rcases ZcF hu with g2 | ⟨g2,rfl⟩
     ·have:=Za4 g2
      rw [qlen] at this
      omega
     ·exact p0 v hv
   ·rcases List.mem_append.1 hu with g | g
    ·obtain ⟨u',hu',eu⟩:=ZeJ hq u g
     exact Zpk pok (so.q u' hu') (h.own u' hu') eu
    ·rw [List.mem_singleton] at g
     rw [g]
     exact pown
  ·cases e
theorem Zfz {ts:List Trm} (h:∀ t∈ts,TrmOk t):∀ (k:Nat) (s:ZbY),Zat ts k=some s->SolOk ts.length k s/\Ech k s
 | 0,s,e=>by
  refine ⟨ZcC h 0 s e,?_⟩
  obtain rfl:=Option.some.inj e
  exact ⟨fun t _ v hv=>ZcV (by omega),fun i x hx=>by simp at hx,fun i j x y _ hx=>by simp at hx,fun i j x u hx=>by simp at hx,fun j x u hx=>by simp at hx,fun t ht=>by cases ht⟩
 | k+1,s,e=>by
  refine ⟨ZcC h (k+1) s e,?_⟩
  rw [Zat,Option.bind_eq_some_iff] at e
  obtain ⟨r,hr,e⟩:=e
  obtain ⟨a,b⟩:=Zfz h k r hr
  exact Zpj a b e
end
section
open Go.RowKit
theorem ZjT (op:Int) (w:World) (va vb:Value) (l m:List (Int×Int)) (xn xd yn yd:Int) (ha:Zb w va l) (hb:Zb w vb m) (hw:Zv l) (hw':Zv m) (x1:-9223372036854775808<=xn) (x2:xn<=9223372036854775807) (x3:-9223372036854775808<=xd) (x4:xd<=9223372036854775807)
  (y1:-9223372036854775808<=yn) (y2:yn<=9223372036854775807) (y3:-9223372036854775808<=yd) (y4:yd<=9223372036854775807) (hr:ZO l xn xd=false\/(ZO l xn xd=true/\ZO m yn yd=false)) :
  Calls Tryz.prog 17 #[.int .i64 op,.agg #[va,.int .i64 xn,.int .i64 xd],.agg #[vb,.int .i64 yn,.int .i64 yd]] w (ZaS w [] (0,0) 2):=by
 have ra:=fun (w':World) (h:Below w.heap.size w w')=>ZaP w' va l xn xd (ha.below h) hw x1 x2 x3 x4
 have rb:=fun (w':World) (h:Below w.heap.size w w')=>ZaP w' vb m yn yd (hb.below h) hw' y1 y2 y3 y4
 obtain ⟨A,c,rfl⟩:=Zd ha
 obtain ⟨B,d,rfl⟩:=Zd hb
 obtain ⟨F,G,E,hb0⟩:=ZaG w (.slice A l.length c) (.int .i64 xn) (.int .i64 xd) (.slice B m.length d) (.int .i64 yn) (.int .i64 yd) (.slice none 0 0) (.int .i64 0) (.int .i64 0) 27
 rcases hr with hr | ⟨hr,hr'⟩
 ·rw [hr] at ra
  have RA:=Lib.hid ra
  clear ra rb ha hb hw hw' x1 x2 x3 x4 y1 y2 y3 y4 hr
  generalize l.length=ll at *
  generalize m.length=lm at *
  go_enter Tryz.func17,Tryz.ntmps17
  go_wp2_with (go_at_call 30;(with_reducible refine (RA.out _ hb0).mono ?_);rintro e w1 ⟨rfl,hb1⟩;have E:=E.keep hb1;have b1:=Lib.hid (hb0.trans (hb1.mono hb0.size));have e0:=E.k0;have e1:=E.k1;have e2:=E.k2;have l0:=E.l0;have l1:=E.l1;have l2:=E.l2)
  obtain ⟨c0,c1,c2⟩:=Zaj (x:=.slice none 0 0) (y:=.int .i64 0) (z:=.int .i64 0) e0 e1 e2
  obtain ⟨r1,r2,r3⟩:=Zcg (w:=w) (b:=w.heap.size+1+1) (kn:=0) (kd:=0) (Zb.nil w1) b1.out (Zs.none_ _ _ _) (by omega) rfl
  exact bodyPost_ret (v:=.tuple #[.agg #[.slice none 0 0,.int .i64 0,.int .i64 0],.int .i64 2]) (by simp [results,Tryz.results17,go_sem,c0,c1,c2]) rfl ⟨_,rfl,r1,r2,r3⟩
 ·rw [hr] at ra
  rw [hr'] at rb
  have RA:=Lib.hid ra;have RB:=Lib.hid rb
  clear ra rb ha hb hw hw' x1 x2 x3 x4 y1 y2 y3 y4 hr hr'
  generalize l.length=ll at *
  generalize m.length=lm at *
  go_enter Tryz.func17,Tryz.ntmps17
  go_wp2_with (go_at_call 30;(first
    | (with_reducible refine (RA.out _ hb0).mono ?_);rintro e w1 ⟨rfl,hb1⟩;have G:=G.keep hb1;have E:=E.keep hb1;have b1:=hb0.trans (hb1.mono hb0.size);have m0:=G.k0;have m1:=G.k1;have m2:=G.k2
    | (with_reducible refine (RB.out _ b1).mono ?_);rintro e w2 ⟨rfl,hb2⟩;have E:=E.keep hb2;have b2:=Lib.hid (b1.trans (hb2.mono b1.size));have e0:=E.k0;have e1:=E.k1;have e2:=E.k2;have l0:=E.l0;have l1:=E.l1;have l2:=E.l2))
  obtain ⟨c0,c1,c2⟩:=Zaj (x:=.slice none 0 0) (y:=.int .i64 0) (z:=.int .i64 0) e0 e1 e2
  obtain ⟨r1,r2,r3⟩:=Zcg (w:=w) (b:=w.heap.size+1+1) (kn:=0) (kd:=0) (Zb.nil w2) b2.out (Zs.none_ _ _ _) (by omega) rfl
  exact bodyPost_ret (v:=.tuple #[.agg #[.slice none 0 0,.int .i64 0,.int .i64 0],.int .i64 2]) (by simp [results,Tryz.results17,go_sem,c0,c1,c2]) rfl ⟨_,rfl,r1,r2,r3⟩
theorem ZlH {a b:Bool} (g:¬ (a=true/\b=true)):a=false\/(a=true/\b=false):=by
 cases a
 ·exact .inl rfl
 ·cases b
  ·exact .inr ⟨rfl,rfl⟩
  ·exact absurd ⟨rfl,rfl⟩ g
theorem Zmc (kn kd:Int):ZO [] kn kd=Zas kn kd:=by
 unfold ZO Zbd
 simp
theorem ZhW (w:World) (va vb:Value) (l m:List (Int×Int)) (kx ky:Int×Int) (ha:Zb w va l) (hb:Zb w vb m) (hl:Zv l) (hm:Zv m) (hx:Bd kx) (hy:Bd ky) :
  Calls Tryz.prog 17 #[.int .i64 0,.agg #[va,.int .i64 kx.1,.int .i64 kx.2],.agg #[vb,.int .i64 ky.1,.int .i64 ky.2]] w (ZaS w (ZaQ l m kx ky).1 (ZaQ l m kx ky).2.1 (ZaQ l m kx ky).2.2):=by
 unfold ZaQ
 split
 ·rename_i g
  obtain ⟨p,a,b⟩:=Zam g.1 hl hx.1.1 hx.1.2 hx.2.1 hx.2.2
  obtain ⟨q,c,d⟩:=Zam g.2 hm hy.1.1 hy.1.2 hy.2.1 hy.2.2
  unfold Za3
  split
  ·rename_i e
   exact Znn w va vb l m kx ky ha hb a c b d p q e.1 e.2
  ·rename_i e
   exact Znm w va vb l m kx ky ha hb a c b d p q e
 ·rename_i g
  exact ZjT 0 w va vb l m kx.1 kx.2 ky.1 ky.2 ha hb hl hm hx.1.1 hx.1.2 hx.2.1 hx.2.2 hy.1.1 hy.1.2 hy.2.1 hy.2.2 (ZlH g)
theorem Zdf (w:World) (va:Value) (l:List (Int×Int)) (kx kb:Int×Int) (ha:Zb w va l) (hl:Zv l) (hx:Bd kx) (hb:Bd kb) :
  Calls Tryz.prog 17 #[.int .i64 2,.agg #[va,.int .i64 kx.1,.int .i64 kx.2],.agg #[.slice none 0 0,.int .i64 kb.1,.int .i64 kb.2]] w (ZaS w (Zh l kx kb).1 (Zh l kx kb).2.1 (Zh l kx kb).2.2):=by
 unfold Zh
 split
 ·rename_i g
  obtain ⟨p,a,b⟩:=Zam g.1 hl hx.1.1 hx.1.2 hx.2.1 hx.2.2
  have c:=ZfI g.2 hb
  unfold Za3
  have e0:max l.length ([]:List (Int×Int)).length=l.length:=by simp
  rw [e0]
  split
  ·rename_i e
   exact Zlf w va l kx kb ha a b c p e.1 e.2
  ·rename_i e
   exact Zle w va l kx kb ha a b c p e
 ·rename_i g
  rw [<- Zmc] at g
  exact ZjT 2 w va (.slice none 0 0) l [] kx.1 kx.2 kb.1 kb.2 ha (Zb.nil w) hl (fun x hx=>by cases hx) hx.1.1 hx.1.2 hx.2.1 hx.2.2 hb.1.1 hb.1.2 hb.2.1 hb.2.2 (ZlH g)
end
section
open Go.RowKit
theorem Zc2 {l m:List (Int×Int)} {kx:Int×Int} {k:Nat} (h:ZaE l m kx k=none):∀ n:Nat,k<=n->ZaE l m kx n=none
 | 0,hn=>by
  obtain rfl:k=0:=by omega
  exact h
 | n+1,hn=>by
  rcases Nat.lt_or_ge n k with g | g
  ·obtain rfl:k=n+1:=by omega
   exact h
  ·rw [ZaE,Zc2 h n g]
   rfl
theorem Ziv {l m:List (Int×Int)} {kx:Int×Int} (hl:ZF l) (hm:Zbd (m.take 8)=true) (hw:Zv m) (hx:OkR kx) (k:Nat) (s:Int×Int) (hk:k<=8) (h:ZaE l m kx k=some s):OkR s:=by
 rw [<- Zhi l m kx k hk] at h
 exact Zcy hl (ZfT hm fun x hx=>hw x (List.mem_of_mem_take hx)) hx k s h
theorem Zhg {l m:List (Int×Int)} {kx s:Int×Int} {k:Nat} (h:ZaE l m kx k=some s) (e1:(ZT (atL l k) (atL m k)).2=0) (e2:(Zo s (ZT (atL l k) (atL m k)).1).2=0):ZaE l m kx (k+1)=some (Zo s (ZT (atL l k) (atL m k)).1).1:=by
 rw [ZaE,h]
 show (if _ then _ else _)=_
 rw [if_pos ⟨e1,e2⟩]
theorem Zhh {l m:List (Int×Int)} {kx s:Int×Int} {k:Nat} (h:ZaE l m kx k=some s) (e:¬ ((ZT (atL l k) (atL m k)).2=0/\(Zo s (ZT (atL l k) (atL m k)).1).2=0)):ZaE l m kx (k+1)=none:=by
 rw [ZaE,h]
 show (if _ then _ else _)=_
 rw [if_neg e]
structure BoxV (w wr:World) (s:Value) (xn xd:Int):Prop where
 F:FracBox wr w.heap.size s (.int .i64 xn) (.int .i64 xd)
 E:RatAt wr (w.heap.size+1) 0 0
 e0:wr.frozen? ⟨w.heap.size+1,0,none⟩=false
 e1:wr.frozen? ⟨w.heap.size+1,1,none⟩=false
 below:Below w.heap.size w wr
theorem BoxV.keep {w wr w2:World} {s:Value} {xn xd:Int} (h:BoxV w wr s xn xd) (hb:Below wr.heap.size wr w2):BoxV w w2 s xn xd:=
 ⟨h.F.keep hb,h.E.keep hb,Zu hb h.E.lt h.e0,Zu hb h.E.lt h.e1,h.below.trans (hb.mono h.below.size)⟩
structure ValS (w wr:World) (b:Nat) (s:Value) (xn xd:Int) (sn sd:Int):Prop where
 F:FracBox wr w.heap.size s (.int .i64 xn) (.int .i64 xd)
 E:RatAt wr (w.heap.size+1) 0 0
 e0:wr.frozen? ⟨w.heap.size+1,0,none⟩=false
 e1:wr.frozen? ⟨w.heap.size+1,1,none⟩=false
 S:RatAt wr b sn sd
 s0:wr.frozen? ⟨b,0,none⟩=false
 s1:wr.frozen? ⟨b,1,none⟩=false
 lt:w.heap.size+1<b
 below:Below w.heap.size w wr
section
variable {w wr w2:World} {b:Nat} {s:Value} {xn xd sn sd:Int}
theorem ValS.keep (h:ValS w wr b s xn xd sn sd) (hb:Below wr.heap.size wr w2):ValS w w2 b s xn xd sn sd:=
 ⟨h.F.keep hb,h.E.keep hb,Zu hb h.E.lt h.e0,Zu hb h.E.lt h.e1,h.S.keep hb,Zu hb h.S.lt h.s0,Zu hb h.S.lt h.s1,h.lt,h.below.trans (hb.mono h.below.size)⟩
theorem ValS.store (h:ValS w wr b s xn xd sn sd) (p q:Int):ValS w ((wr.setCell ⟨b,0,none⟩ (.int .i64 p)).setCell ⟨b,1,none⟩ (.int .i64 q)) b s xn xd p q:=by
 have hl:=h.lt
 have hb:Below b wr ((wr.setCell ⟨b,0,none⟩ (.int .i64 p)).setCell ⟨b,1,none⟩ (.int .i64 q)):=((Below.refl b wr).setCell (p:=⟨b,0,none⟩) (Nat.le_refl b) _).setCell (p:=⟨b,1,none⟩) (Nat.le_refl b) _
 obtain ⟨c0,c1⟩:=ZaJ (x:=.int .i64 p) (y:=.int .i64 q) h.S.k0 h.S.k1
 exact ⟨h.F.keepB hb (by omega),h.E.keepB hb (by omega),(hb.frozen (p:=⟨w.heap.size+1,0,none⟩) hl).trans h.e0,(hb.frozen (p:=⟨w.heap.size+1,1,none⟩) hl).trans h.e1,⟨c0,c1,by rw [World.size_setCell,World.size_setCell];exact h.S.lt⟩,by rw [World.frozen?_setCell,World.frozen?_setCell];exact h.s0,by rw [World.frozen?_setCell,World.frozen?_setCell];exact h.s1,hl,h.below.trans (hb.mono (by omega))⟩
theorem ZeF {A:Prop} (h:A/\ValS w wr b s xn xd sn sd):ValS w wr b s xn xd sn sd:=h.2
theorem ZaU {p p' o o':Addr} {x1 x2 y1 y2:Value} {A:Prop} (hb:Below wr.heap.size wr w2)
  (h:(A/\(wr.cell? p=some x1/\wr.cell? p'=some x2)/\(wr.cell? o=some y1/\wr.cell? o'=some y2))/\ValS w wr b s xn xd sn sd) :
  (w2.cell? ⟨w.heap.size,0,none⟩=some s/\(w2.cell? p=some x1/\w2.cell? p'=some x2)/\(w2.cell? o=some y1/\w2.cell? o'=some y2))/\ValS w w2 b s xn xd sn sd:=by
 obtain ⟨⟨_,⟨a,b⟩,⟨c,d⟩⟩,H⟩:=h
 have k:∀ {p:Addr} {u:Value},wr.cell? p=some u->w2.cell? p=some u:=fun hc=>(hb.cell (World.block_lt_of_cell? _ _ hc)).trans hc
 exact ⟨⟨(H.keep hb).F.k0,⟨k a,k b⟩,⟨k c,k d⟩⟩,H.keep hb⟩
end
def ZgJ (w:World) (b:Nat) (s:Value) (xn xd sn sd p q e:Int) (v8 v9:Value) (wx:World):Prop:=
 ∃ c,v8=.pointer (some ⟨c,0,none⟩)/\v9=.int .i64 e/\RatAt wx c p q/\ValS w wx b s xn xd sn sd
theorem Zhq {w wA wr:World} {b c:Nat} {s:Value} {xn xd sn sd p q e:Int} (h:ValS w wA b s xn xd sn sd) (hc:HoleC wA wr c) :
  ZgJ w b s xn xd sn sd p q e (.pointer (some ⟨c,0,none⟩)) (.int .i64 e) ((wr.setCell ⟨c,0,none⟩ (.int .i64 p)).setCell ⟨c,1,none⟩ (.int .i64 q)):=
 ⟨_,rfl,rfl,(hc.fill p q).2,h.keep (hc.fill p q).1⟩
theorem Zgx {w wA:World} {b:Nat} {s:Value} {xn xd sn sd p q e:Int} (h:ValS w wA b s xn xd sn sd) (ty:TypeId) :
  ZgJ w b s xn xd sn sd p q e (.pointer (some ⟨wA.heap.size,0,none⟩)) (.int .i64 e) (wA.alloc (.cells #[.int .i64 p,.int .i64 q] ty)):=
 ⟨_,rfl,rfl,RatAt.start wA p q ty,h.keep (Za _ _)⟩
theorem Zd4 {w wA:World} {b:Nat} {s:Value} {xn xd sn sd:Int} {A:Prop} {ty:TypeId} (_:A/\ValS w (wA.alloc (.cells #[.int .i64 0,.int .i64 0] ty)) b s xn xd sn sd):HoleC wA (wA.alloc (.cells #[.int .i64 0,.int .i64 0] ty)) wA.heap.size:=HoleC.start wA ty
theorem Zdt {w wq:World} {b:Nat} {s:Value} {xn xd sn sd:Int} {A:Prop} {ty:TypeId} (_:A/\ValS w (wq.alloc (.cells #[.int .i64 0,.int .i64 0] ty)).drew b s xn xd sn sd):HoleC wq.drew (wq.alloc (.cells #[.int .i64 0,.int .i64 0] ty)).drew wq.heap.size:=HoleC.start wq.drew ty
theorem Zc4 (w:World) (x y z:Value) (ty ty':TypeId):FracBox ((w.alloc (.cells #[x,y,z] ty)).alloc (.cells #[.int .i64 0,.int .i64 0] ty')) w.heap.size x y z/\RatAt ((w.alloc (.cells #[x,y,z] ty)).alloc (.cells #[.int .i64 0,.int .i64 0] ty')) (w.heap.size+1) 0 0 ∧
  (((w.alloc (.cells #[x,y,z] ty)).alloc (.cells #[.int .i64 0,.int .i64 0] ty')).frozen? ⟨w.heap.size+1,0,none⟩=false/\((w.alloc (.cells #[x,y,z] ty)).alloc (.cells #[.int .i64 0,.int .i64 0] ty')).frozen? ⟨w.heap.size+1,1,none⟩=false) ∧
  Below w.heap.size w ((w.alloc (.cells #[x,y,z] ty)).alloc (.cells #[.int .i64 0,.int .i64 0] ty')):=by
 have h:=RatAt.start (w.alloc (.cells #[x,y,z] ty)) 0 0 ty'
 rw [World.size_alloc] at h
 exact ⟨(FracBox.start w x y z ty).keep (Za _ _),h,⟨by go_simp,by go_simp⟩,ZI _ _ _⟩
theorem Zly (m:List (Int×Int)):m.take (min m.length 8)=m.take 8:=by
 rcases Nat.le_total m.length 8 with h | h
 ·rw [Nat.min_eq_left h,List.take_of_length_le (Nat.le_refl _),List.take_of_length_le h]
 ·rw [Nat.min_eq_right h]
theorem ZfP {l m:List (Int×Int)} {kx:Int×Int} (h:¬ (ZO l kx.1 kx.2=true/\Zbd (m.take 8)=true)):ZS l m kx=((0,0),2):=if_neg h
theorem ZlD {l m:List (Int×Int)} {kx s:Int×Int} (h:ZO l kx.1 kx.2=true/\Zbd (m.take 8)=true) (e:ZaE l m kx (min l.length m.length)=some s):ZS l m kx=(s,0):=by
 unfold ZS
 rw [if_pos h,e]
theorem Zkb {l m:List (Int×Int)} {kx:Int×Int} (h:ZO l kx.1 kx.2=true/\Zbd (m.take 8)=true) (e:ZaE l m kx (min l.length m.length)=none):ZS l m kx=((0,0),3):=by
 unfold ZS
 rw [if_pos h,e]
theorem Zgs {m:List (Int×Int)} (h:Zbd (m.take 8)=true) (hm:Zv m) {k:Nat} (hk:k<8):OkR (atL m k):=by
 rw [<- ZkE hk]
 exact (ZfT h fun x hx=>hm x (List.mem_of_mem_take hx)).at k
end
end Go.Proofs.YtolookeddknmoaaGreat
