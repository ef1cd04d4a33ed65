import Derived.Test.YtfdgeijnkkdplaaDoorQAE
set_option maxRecDepth 100000
set_option maxHeartbeats 8000000
namespace Go.Proofs.YtfdgeijnkkdplaaDoor
section
open Go.RowKit
theorem Zkh (s:ByteArray) (w:World) (h:s.size<=6000):Calls Tryd.prog 11 #[.string s] w fun e w'=>e=.returned (.string s)/\Below w.heap.size w w':=by
 have cl:=fun w=>Tryd.stringslite_Clone s w (by omega)
 go_enter Tryd.func11,Tryd.ntmps11
 go_wp2_with (go_at_call 18;(with_reducible refine (cl _).mono ?_);rintro e w1 ⟨rfl,hb⟩)
 go_ret
 exact ⟨rfl,hb⟩
theorem ZiP (s:ByteArray) (w:World):Calls Tryd.prog 10 #[.string s] w fun e w'=>e=.returned (.func (.func 15) #[] #[.pointer (some ⟨w.heap.size+1,0,none⟩),.pointer (some ⟨w.heap.size,0,none⟩)])/\w'=(w.alloc (.cells #[.string s] 9)).alloc (.cells #[.int .i64 0] 3):=by
 go_enter Tryd.func10,Tryd.ntmps10
 go_wp2_with fail
 go_ret
 exact ⟨rfl,rfl⟩
theorem ZiU (s:ByteArray) (w:World) (h:6000<s.size):Calls Tryd.prog 7 #[.string s] w fun e w'=>e=.returned (.tuple #[.slice none 0 0,.agg #[.int .i64 13,.int .i64 0]])/\Below w.heap.size w w':=by
 have hb:=below_alloc1 w (.cells #[.int .i64 0,.int .i64 0] 26)
 have B0:=Blk.start w #[.int .i64 0,.int .i64 0] 26
 go_enter Tryd.func7,Tryd.ntmps7
 go_wp2_with fail
 exact bodyPost_ret (v:=.tuple #[.slice none 0 0,.agg #[.int .i64 13,.int .i64 0]]) (by simp [results,Tryd.results7,go_sem]) rfl ⟨rfl,below_alloc1 _ _⟩
theorem ZkQ (w:World) (x y z:Value) (ty:TypeId):ZT (w.alloc (.cells #[x,y,z] ty)) (w.heap.size+1) 3 (some ⟨w.heap.size,0,none⟩) 1 [x,y,z]:=by
 refine ⟨rfl,fun _=>⟨_,rfl,by simp,fun j u hu=>?_⟩⟩
 have e:(⟨w.heap.size,0,none⟩:Addr).add j=⟨w.heap.size,j,none⟩:=by unfold Addr.add;split<;>simp_all
 rw [e,(Blk.start w #[x,y,z] ty).cell j]
 simpa using hu
theorem ZiT (s:ByteArray) (W:World) (h:s.size<=6000) (ht:Zaf W 0 Zp):Calls Tryd.prog 7 #[.string s] W (Zke W (Zat s.data.toList 0)):=by
 obtain ⟨iT,hiT,zT0,zT1,zT2⟩:=info_parts ZlS
 obtain ⟨ans,hans⟩:∃ ans,ans=Zat s.data.toList 0:=⟨_,rfl⟩
 rw [<- hans]
 have HA:=zh hans
 clear hans
 have hnb:¬ (6000:Int)<(s.size:Int):=by omega
 have cl:=fun w=>Zkh s w h
 have rd:=fun w=>ZiP s w
 have CL:=zh cl
 have RD:=zh rd
 have hb0:=below_alloc1 W (.cells #[.int .i64 0,.int .i64 0] 26)
 have F0:=Blk.start W #[.int .i64 0,.int .i64 0] 26
 have sg:0<W.heap.size:=by obtain ⟨_,_,e⟩:=ht;exact lt_of_block e
 have H0:=zh (zi hb0 (zi F0 (zi ht (zi sg h))))
 clear cl rd F0 ht sg
 go_enter Tryd.func7,Tryd.ntmps7
 go_upto_region 4 with (first
  | (go_at_call 11;(with_reducible refine (CL.out _).mono ?_);rintro e w1 ⟨rfl,hb1⟩)
  | (go_at_call 10;(with_reducible refine (RD.out _).mono ?_);rintro e w2 ⟨rfl,rfl⟩))
 have ST:TokS W ((w1.alloc (.cells #[.string s] 9)).alloc (.cells #[.int .i64 0] 3)) w1.heap.size s 0 (.slice none 0 0) []:=by
  have a1:=below_alloc1 w1 (.cells #[.string s] 9)
  have a2:=below_alloc1 (w1.alloc (.cells #[.string s] 9)) (.cells #[.int .i64 0] 3)
  have hz:=hb1.size
  rw [World.size_alloc] at hz
  have bl:=((H0.out.1.trans (hb1.mono H0.out.1.size)).trans (a1.mono (by omega))).trans (a2.mono (by simp;omega))
  have BA:=Blk.start (w1.alloc (.cells #[.string s] 9)) #[.int .i64 0] 3
  rw [World.size_alloc] at BA
  exact ⟨BA,(Blk.start w1 #[.string s] 9).keep a2,((H0.out.2.1.keep hb1).keep a1).keep a2,World.ownsRow_nil _ _ _ _,((((H0.out.2.2.1.below H0.out.1).below hb1).below a1).below a2),bl,by omega,H0.out.2.2.2.1⟩
 have SS:=zh ST
 clear ST hb1 hb0
 generalize w1.heap.size=bs at *
 generalize (w1.alloc (.cells #[.string s] 9)).alloc (.cells #[.int .i64 0] 3)=w2 at *
 go_wp2_with fail
 go_loopg [5] s.size (fun g v5 wr=>∃ (a:Nat) (ts:List Tok) (v:Value),v=v5/\a<=s.size/\g=s.size-a/\ans=(Zat (s.data.toList.drop a) a).pre ts/\ts.length<=a/\TokS W wr bs s a v ts)
 case atStart=>exact ⟨0,[],_,rfl,Nat.zero_le _,rfl,by rw [HA.out,List.drop_zero,LexAns.pre_nil],Nat.le_refl _,SS.out⟩
 case round=>
  clear SS
  obtain ⟨a,ts,v,rfl,ha,hg,hans,hts,D⟩:=hrel
  have stp:=Zla s.data.toList a
  have le:=Zgk s.data.toList a (by rw [Zbi];exact ha)
  rw [Zbi] at le
  have ra:=Zls wr (bs+1) bs s a (by unfold maxLen;omega) ha D.T D.A D.S (by omega) (by have:=D.lt;have:=D.sg;omega)
  have tx:Value.string (s.extract (Zam s.data.toList a).lo ((Zam s.data.toList a).lo+(Zam s.data.toList a).size))=txt ((s.data.toList.drop (Zam s.data.toList a).lo).take (Zam s.data.toList a).size):=ZkX (by
   rw [Lib.extract_data,Nat.add_sub_cancel_left])
  unfold Zhu at ra
  rw [tx] at ra
  generalize (s.data.toList.drop (Zam s.data.toList a).lo).take (Zam s.data.toList a).size=T at *
  generalize Zam s.data.toList a=r at *
  obtain ⟨rk,rl,rz,ro⟩:=r
  dsimp only at *
  have RA:=zh ra
  have HH:=zh (zi hans (zi stp (zi le (zi ha (zi hg hts)))))
  have DD:=zh D
  clear ra hans stp le ha hg hts D tx
  go_upto_region 6 with (go_at_call 15;(with_reducible refine RA.out.mono ?_);rintro e w3 ⟨rfl,hg3,hb3⟩)
  have a3:=below_alloc1 w3 (.cells #[.int .i64 rk,txt T,.int .i64 rl] 47)
  have D4:=(DD.out.read hg3 hb3).keep a3
  have T4:=Blk.start w3 #[.int .i64 rk,txt T,.int .i64 rl] 47
  have l3:=hg3.size
  have D4:=zh (zi D4 (zi T4 (fun k e=>((DD.out.read hg3 hb3).own.lt k e).2)))
  clear T4 hg3 hb3 a3
  generalize hbt:w3.heap.size=bt at *
  generalize w3.alloc (.cells #[.int .i64 rk,txt T,.int .i64 rl] 47)=w4 at *
  have c0:=D4.out.2.1.cell 0
  have c1:=D4.out.2.1.cell 1
  have c2:=D4.out.2.1.cell 2
  cases ro
  ·have FIN:=zh (HH.out.2.1.1 rfl)
   have f0:=D4.out.1.F.cell 0
   have f1:=D4.out.1.F.cell 1
   have f2:=D4.out.1.F.free 0
   have f3:=D4.out.1.F.free 1
   go_upto_region 7 with fail
   refine wp_region_still_tail 4 (by kernel_rfl) (by kernel_rfl) ?_
   simp only [List.take_succ_cons,List.take_zero,List.drop_succ_cons,List.drop_zero]
   iterate 4 still_step
   refine wpStill_nil ?_
   change wpList _ _ _ _ _ w4.drew
   go_wp2_with fail
   have BF:=((D4.out.1.F.set 0 (.int .i64 10)).set 1 (.int .i64 rl)).drew
   have z0:=BF.cell 0
   have z1:=BF.cell 1
   have e:ans=.bad rl:=by rw [HH.out.1,FIN.out];rfl
   rw [e]
   exact bodyPost_ret (v:=.tuple #[.slice none 0 0,.agg #[.int .i64 10,.int .i64 rl]]) (by simp [results,Tryd.results7,go_sem,z0,z1]) rfl ⟨rfl,below_drewN ((D4.out.1.below.setCell (p:=⟨W.heap.size,0,none⟩) (Nat.le_refl _) _).setCell (p:=⟨W.heap.size,1,none⟩) (Nat.le_refl _) _) 1⟩
  ·have nb:=D4.out.2.2
   have D5:=zh (D4.out.1.keep (below_alloc1 w4 (.cells #[.int .i64 rk,txt T,.int .i64 rl] 47)))
   have T5:=zh (D4.out.2.1.keep (below_alloc1 w4 (.cells #[.int .i64 rk,txt T,.int .i64 rl] 47)))
   have NB:=zh nb
   have LT:=zh (show ts.length<=6000 by have:=HH.out.2.2.2.2.2;have:=HH.out.2.2.2.1;have:=H0.out.2.2.2.2;omega)
   have LS:=zh (show bs+2<=(w4.alloc (.cells #[.int .i64 rk,txt T,.int .i64 rl] 47)).heap.size by have:=D4.out.1.A.lt;rw [World.size_alloc];omega)
   clear nb
   go_upto_region 9 with (at_builtin;refine ZcA _ rfl _ _ 36 rfl (bs+2) 47 iT (.agg #[.int .i64 0,.string ⟨#[]⟩,.int .i64 0]) 3 32 Tryd.underlying36 hiT zT0 zT1 zT2 rfl (by decide) _ ts.length (Za0 ts) rfl D5.out.own (w4.heap.size+1) (some ⟨w4.heap.size,0,none⟩) 1 1 [.int .i64 rk,txt T,.int .i64 rl] rfl (ZkQ _ _ _ _ _) (Zmx _ _ _) (by have:=LT.out;unfold maxLen;omega) (by have:=LT.out;omega) LS.out ?_;intro v8 w8 hown hgrow _)
   have D8:=zh (D5.out.push (t:=(rk,T,rl)) hown hgrow)
   have T8:=T5.out.grown hgrow (fun e=>by have:=NB.out _ e;omega)
   clear hown hgrow c0 c1 c2
   have c0:=T8.cell 0
   have TT:=zh T8
   clear T8
   by_cases hk:rk=3
   ·subst hk
    have FIN:=HH.out.2.1.2.1 rfl rfl
    have EA:=zh (show ans=.ok (ts++[(3,T,rl)]) by rw [HH.out.1,FIN];rfl)
    have TA:=ZaJ.own D8.out.own
    obtain ⟨Az,cz,rfl⟩:∃ A c,v8=.slice A (ts++[(3,T,rl)]).length c:=by obtain ⟨A,c,e,_⟩:=TA;exact ⟨A,c,e⟩
    have TZ:=ZaJ.own (D8.out.own.kept (Zct (ZbH (g:=W.heap.size) (j:=0) (u:=.int .i64 0)) (ZbH (j:=1) (u:=.int .i64 0))) (.inr fun e=>by have:=(D8.out.own.lt _ e).1;have:=D8.out.lt;omega))
    have HT:=zh TZ
    have f0:=D8.out.F.cell 0
    have f1:=D8.out.F.cell 1
    have f2:=D8.out.F.free 0
    have f3:=D8.out.F.free 1
    have HZ:=zh (zi D8.out.F D8.out.below)
    clear FIN TA TZ D8
    generalize hz:(ts++[(3,T,rl)]).length=z at *
    go_wp2_with fail
    have BF:=(HZ.out.1.set 0 (.int .i64 0)).set 1 (.int .i64 0)
    have z0:=BF.cell 0
    have z1:=BF.cell 1
    have bl:=(HZ.out.2.setCell (p:=⟨W.heap.size,0,none⟩) (Nat.le_refl _) (.int .i64 0)).setCell (p:=⟨W.heap.size,1,none⟩) (Nat.le_refl _) (.int .i64 0)
    rw [EA.out]
    refine bodyPost_ret (v:=.tuple #[.slice Az z cz,.agg #[.int .i64 0,.int .i64 0]]) (by simp [results,Tryd.results7,go_sem,z0,z1]) rfl ⟨Az,cz,by rw [hz],?_,bl⟩
    rw [hz]
    exact HT.out
   ·have hk':((rk:Int)==3)=false:=by simpa using fun q=>hk (by omega)
    have FIN:=zh (HH.out.2.1.2.2 rfl hk)
    clear hk
    go_wp2_with fail
    go_roundg (s.size-(rl+rz))
    case measure=>have:=FIN.out.2;have:=HH.out.2.2.1;have:=HH.out.2.2.2.2.1;omega
    case rel=>exact ⟨rl+rz,ts++[(rk,T,rl)],v8,rfl,by have:=HH.out.2.2.1;omega,rfl,by rw [HH.out.1,FIN.out.1,LexAns.pre_push],by have:=FIN.out.2;have:=HH.out.2.2.1;have:=HH.out.2.2.2.2.2;rw [List.length_append];simp;omega,D8.out⟩
end
section
open Go.RowKit
def Zb4 (l:List UInt8):List Tok×Int×Nat:=
 if 6000<l.length then ([],13,0) else match Zat l 0 with
  | .bad a=>([],10,a)
  | .ok ts=>(ts,0,0)
def ZfL (w:World) (r:List Tok×Int×Nat) (e:Ending) (w':World):Prop:=
 ∃ A c,e=.returned (.tuple #[.slice A r.1.length c,.agg #[.int .i64 r.2.1,.int .i64 r.2.2]])/\ZaJ w' (.slice A r.1.length c) r.1/\Below w.heap.size w w'
theorem ZiR {l:List UInt8} (h:6000<l.length):Zb4 l=([],13,0):=if_pos h
theorem ZiQ {l:List UInt8} {a:Nat} (h:l.length<=6000) (q:Zat l 0=.bad a):Zb4 l=([],10,a):=by
 unfold Zb4
 rw [if_neg (by omega),q]
theorem Zfu {l:List UInt8} {ts:List Tok} (h:l.length<=6000) (q:Zat l 0=.ok ts):Zb4 l=(ts,0,0):=by
 unfold Zb4
 rw [if_neg (by omega),q]
theorem Zma {w:World} {s:ByteArray} {e:Ending} {w':World} (h:s.size<=6000) (hp:Zke w (Zat s.data.toList 0) e w'):ZfL w (Zb4 s.data.toList) e w':=by
 have hl:s.data.toList.length<=6000:=by rw [Zbi];exact h
 cases q:Zat s.data.toList 0 with
 | bad a=>
  rw [q] at hp
  rw [ZiQ hl q]
  exact ⟨none,0,hp.1,ZaJ.nil _,hp.2⟩
 | ok ts=>
  rw [q] at hp
  rw [Zfu hl q]
  exact hp
theorem Zl9 {w:World} {s:ByteArray} {e:Ending} {w':World} (h:6000<s.size) (hp:e=.returned (.tuple #[.slice none 0 0,.agg #[.int .i64 13,.int .i64 0]])/\Below w.heap.size w w'):ZfL w (Zb4 s.data.toList) e w':=by
 rw [ZiR (by rw [Zbi];exact h)]
 exact ⟨none,0,hp.1,ZaJ.nil _,hp.2⟩
theorem ZiV (s:ByteArray) (w:World) (ht:Zaf w 0 Zp):Calls Tryd.prog 7 #[.string s] w (ZfL w (Zb4 s.data.toList)):=by
 by_cases h:s.size<=6000
 ·exact (ZiT s w h ht).mono fun _ _ hp=>Zma h hp
 ·exact (ZiU s w (by omega)).mono fun _ _ hp=>Zl9 (by omega) hp
end
end Go.Proofs.YtfdgeijnkkdplaaDoor
