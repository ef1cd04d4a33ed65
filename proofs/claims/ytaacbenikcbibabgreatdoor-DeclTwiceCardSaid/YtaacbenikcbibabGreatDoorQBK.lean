import Derived.Test.YtaacbenikcbibabGreatDoorQAA
import Derived.Test.YtaacbenikcbibabGreatDoorQBI
import Derived.Test.YtaacbenikcbibabGreatDoorQBJ
set_option maxRecDepth 100000
set_option maxHeartbeats 8000000
namespace Go.Proofs.YtaacbenikcbibabGreatDoor
section
open Go.RowKit
theorem Zeo (w:World) (cs:Array Value) (ty:TypeId) (j:Nat) (u:Value) (h:cs[j]? = some u):(w.alloc (.cells cs ty)).cell? (Addr.add ⟨w.heap.size,0,none⟩ j)=some u:=by
 rw [Addr.add_lit,Nat.zero_add,(Blk.start w cs ty).cell j]
 exact h
theorem ZbO (w:World) (us:List Value) (ty:TypeId):Zs (w.alloc (.cells us.toArray ty)) (w.alloc (.cells us.toArray ty)).heap.size 1 (some ⟨w.heap.size,0,none⟩) us.length us:=
 ⟨by simp,fun _=>⟨_,rfl,(Blk.start w us.toArray ty).lt,fun j u hj=>Zeo w us.toArray ty j u (by simpa using hj)⟩⟩
theorem ZcV (w:World) (l:List Int) (ty:TypeId) (h:l.length<=maxLen):ZL (w.alloc (.cells (l.map (Value.int .i64)).toArray ty)) (.slice (some ⟨w.heap.size,0,none⟩) l.length l.length) l:=
 ⟨_,_,rfl,Nat.le_refl _,h,by simpa using ZbO w (l.map (Value.int .i64)) ty⟩
def Zek (w:World):List Tst->List Value->Prop
 | [],[]=>True
 | t::ts,u::us=>Zq w t u/\Zek w ts us
 | _,_=>False
theorem ZfP {w:World}:∀ {ts:List Tst} {us:List Value},Zek w ts us->us.length=ts.length/\∀ (i:Nat) (t:Tst) (u:Value),ts[i]? = some t->us[i]? = some u->Zq w t u
 | [],[],_=>⟨rfl,fun i t u h=>by simp at h⟩
 | [],_::_,h=>h.elim
 | _::_,[],h=>h.elim
 | t::ts,u::us,h=>by
  obtain ⟨h1,h2⟩:=ZfP h.2
  refine ⟨by rw [List.length_cons,List.length_cons,h1],fun i t' u' a b=>?_⟩
  cases i with
  | zero=>
   obtain rfl:t=t':=by simpa using a
   obtain rfl:u=u':=by simpa using b
   exact h.1
  | succ i=>exact h2 i t' u' (by simpa using a) (by simpa using b)
theorem Zas (w:World) (ts:List Tst) (us:List Value) (ty:TypeId) (hm:us.length<=maxLen) (h:Zek (w.alloc (.cells us.toArray ty)) ts us):ZY (w.alloc (.cells us.toArray ty)) (.slice (some ⟨w.heap.size,0,none⟩) us.length us.length) ts:=by
 obtain ⟨h1,h2⟩:=ZfP h
 exact ⟨_,us.length,us,by rw [h1],by rw [h1];exact Nat.le_refl _,hm,h1,by rw [<- h1];exact ZbO w us ty,h2⟩
theorem Zi (w:World) (a:Int) (ty:TypeId):Calls Tryz.prog 55 #[.slice (some ⟨w.heap.size,0,none⟩) 1 1] (w.alloc (.cells #[.int .i64 a] ty)) fun e w'=>(∃ u,e=.returned u/\Zq w' (.is [a]) u)/\Below (w.alloc (.cells #[.int .i64 a] ty)).heap.size (w.alloc (.cells #[.int .i64 a] ty)) w':=Zex _ _ [a] (ZcV w [a] ty (by simp [maxLen]))
theorem Zg (w:World) (a:Int) (ty:TypeId):Calls Tryz.prog 55 #[.slice (some ⟨w.heap.size,0,none⟩) 1 1] (w.alloc (.cells #[.int .i64 a] ty)).drew fun e w'=>(∃ u,e=.returned u/\Zq w' (.is [a]) u)/\Below (w.alloc (.cells #[.int .i64 a] ty)).drew.heap.size (w.alloc (.cells #[.int .i64 a] ty)).drew w':=Zex _ _ [a] ((ZcV w [a] ty (by simp [maxLen])).below (Zp _))
theorem Za9 (w:World) (a b:Int) (ty:TypeId):Calls Tryz.prog 55 #[.slice (some ⟨w.heap.size,0,none⟩) 2 2] (w.alloc (.cells #[.int .i64 a,.int .i64 b] ty)) fun e w'=>(∃ u,e=.returned u/\Zq w' (.is [a,b]) u)/\Below (w.alloc (.cells #[.int .i64 a,.int .i64 b] ty)).heap.size (w.alloc (.cells #[.int .i64 a,.int .i64 b] ty)) w':=Zex _ _ [a,b] (ZcV w [a,b] ty (by simp [maxLen]))
theorem Zbz {n:Nd} {a b:Nat} (h:Zj n a b=true):n.words.length=a/\n.nums.length=b:=by
 unfold Zj at h
 rw [Bool.and_eq_true,decide_eq_true_eq,decide_eq_true_eq] at h
 exact h
theorem Za8 (w:World):ZY w (.slice none 0 0) []:=⟨none,0,[],rfl,Nat.le_refl _,by decide,rfl,Zs.none_,fun i t u h=>by simp at h⟩
end
section
open Go.RowKit
theorem ZeF (w:World) (v:Value) (ns:List Nd) (va vb vc:Value) (ws:List (List UInt8)) (nums ks:List Int) (ps:Int) (hN:Zo w v ns) (hx:ZO w ((va,vb,vc),⟨7,ws,nums,ks,ps⟩)) (hk:ZA ks ns.length) :
  Calls Tryz.prog 40 #[v,ndV ((va,vb,vc),⟨7,ws,nums,ks,ps⟩)] w fun e w'=>e=.returned (.bool (Zn ns ⟨7,ws,nums,ks,ps⟩))/\Below w.heap.size w w':=by
 rw [show Zn ns ⟨7,ws,nums,ks,ps⟩=(Zj ⟨7,ws,nums,ks,ps⟩ 0 0&&ZaB ns ks ZbS) from rfl]
 obtain ⟨h1,h2,h3⟩:=id hx
 dsimp only at h1 h2 h3
 have AR:=Lib.hid (fun (wr:World) (hb:Below w.heap.size w wr) (vf:Value) (ts:List Tst) (hF:ZY wr vf ts)=>ZE wr v vc vf ns ks ts (hN.below hb) (h3.below hb) hF hk)
 have ALL:=Lib.hid (fun (wr:World) (hb:Below w.heap.size w wr) (u:Value) (t:Tst) (hu:Zq wr t u)=>ZD wr v vc u ns ks t (hN.below hb) (h3.below hb) hu hk)
 have HS0:=Lib.hid (fun (wr:World) (hb:Below w.heap.size w wr) (a b:Nat)=>ZK wr _ a b (hx.below hb))
 obtain ⟨A1,c1,rfl,_⟩:=h1
 obtain ⟨A2,c2,rfl,_,_,R2'⟩:=h2
 have R2:=Lib.hid R2'
 clear R2'
 obtain ⟨A3,c3,rfl,_⟩:=h3
 unfold ndV at HS0 ⊢
 dsimp only at HS0 ⊢
 clear hx hN hk
 have STB:=Lib.hid (show Stb (fun w'=>(w'.cell? ⟨w.heap.size,0,none⟩=some (.int .i64 7)/\w'.cell? ⟨w.heap.size,1,none⟩=some (.slice A1 ws.length c1)/\w'.cell? ⟨w.heap.size,2,none⟩=some (.slice A2 nums.length c2)/\w'.cell? ⟨w.heap.size,3,none⟩=some (.slice A3 ks.length c3)/\w'.cell? ⟨w.heap.size,4,none⟩=some (.int .i64 ps))/\Below w.heap.size w w') from Zd (Zd (Zc _ _) (Zd (Zc _ _) (Zd (Zc _ _) (Zd (Zc _ _) (Zc _ _))))) (Zr w))
 go_enter Tryz.func40,Tryz.ntmps40
 go_upto_region 1 with fail
 have HS1:((w.alloc (.cells #[.int .i64 7,.slice A1 ws.length c1,.slice A2 nums.length c2,.slice A3 ks.length c3,.int .i64 ps] 27)).cell? ⟨w.heap.size,0,none⟩=some (.int .i64 7)/\(w.alloc (.cells #[.int .i64 7,.slice A1 ws.length c1,.slice A2 nums.length c2,.slice A3 ks.length c3,.int .i64 ps] 27)).cell? ⟨w.heap.size,1,none⟩=some (.slice A1 ws.length c1)/\(w.alloc (.cells #[.int .i64 7,.slice A1 ws.length c1,.slice A2 nums.length c2,.slice A3 ks.length c3,.int .i64 ps] 27)).cell? ⟨w.heap.size,2,none⟩=some (.slice A2 nums.length c2)/\(w.alloc (.cells #[.int .i64 7,.slice A1 ws.length c1,.slice A2 nums.length c2,.slice A3 ks.length c3,.int .i64 ps] 27)).cell? ⟨w.heap.size,3,none⟩=some (.slice A3 ks.length c3)/\(w.alloc (.cells #[.int .i64 7,.slice A1 ws.length c1,.slice A2 nums.length c2,.slice A3 ks.length c3,.int .i64 ps] 27)).cell? ⟨w.heap.size,4,none⟩=some (.int .i64 ps))/\Below w.heap.size w (w.alloc (.cells #[.int .i64 7,.slice A1 ws.length c1,.slice A2 nums.length c2,.slice A3 ks.length c3,.int .i64 ps] 27)):=⟨⟨(Blk.start w _ _).cell 0,(Blk.start w _ _).cell 1,(Blk.start w _ _).cell 2,(Blk.start w _ _).cell 3,(Blk.start w _ _).cell 4⟩,Za w _⟩
 generalize (w.alloc (.cells #[.int .i64 7,.slice A1 ws.length c1,.slice A2 nums.length c2,.slice A3 ks.length c3,.int .i64 ps] 27))=w1 at *
 have HS:(w1.drew.cell? ⟨w.heap.size,0,none⟩=some (.int .i64 7)/\w1.drew.cell? ⟨w.heap.size,1,none⟩=some (.slice A1 ws.length c1)/\w1.drew.cell? ⟨w.heap.size,2,none⟩=some (.slice A2 nums.length c2)/\w1.drew.cell? ⟨w.heap.size,3,none⟩=some (.slice A3 ks.length c3)/\w1.drew.cell? ⟨w.heap.size,4,none⟩=some (.int .i64 ps))/\Below w.heap.size w w1.drew:=⟨HS1.1,HS1.2.drew⟩
 clear HS1
 refine wp_region_noPanic ?_
 refine wp_region_held_drew (S:=(fun w'=>(w'.cell? ⟨w.heap.size,0,none⟩=some (.int .i64 7)/\w'.cell? ⟨w.heap.size,1,none⟩=some (.slice A1 ws.length c1)/\w'.cell? ⟨w.heap.size,2,none⟩=some (.slice A2 nums.length c2)/\w'.cell? ⟨w.heap.size,3,none⟩=some (.slice A3 ks.length c3)/\w'.cell? ⟨w.heap.size,4,none⟩=some (.int .i64 ps))/\Below w.heap.size w w')) (by kernel_rfl) HS (fun hHeld=>?_)
 clear HS
 refine tk 0 rfl ?_
 refine tk 1 rfl ?_
 refine tk 2 rfl ?_
 (try simp only [cl,Act.put])
 refine rd 3 rfl fun K hK=>?_
 go_simp
 refine hK.out _ _ ?_ (fun hH2=>?_)
 ·exact STB.out _ _ (Za _ _) (by with_reducible assumption)
 clear hK K hHeld;have hHeld:=hH2;clear hH2
 (try simp only [cl,Act.put])
 refine rd 4 rfl fun K hK=>?_
 go_simp
 (go_at_call 55;(with_reducible refine (Zg _ _ _).mono ?_);rintro e5 w5 ⟨⟨u,rfl,hT⟩,hb⟩;obtain ⟨bu,Au,cu,rfl,_,_⟩:=id hT)
 go_wp2_with fail
 refine hK.out _ _ (STB.out _ _ hb (by with_reducible assumption)) (fun hH2=>?_)
 clear hK K hHeld hb;have hHeld:=hH2;clear hH2
 (try simp only [cl,Act.put])
 refine tk 5 rfl ?_
 refine tk 6 rfl ?_
 (try simp only [cl,Act.put])
 refine wpAnyH_done (by kernel_rfl) ?_ _
 refine NoPanic.normal ?_
 have T3:=Lib.hid hT
 have H3:=Lib.hid (Zb hHeld)
 have HH:=Lib.hid hHeld
 clear hT
 obtain ⟨⟨g0,g1,g2,g3,g4⟩,_⟩:=hHeld
 have HA1:=Lib.hid (show ∀ wr:World,Below w.heap.size w wr->Calls Tryz.prog 56 #[.agg #[.int .i64 7,.slice A1 ws.length c1,.slice A2 nums.length c2,.slice A3 ks.length c3,.int .i64 ps],.int .i64 0,.int .i64 0] wr fun e w'=>e=.returned (.bool (Zj ⟨7,ws,nums,ks,ps⟩ 0 0))/\Below wr.heap.size wr w' from fun wr hb=>HS0.out wr hb 0 0)
 generalize hq:Zj ⟨7,ws,nums,ks,ps⟩ 0 0=H at HA1
 have HQ:=Lib.hid hq
 clear hq
 cases H
 ·go_wp2_with (go_at_call 56;(with_reducible refine (HA1.out _ H3.out).mono ?_);rintro e6 w6 ⟨rfl,hb6⟩;have K6:=Lib.hid (STB.out _ _ hb6 HH.out);have B6:=Lib.hid (Zb K6.out);clear hb6)
  go_ret
  exact ⟨by rw [HQ.out];rfl,B6.out⟩
 ·go_wp2_with (first
   | (go_at_call 56;(with_reducible refine (HA1.out _ H3.out).mono ?_);rintro e6 w6 ⟨rfl,hb6⟩;have K6:=Lib.hid (STB.out _ _ hb6 HH.out);have T6:=Lib.hid (T3.out.below hb6);have B6:=Lib.hid (Zb K6.out);obtain ⟨⟨k60,k61,k62,k63,k64⟩,_⟩:=id K6.out;have A6:=Lib.hid (ALL.out w6 B6.out (.func (.func 60) #[] #[]) .stmt rfl);clear hb6)
   | (go_at_call 57;(with_reducible refine (A6.out).mono ?_);rintro e7 w7 ⟨rfl,hb7⟩;have B7:=Lib.hid (B6.out.trans (hb7.mono B6.out.size));clear hb7))
  go_ret
  exact ⟨by rw [HQ.out];rfl,B7.out⟩
end
end Go.Proofs.YtaacbenikcbibabGreatDoor
