import Derived.Test.YtenbomphkihmlaaGreatDoorQBK
import Derived.Test.YtenbomphkihmlaaGreatDoorQBL
import Derived.Test.YtenbomphkihmlaaGreatDoorQBM
import Derived.Test.YtenbomphkihmlaaGreatDoorQBQ
set_option maxRecDepth 100000
set_option maxHeartbeats 8000000
namespace Go.Proofs.YtenbomphkihmlaaGreatDoor
section
open Go.RowKit
structure Nw (w0 w wi:World) (bp b:Nat) (t:Txt) (dp:Nat) (vn:Value) (cs:Array Value):Prop where
 p:PrS w0 wi bp t dp vn
 k:Zm wi b 29 cs
 f:Fr w wi bp
theorem Nw.start {w0 w:World} {bp dp:Nat} {t:Txt} {vn:Value} (cs:Array Value) (h:PrS w0 w bp t dp vn):Nw w0 w (w.alloc (.cells cs 29)) bp w.heap.size t dp vn cs:=
 ⟨h.keep (Zb w _),Zm.start w cs _,Fr.of_below bp (Zb w _)⟩
theorem Nw.next {w0 w wi w':World} {bp b dp d2:Nat} {t t2:Txt} {vn:Value} {cs:Array Value} (h:Nw w0 w wi bp b t dp vn cs) (hp:PrS w0 w' bp t2 d2 vn) (hf:Fr wi w' bp):Nw w0 w w' bp b t2 d2 vn cs:=
 ⟨hp,hf.at_ _ _ _ (Za3 h.p h.k) (by decide) h.k,h.f.trans hf⟩
theorem Nw.below {w0 w wi w':World} {bp b dp:Nat} {t:Txt} {vn:Value} {cs:Array Value} (h:Nw w0 w wi bp b t dp vn cs) (hb:Below wi.heap.size wi w'):Nw w0 w w' bp b t dp vn cs:=
 ⟨h.p.keep hb,h.k.keep hb,h.f.trans (Fr.of_below bp hb)⟩
theorem Nw.drew {w0 w wi:World} {bp b dp:Nat} {t:Txt} {vn:Value} {cs:Array Value} (h:Nw w0 w wi bp b t dp vn cs):Nw w0 w wi.drew bp b t dp vn cs:=h.below (Zh wi)
theorem Zs {w0 W:World} {a:Addr} {n k:Nat} {l:List Txt} {x:Txt} (h4:ZB w0 w0.heap.size 1 (some a) n (l.map txt)) (hb:Below w0.heap.size w0 W) (hx:l[k]? = some x) (hn:k<n):W.cell? (a.add k)=some (txt x):=by
 obtain ⟨ad,e,c⟩:=ZaH h4 hb hx (by omega)
 injection e with e
 subst e
 exact c
theorem Zab {w0 W:World} {a:Addr} {n k:Nat} {l:List Int} {x:Int} (h4:ZB w0 w0.heap.size 1 (some a) n (l.map (Value.int .i64))) (hb:Below w0.heap.size w0 W) (hx:l[k]? = some x) (hn:k<n):W.cell? (a.add k)=some (.int .i64 x):=by
 obtain ⟨ad,e,c⟩:=Zp h4 hb hx (by omega)
 injection e with e
 subst e
 exact c
theorem Zeu:Zbb 89:=Zbg Tryz.func89 (by kernel_rfl) rfl
theorem Zd6:Zbb 90:=Zbg Tryz.func90 (by kernel_rfl) rfl
theorem Zfu:Zbb 30:=Zbg Tryz.func30 (by kernel_rfl) rfl
theorem Zf4:Zbb 28:=Zbg Tryz.func28 (by kernel_rfl) rfl
theorem Zf3:Zbb 13:=Zbg Tryz.func13 (by kernel_rfl) rfl
end
section
open Go.RowKit
theorem Zc5 (w0:World) (ns:List Nd) (dp:Nat) (ht:ZV w0 1 ZaN):Za4 46 w0 ns dp ZbZ Zai:=by
 intro w bp t vn x h hN hx hok hl
 obtain ⟨hw0,g,r,hn,h0,h2⟩:=hok
 have:g=0\/g=1\/g=2:=by omega
 rcases this with rfl | rfl | rfl
 ·exact Zg9 w0 w bp dp t vn x h hx ht r hn hw0 (by omega)
 ·exact Zha w0 w bp dp t vn x h hx ht r hn hw0 (by omega)
 ·exact Zhb w0 w bp dp t vn x h hx ht r hn hw0 (by omega)
def ZbU:List Txt:=[Zaz 0,Zaz 1,Zaz 2,Zaz 3,Zaz 4]
theorem Zh2 {w0 W:World} (h:ZV w0 0 ZbU) (hb:Below w0.heap.size w0 W) (k:Nat) (hk:k<=4):W.cell? ⟨0,k,none⟩=some (txt (Zaz k)):=by
 refine ZbM h hb ?_
 have:k=0\/k=1\/k=2\/k=3\/k=4:=by omega
 rcases this with rfl | rfl | rfl | rfl | rfl<;>rfl
theorem Zct {w0 W:World} {b cw cu:Nat} {aw au:Addr} {ws:List Txt} {nums:List Int} {kd ps:Value} {vk:Value} {s1 s2:Txt} {p:Nat} (hk:Zm W b 29 #[kd,.slice (some aw) ws.length cw,.slice (some au) nums.length cu,vk,ps]) (hb:Below w0.heap.size w0 W)
  (hW:ZB w0 w0.heap.size 1 (some aw) ws.length (ws.map txt)) (hU:ZB w0 w0.heap.size 1 (some au) nums.length (nums.map (Value.int .i64))) (h0:ws[0]? = some s1) (h1:ws[1]? = some s2) (g0:nums[0]? = some (p:Int)) (ht:ZV w0 0 ZbU) (hp:p<=4) :
  (W.cell? ⟨b,1,none⟩=some (.slice (some aw) ws.length cw)/\W.cell? ⟨b,2,none⟩=some (.slice (some au) nums.length cu)/\W.cell? aw=some (txt s1)/\W.cell? (aw.add 1)=some (txt s2)/\W.cell? ⟨aw.block,aw.off+1,none⟩=some (txt s2)/\W.cell? au=some (.int .i64 (p:Int))/\W.cell? ⟨0,p,none⟩=some (txt (Zaz p)))/\Zm W b 29 #[kd,.slice (some aw) ws.length cw,.slice (some au) nums.length cu,vk,ps]/\Below w0.heap.size w0 W:=by
 have c1:=hk.blk.cell 1
 have c2:=hk.blk.cell 2
 simp only [List.getElem?_toArray,List.getElem?_cons_zero,List.getElem?_cons_succ] at c1 c2
 have l1:=(List.getElem?_eq_some_iff.1 h1).1
 have e1:=Zs hW hb h1 l1
 exact ⟨⟨c1,c2,Zs hW hb h0 (by omega),e1,e1,Zab hU hb g0 (List.getElem?_eq_some_iff.1 g0).1,Zh2 ht hb p hp⟩,hk,hb⟩
def ZaC (ns:List Nd) (l:List Int):Txt:=(l.map fun k=>Zai (Ze ns k)).flatten
theorem ZcX {ns:List Nd} {l:List Int} {i:Nat} {k:Int} (h:l[i]? = some k):ZaC ns (l.take (i+1))=ZaC ns (l.take i)++Zai (Ze ns k):=by
 unfold ZaC
 rw [List.take_add_one,h,List.map_append,List.flatten_append]
 simp
theorem ZdR {ns:List Nd} {l:List Int} (i:Nat):(ZaC ns (l.take i)).length<=(ZaC ns l).length:=by
 have e:ZaC ns l=ZaC ns (l.take i)++ZaC ns (l.drop i):=by
  unfold ZaC
  rw [<- List.flatten_append,<- List.map_append,List.take_append_drop]
 rw [e,List.length_append]
 omega
end
section
open Go.RowKit
theorem ZeS:∀ (r:List Txt) (k:Nat) (x:Txt),(Zap r)[k]? = some x->∃ u v,r[2*k]? = some u/\r[2*k+1]? = some v/\x=u++[32]++v
 | [],k,x,h=>by simp [Zap] at h
 | [a],k,x,h=>by simp [Zap] at h
 | a::b::r,0,x,h=>by
  simp [Zap] at h
  exact ⟨a,b,rfl,rfl,by simp [h]⟩
 | a::b::r,k+1,x,h=>by
  rw [Zap,List.getElem?_cons_succ] at h
  obtain ⟨u,v,h1,h2,h3⟩:=ZeS r k x h
  exact ⟨u,v,by rw [show 2*(k+1)=2*k+1+1 by omega];exact h1,by rw [show 2*(k+1)+1=2*k+1+1+1 by omega];exact h2,h3⟩
theorem ZbW:∀ (r:List Txt),(Zap r).length=r.length / 2
 | []=>by simp [Zap]
 | [_]=>by simp [Zap]
 | a::b::r=>by
  rw [Zap,List.length_cons,ZbW r]
  simp only [List.length_cons]
  omega
theorem Zei {w0:World} {a:Addr} {n b:Nat} {l:List Value} (h:ZB w0 b 1 (some a) n l) (k:Nat) (hk:k<n):ZB w0 b 1 (some (a.add k)) (n-k) (l.drop k):=by
 obtain ⟨h1,h2⟩:=h
 obtain ⟨ad,e,hb,hc⟩:=h2 (by omega)
 injection e with e
 subst e
 refine ⟨by rw [List.length_drop,h1];omega,fun _=>⟨a.add k,rfl,by rw [Zan];exact hb,fun i v hv=>?_⟩⟩
 rw [List.getElem?_drop] at hv
 rw [Zcj]
 exact hc _ _ hv
theorem Zdk {w0 W:World} {b2 b4 bp c m m1:Nat} {A:Addr} {r:List Txt} {u v:Txt} (h2:Zm W b2 34 #[ZW bp]) (h4:Zm W b4 26 #[.slice (some A) r.length c]) (hb:Below w0.heap.size w0 W) (hR:ZB w0 w0.heap.size 1 (some A) r.length (r.map txt)) (hu:r[m]? = some u) (hv:r[m1]? = some v) :
  (W.cell? ⟨b2,0,none⟩=some (ZW bp)/\W.cell? ⟨b4,0,none⟩=some (.slice (some A) r.length c)/\W.cell? (A.add m)=some (txt u)/\W.cell? (A.add m1)=some (txt v))/\Zm W b2 34 #[ZW bp]/\Zm W b4 26 #[.slice (some A) r.length c]/\Below w0.heap.size w0 W:=
 ⟨⟨ZZ h2,ZZ h4,Zs hR hb hu (List.getElem?_eq_some_iff.1 hu).1,Zs hR hb hv (List.getElem?_eq_some_iff.1 hv).1⟩,h2,h4,hb⟩
theorem Zii (w0 w:World) (bp dp b2 b4:Nat) (t:Txt) (vn:Value) (A:Addr) (c:Nat) (r:List Txt) (k:Nat) (u v:Txt) (h:PrS w0 w bp t dp vn)
  (hB2:Zm w b2 34 #[ZW bp]) (hB4:Zm w b4 26 #[.slice (some A) r.length c])
  (hR:ZB w0 w0.heap.size 1 (some A) r.length (r.map txt)) (hm:r.length<=maxLen) (hu:r[2*k]? = some u) (hv:r[2*k+1]? = some v) (hl:t.length+(u++[32]++v).length+10000<=140737488355328) :
  Calls Tryz.prog 43 #[.int .i64 (k:Int),ZW b2,ZW b4] w fun e w'=>e=.returned (.tuple #[])/\PrS w0 w' bp (t++(u++[32]++v)) dp vn/\Fr w w' bp:=by
 obtain ⟨m,em⟩:∃ m,m=2*k:=⟨_,rfl⟩
 obtain ⟨m1,em1⟩:∃ m1,m1=m+1:=⟨_,rfl⟩
 rw [<- em] at hu
 rw [<- em,<- em1] at hv
 have lm:=(List.getElem?_eq_some_iff.1 hv).1
 have e9:maxLen=9223372036854775807:=rfl
 have w1:IntKind.i64.wrap (2*(k:Int))=(m:Int):=(IntWalk.i64_in _ (by omega)).trans (by omega)
 have w2:IntKind.i64.wrap ((m:Int)+1)=(m1:Int):=(IntWalk.i64_in _ (by omega)).trans (by omega)
 have i0:(0:Int)<=(m:Int):=by omega
 have i1:(m:Int)<(r.length:Int):=by omega
 have i2:(0:Int)<=(m1:Int):=by omega
 have i3:(m1:Int)<(r.length:Int):=by omega
 simp only [List.length_append,List.length_cons,List.length_nil] at hl
 have P1:=h.keep (Zh w)
 have AD:=Lib.hid (ZiI w0 w.drew bp dp t vn u [32] v P1 (by simp only [List.length_cons,List.length_nil];omega))
 have HX:=Lib.hid (And.intro h (And.intro hB2 (And.intro hB4 (And.intro hR (And.intro hu hv)))))
 have hb0:=h.below
 have HS:=Zdk (hB2.keep (Zh w)) (hB4.keep (Zh w)) P1.below hR hu hv
 clear em em1 lm e9 hl P1 h hB2 hB4 hR hm hu hv hb0
 go_enter Tryz.func43,Tryz.ntmps43
 go_upto_region 0 with fail
 refine wp_region_noPanic ?_
 refine wp_region_held_drew (S:=fun W:World=>(W.cell? ⟨b2,0,none⟩=some (ZW bp)/\W.cell? ⟨b4,0,none⟩=some (.slice (some A) r.length c)/\W.cell? (A.add m)=some (txt u)/\W.cell? (A.add m1)=some (txt v))/\Zm W b2 34 #[ZW bp]/\Zm W b4 26 #[.slice (some A) r.length c]/\Below w0.heap.size w0 W) (by kernel_rfl) HS (fun hHeld=>?_)
 clear HS
 refine tk 0 rfl ?_
 refine tk 1 rfl ?_
 refine tk 2 rfl ?_
 refine tk 3 rfl ?_
 refine tk 4 rfl ?_
 refine tk 5 rfl ?_
 refine tk 6 rfl ?_
 refine tk 7 rfl ?_
 refine tk 8 rfl ?_
 refine tk 9 rfl ?_
 refine tk 10 rfl ?_
 refine tk 11 rfl ?_
 refine tk 12 rfl ?_
 refine tk 13 rfl ?_
 (try simp only [cl,Act.put])
 refine rd 14 rfl fun K hK=>?_
 go_simp
 refine hK.out _ _ ?_ (fun hH2=>?_)
 ·exact Zdk (hHeld.2.1.keep (Zb _ _)) (hHeld.2.2.1.keep (Zb _ _)) (hHeld.2.2.2.trans ((Zb _ _).mono hHeld.2.2.2.size)) HX.out.2.2.2.1 HX.out.2.2.2.2.1 HX.out.2.2.2.2.2
 clear hK K hHeld;have hHeld:=hH2;clear hH2
 (try simp only [cl,Act.put])
 refine rd 15 rfl fun K hK=>?_
 go_simp
 go_at_call 26
 refine AD.out.mono ?_
 rintro e w9 ⟨rfl,hp,hf⟩
 have H9:=Lib.hid (And.intro hp ((Fr.of_below bp (Zh w)).trans hf))
 have hb:=hp.below
 clear hp hf
 go_wp2_with fail
 refine hK.out _ _ (Zdk (H9.out.2.at_ _ _ _ (Zal HX.out.1 HX.out.2.1 (by decide)) (by decide) HX.out.2.1) (H9.out.2.at_ _ _ _ (Zal HX.out.1 HX.out.2.2.1 (by decide)) (by decide) HX.out.2.2.1) (H9.out.1.below) HX.out.2.2.2.1 HX.out.2.2.2.2.1 HX.out.2.2.2.2.2) (fun hH2=>?_)
 clear hK K hHeld hb;have hHeld:=hH2;clear hH2
 (try simp only [cl,Act.put])
 refine wpAnyH_done (by kernel_rfl) ?_ _
 refine NoPanic.normal ?_
 clear hHeld
 go_wp2_with fail
 go_end0
 exact ⟨rfl,H9.out⟩
end
end Go.Proofs.YtenbomphkihmlaaGreatDoor
