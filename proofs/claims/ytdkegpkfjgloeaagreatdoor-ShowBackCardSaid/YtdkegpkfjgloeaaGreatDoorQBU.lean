import Derived.Test.YtdkegpkfjgloeaaGreatDoorQBR
set_option maxRecDepth 100000
set_option maxHeartbeats 8000000
open Option renaming some → Ya
open Go.RowKit
namespace Go.Proofs.YtdkegpkfjgloeaaGreatDoor
theorem ZjH:∀(r:List Txt) (k:Nat) (x:Txt),(Zbb r)[k]? = Ya x->∃u v,r[2*k]? = Ya u/\r[2*k+1]? = Ya v/\x=u++[32]++v
 |[],k,x,h=>by simp[Zbb]at h
 |[a],k,x,h=>by simp[Zbb]at h
 |a::b::r,0,x,h=>by
  simp[Zbb]at h;exact⟨a,b,rfl,rfl,by simp[h]⟩
 |a::b::r,k+1,x,h=>by
  rw[Zbb,List.getElem?_cons_succ]at h;obtain⟨u,v,c,d,e⟩:=ZjH r k x h;exact⟨u,v,by rw[show 2*(k+1)=2*k+1+1 by omega];exact c,by rw[show 2*(k+1)+1=2*k+1+1+1 by omega];exact d,e⟩
theorem ZeQ:∀(r:List Txt),(Zbb r).length=r.length / 2
 |[]=>by simp[Zbb]
 |[_]=>by simp[Zbb]
 |a::b::r=>by
  rw[Zbb,Yk,ZeQ r];simp only[Yk];omega
theorem ZiS {c:World} {a:Addr} {n b:Nat} {l:List Value} (h:ZO c b 1 (Ya a) n l) (k:Nat) (hk:k<n):ZO c b 1 (Ya (a.add k)) (n-k) (l.drop k):=by obtain⟨d,f⟩:=h;obtain⟨j,e,g,hc⟩:=f (by omega);injection e with e;subst e;refine⟨by rw[List.length_drop,d];omega,fun _=>⟨a.add k,rfl,by rw[Zbq];exact g,fun i v hv=>?_⟩⟩;rw[List.getElem?_drop]at hv;rw[Zfy];exact hc _ _ hv
theorem Zhk {a W:World} {b d e c m k:Nat} {A:Addr} {r:List Txt} {u v:Txt} (g:Zk W b 39 #[ZaK e]) (h:Zk W d 33 #[.slice (Ya A) r.length c]) (f:Below a.heap.size a W) (i:ZO a a.heap.size 1 (Ya A) r.length (r.map txt)) (j:r[m]? = Ya u) (hv:r[k]? = Ya v) :
  (W.cell? ⟨b,0,none⟩=Ya (ZaK e)/\W.cell? ⟨d,0,none⟩=Ya (.slice (Ya A) r.length c)/\W.cell? (A.add m)=Ya (txt u)/\W.cell? (A.add k)=Ya (txt v))/\Zk W b 39 #[ZaK e]/\Zk W d 33 #[.slice (Ya A) r.length c]/\Below a.heap.size a W:=
 ⟨⟨one_cell g,one_cell h,Zw i f j (List.getElem?_eq_some_iff.1 j).1,Zw i f hv (List.getElem?_eq_some_iff.1 hv).1⟩,g,h,f⟩
theorem Zpa (j w:World) (f B q s:Nat) (t:Txt) (G:Value) (A:Addr) (c:Nat) (r:List Txt) (k:Nat) (u v:Txt) (h:PrS j w f t B G)
  (g:Zk w q 39 #[ZaK f]) (i:Zk w s 33 #[.slice (Ya A) r.length c])
  (D:ZO j j.heap.size 1 (Ya A) r.length (r.map txt)) (hm:r.length<=maxLen) (y:r[2*k]? = Ya u) (hv:r[2*k+1]? = Ya v) (J:t.length+(u++[32]++v).length+10000<=140737488355328) :
  Calls Tryz.prog 58 #[.int .i64 (k:Int),ZaK q,ZaK s] w fun e w'=>e=.returned (.tuple #[])/\PrS j w' f (t++(u++[32]++v)) B G/\Fr w w' f:=by
 obtain⟨m,C⟩:∃m,m=2*k:=⟨_,rfl⟩
 obtain⟨l,n⟩:∃l,l=m+1:=⟨_,rfl⟩
 rw[<-C]at y;rw[<-C,<-n]at hv;have O:=(List.getElem?_eq_some_iff.1 hv).1;have M:maxLen=9223372036854775807:=rfl;have Q:IntKind.i64.wrap (2*(k:Int))=(m:Int):=(IntWalk.i64_in _ (by omega)).trans (by omega);have R:IntKind.i64.wrap ((m:Int)+1)=(l:Int):=(IntWalk.i64_in _ (by omega)).trans (by omega);have i0:(0:Int)<=(m:Int):=by omega
 have P:(m:Int)<(r.length:Int):=by omega
 have i2:(0:Int)<=(l:Int):=by omega
 have i3:(l:Int)<(r.length:Int):=by omega
 simp only[Yj,Yk,Yl]at J;have z:=h.keep (Zp w);have L:=zh (Zp1 j w.drew f B t G u [32] v z (by simp only[Yk,Yl];omega));have b:=zh (zi h (zi g (zi i (zi D (zi y hv)))));have E:=h.below;have H:=Zhk (g.keep (Zp w)) (i.keep (Zp w)) z.below D y hv;clear C n O M J z h g i D hm y hv E;go_enter Tryz.func58,Tryz.ntmps58;go_upto_region 0 with fail;refine wp_region_noPanic ?_;refine wp_region_held_drew (S:=fun W:World=>(W.cell? ⟨q,0,none⟩=Ya (ZaK f)/\W.cell? ⟨s,0,none⟩=Ya (.slice (Ya A) r.length c)/\W.cell? (A.add m)=Ya (txt u)/\W.cell? (A.add l)=Ya (txt v))/\Zk W q 39 #[ZaK f]/\Zk W s 33 #[.slice (Ya A) r.length c]/\Below j.heap.size j W) (by kernel_rfl) H (fun a=>?_);clear H;refine tk 0 rfl ?_;refine tk 1 rfl ?_;refine tk 2 rfl ?_;refine tk 3 rfl ?_;refine tk 4 rfl ?_;refine tk 5 rfl ?_;refine tk 6 rfl ?_;refine tk 7 rfl ?_;refine tk 8 rfl ?_;refine tk 9 rfl ?_;refine tk 10 rfl ?_;refine tk 11 rfl ?_;refine tk 12 rfl ?_;refine tk 13 rfl ?_;(try simp only[cl,Act.put]);refine rd 14 rfl fun K o=>?_;go_simp;refine o.out _ _ ?_ (fun d=>?_)
 ·exact Zhk (a.2.1.keep (below_alloc1 _ _)) (a.2.2.1.keep (below_alloc1 _ _)) (a.2.2.2.trans ((below_alloc1 _ _).mono a.2.2.2.size)) b.out.2.2.2.1 b.out.2.2.2.2.1 b.out.2.2.2.2.2
 clear o K a;have a:=d;clear d;(try simp only[cl,Act.put]);refine rd 15 rfl fun K o=>?_;go_simp;go_at_call 32;refine L.out.mono ?_;rintro e T ⟨rfl,F,I⟩;have p:=zh (zi F ((Fr.of_below f (Zp w)).trans I));have N:=F.below;clear F I;go_wp2_with fail;refine o.out _ _ (Zhk (p.out.2.at_ _ _ _ (Zby b.out.1 b.out.2.1 (by decide)) (by decide) b.out.2.1) (p.out.2.at_ _ _ _ (Zby b.out.1 b.out.2.2.1 (by decide)) (by decide) b.out.2.2.1) (p.out.1.below) b.out.2.2.2.1 b.out.2.2.2.2.1 b.out.2.2.2.2.2) (fun d=>?_);clear o K a N;have a:=d;clear d;(try simp only[cl,Act.put]);refine wpAnyH_done (by kernel_rfl) ?_ _;refine NoPanic.normal ?_;clear a;go_wp2_with fail;go_end0;exact⟨rfl,p.out⟩
end Go.Proofs.YtdkegpkfjgloeaaGreatDoor
