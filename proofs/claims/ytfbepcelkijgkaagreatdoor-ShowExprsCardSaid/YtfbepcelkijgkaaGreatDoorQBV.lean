import Derived.Test.YtfbepcelkijgkaaGreatDoorQBT
import Derived.Test.YtfbepcelkijgkaaGreatDoorQBU
set_option maxRecDepth 100000
set_option maxHeartbeats 8000000
open Option renaming some → Ya
open Go.Value renaming slice → Yc, int → Yd
open Go.IntKind renaming i64 → Yf
open Go renaming World → Yh
namespace Go.Proofs.YtfbepcelkijgkaaGreatDoor
section
open Go.RowKit
theorem ZjE:∀(r:List Txt) (k:Nat) (x:Txt),(ZcA r)[k]? = Ya x->∃u v,r[2*k]? = Ya u/\r[2*k+1]? = Ya v/\x=u++[32]++v
 |[],k,x,h=>by simp[ZcA]at h
 |[a],k,x,h=>by simp[ZcA]at h
 |a::b::r,0,x,h=>by
  simp[ZcA]at h;exact⟨a,b,rfl,rfl,by simp[h]⟩
 |a::b::r,k+1,x,h=>by
  rw[ZcA,List.getElem?_cons_succ]at h;obtain⟨u,v,c,d,e⟩:=ZjE r k x h;exact⟨u,v,by rw[show 2*(k+1)=2*k+1+1 by omega];exact c,by rw[show 2*(k+1)+1=2*k+1+1+1 by omega];exact d,e⟩
theorem ZeH:∀(r:List Txt),(ZcA r).length=r.length / 2
 |[]=>by simp[ZcA]
 |[_]=>by simp[ZcA]
 |a::b::r=>by
  rw[ZcA,Yk,ZeH r];simp only[Yk];omega
theorem ZiL {d:Yh} {a:Addr} {n b:Nat} {l:List Value} (h:ZM d b 1 (Ya a) n l) (k:Nat) (hk:k<n):ZM d b 1 (Ya (a.add k)) (n-k) (l.drop k):=by obtain⟨f,g⟩:=h;obtain⟨m,e,j,hc⟩:=g (by omega);injection e with e;subst e;refine⟨by rw[List.length_drop,f];omega,fun _=>⟨a.add k,rfl,by rw[Zbf];exact j,fun i v c=>?_⟩⟩;rw[List.getElem?_drop]at c;rw[Zfl];exact hc _ _ c
theorem Zha {a W:Yh} {b d e c m l:Nat} {A:Addr} {r:List Txt} {u v:Txt} (g:Zk W b 42 #[ZaF e]) (h:Zk W d 33 #[Yc (Ya A) r.length c]) (f:Below a.heap.size a W) (i:ZM a a.heap.size 1 (Ya A) r.length (r.map txt)) (j:r[m]? = Ya u) (k:r[l]? = Ya v) :
  (W.cell? ⟨b,0,none⟩=Ya (ZaF e)/\W.cell? ⟨d,0,none⟩=Ya (Yc (Ya A) r.length c)/\W.cell? (A.add m)=Ya (txt u)/\W.cell? (A.add l)=Ya (txt v))/\Zk W b 42 #[ZaF e]/\Zk W d 33 #[Yc (Ya A) r.length c]/\Below a.heap.size a W:=
 ⟨⟨one_cell g,one_cell h,Zv i f j (List.getElem?_eq_some_iff.1 j).1,Zv i f k (List.getElem?_eq_some_iff.1 k).1⟩,g,h,f⟩
theorem ZoV (j w:Yh) (f C s y:Nat) (t:Txt) (H:Value) (A:Addr) (c:Nat) (r:List Txt) (k:Nat) (u v:Txt) (h:PrS j w f t C H)
  (g:Zk w s 42 #[ZaF f]) (i:Zk w y 33 #[Yc (Ya A) r.length c])
  (E:ZM j j.heap.size 1 (Ya A) r.length (r.map txt)) (hm:r.length<=maxLen) (z:r[2*k]? = Ya u) (p:r[2*k+1]? = Ya v) (L:t.length+(u++[32]++v).length+10000<=140737488355328) :
  Calls Tryz.prog 65 #[Yd Yf (k:Int),ZaF s,ZaF y] w fun e w'=>e=.returned (.tuple #[])/\PrS j w' f (t++(u++[32]++v)) C H/\Fr w w' f:=by
 obtain⟨m,D⟩:∃m,m=2*k:=⟨_,rfl⟩
 obtain⟨l,n⟩:∃l,l=m+1:=⟨_,rfl⟩
 rw[<-D]at z;rw[<-D,<-n]at p;have P:=(List.getElem?_eq_some_iff.1 p).1;have N:maxLen=9223372036854775807:=rfl;have R:IntKind.i64.wrap (2*(k:Int))=(m:Int):=(IntWalk.i64_in _ (by omega)).trans (by omega);have T:IntKind.i64.wrap ((m:Int)+1)=(l:Int):=(IntWalk.i64_in _ (by omega)).trans (by omega);have i0:(0:Int)<=(m:Int):=by omega
 have Q:(m:Int)<(r.length:Int):=by omega
 have i2:(0:Int)<=(l:Int):=by omega
 have i3:(l:Int)<(r.length:Int):=by omega
 simp only[Yj,Yk,Yl]at L;have B:=h.keep (Zo w);have M:=zh (ZpJ j w.drew f C t H u [32] v B (by simp only[Yk,Yl];omega));have b:=zh (zi h (zi g (zi i (zi E (zi z p)))));have F:=h.below;have I:=Zha (g.keep (Zo w)) (i.keep (Zo w)) B.below E z p;clear D n P N L B h g i E hm z p F;go_enter Tryz.func65,Tryz.ntmps65;go_upto_region 0 with fail;refine wp_region_noPanic ?_;refine wp_region_held_drew (S:=fun W:Yh=>(W.cell? ⟨s,0,none⟩=Ya (ZaF f)/\W.cell? ⟨y,0,none⟩=Ya (Yc (Ya A) r.length c)/\W.cell? (A.add m)=Ya (txt u)/\W.cell? (A.add l)=Ya (txt v))/\Zk W s 42 #[ZaF f]/\Zk W y 33 #[Yc (Ya A) r.length c]/\Below j.heap.size j W) (by kernel_rfl) I (fun a=>?_);clear I;refine tk 0 rfl ?_;refine tk 1 rfl ?_;refine tk 2 rfl ?_;refine tk 3 rfl ?_;refine tk 4 rfl ?_;refine tk 5 rfl ?_;refine tk 6 rfl ?_;refine tk 7 rfl ?_;refine tk 8 rfl ?_;refine tk 9 rfl ?_;refine tk 10 rfl ?_;refine tk 11 rfl ?_;refine tk 12 rfl ?_;refine tk 13 rfl ?_;(try simp only[cl,Act.put]);refine rd 14 rfl fun K o=>?_;go_simp;refine o.out _ _ ?_ (fun d=>?_)
 ·exact Zha (a.2.1.keep (below_alloc1 _ _)) (a.2.2.1.keep (below_alloc1 _ _)) (a.2.2.2.trans ((below_alloc1 _ _).mono a.2.2.2.size)) b.out.2.2.2.1 b.out.2.2.2.2.1 b.out.2.2.2.2.2
 clear o K a;have a:=d;clear d;(try simp only[cl,Act.put]);refine rd 15 rfl fun K o=>?_;go_simp;go_at_call 36;refine M.out.mono ?_;rintro e U ⟨rfl,G,J⟩;have q:=zh (zi G ((Fr.of_below f (Zo w)).trans J));have O:=G.below;clear G J;go_wp2_with fail;refine o.out _ _ (Zha (q.out.2.at_ _ _ _ (Zbm b.out.1 b.out.2.1 (by decide)) (by decide) b.out.2.1) (q.out.2.at_ _ _ _ (Zbm b.out.1 b.out.2.2.1 (by decide)) (by decide) b.out.2.2.1) (q.out.1.below) b.out.2.2.2.1 b.out.2.2.2.2.1 b.out.2.2.2.2.2) (fun d=>?_);clear o K a O;have a:=d;clear d;(try simp only[cl,Act.put]);refine wpAnyH_done (by kernel_rfl) ?_ _;refine NoPanic.normal ?_;clear a;go_wp2_with fail;go_end0;exact⟨rfl,q.out⟩
end
section
open Go.RowKit
theorem ZrD (j w:Yh) (c b:Nat) (t:Txt) (o:Value) (ns:List Nd) (f:Nat) (x:NdV×Nd) (h:PrS j w c t b o) (hN:Zi j o ns) (hx:ZS j x) (hE:ZbA j ns f) (hk:x.2.kind=18) (k:Nat) (O:x.2.kids[0]? = Ya (k:Int)) (m:k<ns.length) (Z:ZV ns f (Zf ns k)) (B:t.length+(ZaB ns (f+1) b x.2).length+10000<=140737488355328) :
  Calls Tryz.prog 69 #[.pointer (Ya ⟨c,0,none⟩),ndX x] w fun e w'=>e=.returned (.tuple #[])/\PrS j w' c (t++ZaB ns (f+1) b x.2) b o/\Fr w w' c:=by
 have hq:=hx;obtain⟨⟨vw,vu,vk⟩,kd,l,a,i,r⟩:=x;obtain⟨hw,hu,u⟩:=hx;dsimp only at hk O hw hu u B⊢;obtain⟨F,N,rfl,aa,ab,hW,W⟩:=hw;obtain⟨E,M,rfl,X,Y,hU⟩:=hu;obtain⟨D,L,rfl,v,A,hK⟩:=u;subst hk;obtain⟨z,P⟩:∃z,ns[k]? = Ya z:=⟨_,Ym m⟩
 have he:ZaB ns (f+1) b ⟨18,l,a,i,r⟩=[114,101,116,117,114,110,32]++ZH ns f z++[59]:=by have:=Zcu (n:=⟨18,l,a,i,r⟩) O P;simp[ZaB,this]
 rw[he]at B⊢;clear he;rw[ZbP P]at Z;simp only[Yj,Yk,Yl]at B;have N1:=Nw.start (w:=w) #[Yd Yf 18,Yc F l.length N,Yc E a.length M,Yc D i.length L,Yd Yf r] h;generalize ar:w.alloc (.cells #[Yd Yf 18,Yc F l.length N,Yc E a.length M,Yc D i.length L,Yd Yf r] 37)=w1 at *;have R:=zh N1;have V:=zh (zi hN (zi hq (zi hK (zi A v))));have U:=zh B;have s:=zh (zi O (zi m (zi P (zi Z hE))));clear N1 hq aa ab hW W X Y hU v A hK h hN B O m P Z hE;obtain⟨G,H,I,J,K⟩:=Zm (x:=((Yc F l.length N,Yc E a.length M,Yc D i.length L),⟨18,l,a,i,r⟩)) R.out.k;dsimp only at G H I J K;have Q:=zh (Zao j w1 c b t o [114,101,116,117,114,110,32] R.out.p (by have:=U.out;simp only[Yk,Yl];omega));go_enter Tryz.func69,Tryz.ntmps69;go_upto_region 26 with(go_at_call 36;(refine Q.out.mono ?_);rintro e w2 ⟨rfl,g,d⟩;have S:=zh (R.out.next g d);clear g d)
 clear G H I J K;obtain⟨G,H,I,J,K⟩:=Zm (x:=((Yc F l.length N,Yc E a.length M,Yc D i.length L),⟨18,l,a,i,r⟩)) S.out.k;dsimp only at G H I J K;have KI:=zh (Zb0 j w2 c b _ o ns _ 0 k ⟨S.out.p,V.out.1⟩ V.out.2.1 s.out.1 s.out.2.1)
 go_upto_region 27 with(first
  |(go_at_call 42;(refine KI.out.mono ?_);rintro e w3 ⟨y,rfl,hy,C,hb⟩;have ey:y.2=z:=Option.some.inj (hy.symm.trans s.out.2.2.1);have q:=zh (zi C (zi (S.out.below hb) ey));clear hy C hb ey;have EX:=zh (s.out.2.2.2.2 w3 c b _ o y q.out.2.1.p V.out.1 q.out.1 (q.out.2.2▸s.out.2.2.2.1) (by rw[q.out.2.2];have:=U.out;simp only[Yj,Yk,Yl];omega)))
  |(go_at_call 23;(refine EX.out.mono ?_);rintro e w4 ⟨rfl,g,d⟩;have T:=zh (q.out.2.1.next g d);clear g d))
 rw[q.out.2.2]at T;have Q:=zh (Zao j w4 c b _ o [59] T.out.p (by have:=U.out;simp only[Yj,Yk,Yl];omega));go_wp2_with (go_at_call 36;(refine Q.out.mono ?_);rintro e w5 ⟨rfl,g,d⟩;have H5:=zh (T.out.next g d);clear g d);go_end0;refine⟨rfl,?_,H5.out.f⟩;have:=H5.out.p;simp only[List.append_assoc,List.cons_append,List.nil_append]at this⊢;exact this
theorem ZrC (o w:Yh) (i c:Nat) (t:Txt) (u:Value) (ns:List Nd) (f:Nat) (x:NdV×Nd) (h:PrS o w i t c u) (hN:Zi o u ns) (hx:ZS o x) (hE:ZbA o ns f) (S:Nd->Prop) (hB:ZcF 41 o ns c S (ZcH ns f c)) (hk:x.2.kind=17) (j k:Nat) (l:x.2.kids=[(j:Int),(k:Int)]) (G:j<ns.length) (hv:ZV ns f (Zf ns j)) (H:k<ns.length) (I:S (Zf ns k)) (hl:t.length+(ZaB ns (f+1) c x.2).length+10000<=140737488355328) :
  Calls Tryz.prog 69 #[.pointer (Ya ⟨i,0,none⟩),ndX x] w fun e w'=>e=.returned (.tuple #[])/\PrS o w' i (t++ZaB ns (f+1) c x.2) c u/\Fr w w' i:=by
 have hq:=hx;obtain⟨⟨vw,vu,vk⟩,kd,g,a,b,s⟩:=x;obtain⟨hw,hu,X⟩:=hx;dsimp only at hk l hw hu X hl⊢;obtain⟨O,U,rfl,ao,ap,hW,ak⟩:=hw;obtain⟨N,T,rfl,al,am,hU⟩:=hu;obtain⟨M,R,rfl,Y,Z,hK⟩:=X;subst hk;obtain⟨y1,m⟩:∃z,ns[j]? = Ya z:=⟨_,Ym G⟩
 obtain⟨z,hz⟩:∃z,ns[k]? = Ya z:=⟨_,Ym H⟩
 have E:b[0]? = Ya (j:Int):=by rw[l];rfl
 have F:b[1]? = Ya (k:Int):=by rw[l];rfl
 have he:ZaB ns (f+1) c ⟨17,g,a,b,s⟩=[119,104,105,108,101,32]++ZH ns f y1++ZcH ns f c z:=by have e1:=Zcu (n:=⟨17,g,a,b,s⟩) E m;have e2:=Zcu (n:=⟨17,g,a,b,s⟩) F hz;simp[ZaB,e1,e2]
 rw[he]at hl⊢;clear he;rw[ZbP m]at hv;rw[ZbP hz]at I;simp only[Yj,Yk,Yl]at hl;have N1:=Nw.start (w:=w) #[Yd Yf 17,Yc O g.length U,Yc N a.length T,Yc M b.length R,Yd Yf s] h;generalize bc:w.alloc (.cells #[Yd Yf 17,Yc O g.length U,Yc N a.length T,Yc M b.length R,Yd Yf s] 37)=w1 at *;have H1:=zh N1;have L:=zh (zi hN (zi hq (zi hK (zi Z Y))));have HL:=zh hl;have P:=zh (zi E (zi G (zi m (zi hv hE))));have Q:=zh (zi F (zi H (zi hz (zi I hB))));clear N1 hq ao ap hW ak al am hU Y Z hK h hN hl E F l G H m hz hv I hB hE;obtain⟨v,A,B,C,D⟩:=Zm (x:=((Yc O g.length U,Yc N a.length T,Yc M b.length R),⟨17,g,a,b,s⟩)) H1.out.k;dsimp only at v A B C D;have AD:=zh (Zao o w1 i c t u [119,104,105,108,101,32] H1.out.p (by have:=HL.out;simp only[Yk,Yl];omega));go_enter Tryz.func69,Tryz.ntmps69;go_upto_region 22 with(go_at_call 36;(refine AD.out.mono ?_);rintro e w2 ⟨rfl,r,q⟩;have H2:=zh (H1.out.next r q);clear r q)
 clear v A B C D;obtain⟨v,A,B,C,D⟩:=Zm (x:=((Yc O g.length U,Yc N a.length T,Yc M b.length R),⟨17,g,a,b,s⟩)) H2.out.k;dsimp only at v A B C D;have KI:=zh (Zb0 o w2 i c _ u ns _ 0 j ⟨H2.out.p,L.out.1⟩ L.out.2.1 P.out.1 P.out.2.1)
 go_upto_region 23 with(first
  |(go_at_call 42;(refine KI.out.mono ?_);rintro e w3 ⟨y,rfl,hy,d,W⟩;have V:y.2=y1:=Option.some.inj (hy.symm.trans P.out.2.2.1);have J:=zh (zi d (zi (H2.out.below W) V));clear hy d W V;have EX:=zh (P.out.2.2.2.2 w3 i c _ u y J.out.2.1.p L.out.1 J.out.1 (J.out.2.2▸P.out.2.2.2.1) (by rw[J.out.2.2];have:=HL.out;simp only[Yj,Yk,Yl];omega)))
  |(go_at_call 23;(refine EX.out.mono ?_);rintro e w4 ⟨rfl,r,q⟩;have H4:=zh (J.out.2.1.next r q);clear r q))
 rw[J.out.2.2]at H4;clear KI EX v A B C D;obtain⟨v,A,B,C,D⟩:=Zm (x:=((Yc O g.length U,Yc N a.length T,Yc M b.length R),⟨17,g,a,b,s⟩)) H4.out.k;dsimp only at v A B C D;have KI:=zh (Zb0 o w4 i c _ u ns _ 1 k ⟨H4.out.p,L.out.1⟩ L.out.2.1 Q.out.1 Q.out.2.1)
 go_wp2_with (first
  |(go_at_call 42;(refine KI.out.mono ?_);rintro e w5 ⟨y,rfl,hy,d,W⟩;have V:y.2=z:=Option.some.inj (hy.symm.trans Q.out.2.2.1);have K:=zh (zi d (zi (H4.out.below W) V));clear hy d W V;have EX:=zh (Q.out.2.2.2.2 w5 i _ u y K.out.2.1.p L.out.1 K.out.1 (K.out.2.2▸Q.out.2.2.2.1) (by rw[K.out.2.2];have:=HL.out;simp only[Yj,Yk,Yl];omega)))
  |(go_at_call 41;(refine EX.out.mono ?_);rintro e w6 ⟨rfl,r,q⟩;have H6:=zh (K.out.2.1.next r q);clear r q))
 rw[K.out.2.2]at H6;go_end0;refine⟨rfl,?_,H6.out.f⟩;have:=H6.out.p;simp only[List.append_assoc,List.cons_append,List.nil_append]at this⊢;exact this
theorem ZrB (q w:Yh) (o g:Nat) (t:Txt) (E:Value) (ns:List Nd) (f:Nat) (x:NdV×Nd) (h:PrS q w o t g E) (hN:Zi q E ns) (hx:ZS q x) (hE:ZbA q ns f) (S:Nd->Prop) (hB:ZcF 41 q ns g S (ZcH ns f g)) (hk:x.2.kind=16) (j:Nat) (r:List Int) (l:x.2.kids=(j:Int)::r) (hr:r≠[]) (K:j<ns.length) (hv:ZV ns f (Zf ns j)) (X:Zax ns r S) (W:t.length+(ZaB ns (f+1) g x.2).length+10000<=140737488355328) :
  Calls Tryz.prog 69 #[.pointer (Ya ⟨o,0,none⟩),ndX x] w fun e w'=>e=.returned (.tuple #[])/\PrS q w' o (t++ZaB ns (f+1) g x.2) g E/\Fr w w' o:=by
 have hq:=hx;obtain⟨⟨vw,vu,vk⟩,kd,m,c,d,v⟩:=x;obtain⟨hw,hu,T⟩:=hx;dsimp only at hk l hw hu T W⊢;obtain⟨N,R,rfl,am,an,hW,ag⟩:=hw;obtain⟨M,Q,rfl,ai,aj,hU⟩:=hu;obtain⟨Ak,A,rfl,U,V,hK⟩:=T;subst hk;obtain⟨y1,u⟩:∃z,ns[j]? = Ya z:=⟨_,Ym K⟩
 have s:d[0]? = Ya (j:Int):=by rw[l];rfl
 have ah:1<=r.length:=by cases r with
  |nil=>exact absurd rfl hr
  |cons a b=>simp
 have C:d.length=r.length+1:=by rw[l];simp
 have he:ZaB ns (f+1) g ⟨16,m,c,d,v⟩=[105,102,32]++ZH ns f y1++Za5 [32,101,108,115,101] (r.map fun k=>ZcH ns f g (Zf ns k)):=by
  have e1:=Zcu (n:=⟨16,m,c,d,v⟩) s u;have e2:d.drop 1=r:=by rw[l];rfl
  have e3:ZaB ns (f+1) g ⟨16,m,c,d,v⟩=[105,102,32]++ZH ns f (Zaa ns ⟨16,m,c,d,v⟩ 0)++Za5 [32,101,108,115,101] ((d.drop 1).map fun k=>ZcH ns f g (Zf ns k)):=by simp[ZaB]
  rw[e3,e1,e2]
 rw[he]at W⊢;clear he;rw[ZbP u]at hv;simp only[Yj,Yk,Yl]at W;obtain⟨i,rfl,_⟩:=ints_at hK h.below s (by omega);have RT:=ZiL hK 1 (by omega);rw[<-List.map_drop,show d.drop 1=r by rw[l];rfl,show d.length-1=r.length by omega]at RT;have bl:(if A=1 then Ya i else Ya (⟨i.block,i.off+1,none⟩:Addr))=Ya ⟨i.block,i.off+1,none⟩:=by rw[Yn (by omega)]
 have lz:d.length-1=r.length:=by omega
 have bk:(1:Int)<=(d.length:Int):=by omega
 have N1:=Nw.start (w:=w) #[Yd Yf 16,Yc N m.length R,Yc M c.length Q,Yc (Ya i) d.length A,Yd Yf v] h;generalize bj:w.alloc (.cells #[Yd Yf 16,Yc N m.length R,Yc M c.length Q,Yc (Ya i) d.length A,Yd Yf v] 37)=w1 at *;have H1:=zh N1;have P:=zh (zi hN (zi hq (zi hK (zi V U))));have HL:=zh W;have O:=zh (zi s (zi K (zi u (zi hv hE))));have HJ:=zh (zi X (zi hB (zi C RT)));clear N1 hq am an hW ag ai aj hU U V hK h hN W s l hr ah C K u hv X hB hE RT;obtain⟨F,G,H,I,J⟩:=Zm (x:=((Yc N m.length R,Yc M c.length Q,Yc (Ya i) d.length A),⟨16,m,c,d,v⟩)) H1.out.k;dsimp only at F G H I J;have AD:=zh (Zao q w1 o g t E [105,102,32] H1.out.p (by have:=HL.out;simp only[Yk,Yl];omega));go_enter Tryz.func69,Tryz.ntmps69;go_upto_region 18 with(go_at_call 36;(refine AD.out.mono ?_);rintro e w2 ⟨rfl,D,B⟩;have H2:=zh (H1.out.next D B);clear D B)
 clear F G H I J;obtain⟨F,G,H,I,J⟩:=Zm (x:=((Yc N m.length R,Yc M c.length Q,Yc (Ya i) d.length A),⟨16,m,c,d,v⟩)) H2.out.k;dsimp only at F G H I J;have KI:=zh (Zb0 q w2 o g _ E ns _ 0 j ⟨H2.out.p,P.out.1⟩ P.out.2.1 O.out.1 O.out.2.1)
 go_upto_region 19 with(first
  |(go_at_call 42;(refine KI.out.mono ?_);rintro e w3 ⟨y,rfl,hy,Y,hb⟩;have ey:y.2=y1:=Option.some.inj (hy.symm.trans O.out.2.2.1);have L:=zh (zi Y (zi (H2.out.below hb) ey));clear hy Y hb ey;have EX:=zh (O.out.2.2.2.2 w3 o g _ E y L.out.2.1.p P.out.1 L.out.1 (L.out.2.2▸O.out.2.2.2.1) (by rw[L.out.2.2];have:=HL.out;simp only[Yj,Yk,Yl];omega)))
  |(go_at_call 23;(refine EX.out.mono ?_);rintro e w4 ⟨rfl,D,B⟩;have Z:=zh (L.out.2.1.next D B);clear D B))
 rw[L.out.2.2]at Z;clear KI EX F G H I J;obtain⟨F,G,H,I,J⟩:=Zm (x:=((Yc N m.length R,Yc M c.length Q,Yc (Ya i) d.length A),⟨16,m,c,d,v⟩)) Z.out.k;dsimp only at F G H I J;have BR:=zh (show Calls Tryz.prog 91 #[ZaF o,Yc (Ya ⟨i.block,i.off+1,none⟩) r.length (A-1)] w4 (fun e w'=>e=.returned (.tuple #[])/\PrS q w' o (_++Za5 [32,101,108,115,101] (r.map fun k=>ZcH ns f g (Zf ns k))) g E/\Fr w4 w' o)from Zg4 q w4 o g _ E ns (Ya (i.add 1)) (A-1) r S (ZcH ns f g) Z.out.p P.out.1 HJ.out.2.2.2 (by have:=P.out.2.2.2;have:=HJ.out.2.2.1;omega) HJ.out.1 HJ.out.2.1 (by have:=HL.out;simp only[Yj,Yk,Yl];omega));go_wp2_with (go_at_call 91;(refine BR.out.mono ?_);rintro e w5 ⟨rfl,D,B⟩;have H5:=zh (Z.out.next D B);clear D B);go_end0;refine⟨rfl,?_,H5.out.f⟩;have:=H5.out.p;simp only[List.append_assoc,List.cons_append,List.nil_append]at this⊢;exact this
theorem ZrE (m w:Yh) (c b:Nat) (t:Txt) (q:Value) (ns:List Nd) (f:Nat) (x:NdV×Nd) (h:PrS m w c t b q) (J:Zi m q ns) (hx:ZS m x) (hk:x.2.kind=19) (j:t.length+(ZaB ns (f+1) b x.2).length+10000<=140737488355328) :
  Calls Tryz.prog 69 #[.pointer (Ya ⟨c,0,none⟩),ndX x] w fun e w'=>e=.returned (.tuple #[])/\PrS m w' c (t++ZaB ns (f+1) b x.2) b q/\Fr w w' c:=by
 have hq:=hx;obtain⟨⟨vw,vu,vk⟩,kd,n,a,l,o⟩:=x;obtain⟨O,N,d⟩:=hx;dsimp only at hk O N d j⊢;obtain⟨u,A,rfl,E,F,X,B⟩:=O;obtain⟨s,z,rfl,C,D,W⟩:=N;obtain⟨r,y,rfl,g,i,I⟩:=d;subst hk;have K:ZaB ns (f+1) b ⟨19,n,a,l,o⟩=[101,120,105,116,59]:=by simp[ZaB]
 rw[K]at j⊢;clear K;simp only[Yk,Yl]at j;have H:=Nw.start (w:=w) #[Yd Yf 19,.slice u n.length A,.slice s a.length z,.slice r l.length y,Yd Yf o] h;generalize Y:w.alloc (.cells #[Yd Yf 19,.slice u n.length A,.slice s a.length z,.slice r l.length y,Yd Yf o] 37)=Z at *;have v:=zh H;have HN:=zh (zi J (zi hq (zi I (zi i g))));have Q:=zh j;clear H hq E F X B C D W g i I h J j;obtain⟨R,S,T,U,V⟩:=Zm (x:=((.slice u n.length A,.slice s a.length z,.slice r l.length y),⟨19,n,a,l,o⟩)) v.out.k;dsimp only at R S T U V;have P:=zh (Zao m Z c b t q [101,120,105,116,59] v.out.p (by have:=Q.out;simp only[Yk,Yl];omega));go_enter Tryz.func69,Tryz.ntmps69;go_wp2_with (go_at_call 36;(refine P.out.mono ?_);rintro e w2 ⟨rfl,M,L⟩;have G:=zh (v.out.next M L);clear M L);go_end0;exact⟨rfl,G.out.p,G.out.f⟩
structure PTabs (w0:Yh):Prop where
 kinds:ZaI w0 1 ZeC
 names:ZaI w0 2 Zb2
 signs:ZaI w0 0 Ze7
 ten:ZeW w0 w0
theorem Zeh {ns:List Nd} {k:Int} {P:Nd->Prop} (h:Zax ns [k] P):∃m:Nat,k=m/\m<ns.length/\P (Zf ns (m:Int)):=by obtain⟨a,c,b⟩:=h k (by simp);obtain⟨m,rfl⟩:=Int.eq_ofNat_of_zero_le a;exact⟨m,rfl,by omega,b⟩
theorem Zhu (g:Yh) (ns:List Nd) (T:PTabs g):∀(f d:Nat),d+2*f<3999->ZcF 69 g ns d (fun n=>Zcf ns f n) (fun n=>ZaB ns f d n)
 |0,d,_=>fun w u t y x h v hx c o=>c.elim
 |f+1,d,hd=>by
  intro w u t y x h v hx c o;have B:=Zku g ns T.ten T.signs f;have C:=Zgv g ns d (fun n=>Zcf ns f n) (fun n=>ZaB ns f (d+1) n) (by omega) (Zhu g ns T f (d+1) (by omega));dsimp only at c o⊢;rw[Zcf]at c;rcases c with⟨hk,⟨s,z⟩,k,e,i⟩|⟨hk,⟨a,b,z⟩,_,c⟩|⟨hk,z,c⟩|⟨hk,⟨a,b,z⟩,⟨p,q,r,hm,F,H,hq,E⟩,l,k,e,D,c⟩|⟨hk,z,c⟩|⟨hk,k,r,e,E,i,c⟩|⟨hk,j,k,e,i,c⟩|⟨hk,k,e,i⟩|hk
  ·obtain⟨m,rfl,hm,i⟩:=Zeh i;rcases hk with hk|hk
   ·exact Zr5 g w u d t y ns f x h v hx B hk s [] m z (by rw[e];rfl) hm i o
   ·exact Zr6 g w u d t y ns f x h v hx B hk s [] m z (by rw[e];rfl) hm i o
  ·exact Zrx g w u d t y ns f x h v hx _ C hk a b z c o
  ·exact Zry g w u d t y ns f x h v hx (by omega) _ (Zgv g ns (d+1) (fun n=>Zcf ns f n) (fun n=>ZaB ns f (d+1+1) n) (by omega) (Zhu g ns T f (d+1+1) (by omega))) hk z c o
  ·obtain⟨m,rfl,A,c⟩:=Zeh c;obtain⟨p,rfl⟩:=Int.eq_ofNat_of_zero_le F;exact Zrz g w u d t y ns f x h v hx T.kinds T.names T.ten _ C hk a b z p q r hm (by omega) hq E l m e D A c o
  ·exact ZrA g w u d t y ns f x h v hx B hk z c o
  ·obtain⟨m,rfl,hm,i⟩:=Zeh i;exact ZrB g w u d t y ns f x h v hx B _ C hk m r e E hm i c o
  ·obtain⟨m,rfl,hm,i⟩:=Zeh i;obtain⟨G,rfl,A,c⟩:=Zeh c;exact ZrC g w u d t y ns f x h v hx B _ C hk m G e hm i A c o
  ·obtain⟨m,rfl,hm,i⟩:=Zeh i;exact ZrD g w u d t y ns f x h v hx B hk m (by rw[e];rfl) hm i o
  ·exact ZrE g w u d t y ns f x h v hx hk o
end
end Go.Proofs.YtfbepcelkijgkaaGreatDoor
