import Derived.Test.YtdkegpkfjgloeaaGreatDoorQBM
set_option maxRecDepth 100000
set_option maxHeartbeats 8000000
open Go.Value renaming slice → Yc
open Go.RowKit
namespace Go.Proofs.YtdkegpkfjgloeaaGreatDoor
theorem Znp (o w:World) (c G:Nat) (t:Txt) (Q:Value) (x:NdV×Nd) (h:PrS o w c t G Q) (hx:ZU o x) (K:ZaP o 1 Zch) (r:List Int) (hn:x.2.nums=1::r) (f:0<x.2.words.length) (z:t.length+(Zbl x.2).length+100<=140737488355328) :
  Calls Tryz.prog 61 #[.pointer (some ⟨c,0,none⟩),ndX x] w fun e w'=>e=.returned (.tuple #[])/\PrS o w' c (t++Zbl x.2) G Q/\Fr w w' c:=by
 have hq:=hx;obtain⟨⟨vw,vu,vk⟩,m,b,a,d,n⟩:=x;obtain⟨Z,Y,y⟩:=hx;dsimp only at hn f Z Y y z⊢;obtain⟨i,l,rfl,B,O,T,H⟩:=Z;obtain⟨C,v,rfl,L,M,S⟩:=Y;obtain⟨p,u,rfl,I,J,hK⟩:=y;have E:=below_alloc1 w (.cells #[.int .i64 m,.slice i b.length l,Yc C a.length v,.slice p d.length u,.int .i64 n] 36);have D:Zk _ _ _ _:=Zk.start w #[.int .i64 m,.slice i b.length l,Yc C a.length v,.slice p d.length u,.int .i64 n] 36;have p1:=h.keep E;have V:Zbl ⟨m,b,a,d,n⟩=ZcX 1++Zap [124] b:=by unfold Zbl num;dsimp only;rw[hn];rfl
 rw[V]at z⊢;simp only[Yj]at z;have A:b.length<=140737488355328:=by have:=Zio [124] (by decide) b;omega
 generalize N:w.alloc (.cells #[.int .i64 m,.slice i b.length l,Yc C a.length v,.slice p d.length u,.int .i64 n] 36)=g at *;have j:=zh (p1.keep (Zp g));have JN:=zh (Zid o g.drew i l b T f A B j.out.below (by omega));obtain⟨F,rfl,P⟩:=Zjg (x:=1) S (by rw[hn];rfl) (by rw[hn];exact Nat.succ_pos _);have u1:g.drew.cell? F=some (.int .i64 1):=P _ j.out.below;have v1:g.drew.cell? ⟨1,1,none⟩=some (txt (ZcX 1)):=Zew (k:=1) K j.out.below rfl;have ap:0<a.length:=by rw[hn];exact Nat.succ_pos _
 obtain⟨d0,d1,d2,d3,d4⟩:=Zm (x:=((.slice i b.length l,Yc (some F) a.length v,.slice p d.length u),⟨m,b,a,d,n⟩)) (D.keep (Zp g));dsimp only at d0 d1 d2 d3 d4;have s:=zh (zi E (zi (D.keep (Zp g)) (zi z (zi P K))));clear p1 D E hq B O T H L M S I J hK h z V P hn K A f;go_enter Tryz.func61,Tryz.ntmps61;go_upto_region 1 with fail
 go_region_with (first
  |(go_at_call 82;(refine JN.out.mono ?_);rintro e w3 ⟨rfl,U⟩;have q:=zh U;clear U;obtain⟨b0,b1,b2,b3,b4⟩:=Zm (x:=((.slice i b.length l,Yc (some F) a.length v,.slice p d.length u),⟨m,b,a,d,n⟩)) (s.out.2.1.keep q.out);dsimp only at b0 b1 b2 b3 b4;have u3:=s.out.2.2.2.1 _ (j.out.keep q.out).below;have v3:w3.cell? ⟨1,1,none⟩=some (txt (ZcX 1)):=Zew (k:=1) s.out.2.2.2.2 (j.out.keep q.out).below rfl;have AD:=zh (Zdp o w3 c G t Q (ZcX 1) (Zap [124] b) (j.out.keep q.out) (by have:=s.out.2.2.1;omega)))
  |(go_at_call 32;(refine AD.out.mono ?_);rintro e w4 ⟨rfl,X,W⟩;have R:=zh (zi X W);clear X W))
 all_goals
  go_wp2_with fail;go_end0;exact⟨rfl,R.out.1,(((Fr.of_below c (N▸s.out.1)).trans (Fr.of_below c (Zp g))).trans (Fr.of_below c q.out)).trans R.out.2⟩
end Go.Proofs.YtdkegpkfjgloeaaGreatDoor
