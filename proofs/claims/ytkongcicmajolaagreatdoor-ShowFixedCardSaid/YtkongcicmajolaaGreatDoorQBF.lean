import Derived.Test.YtkongcicmajolaaGreatDoorQBD
import Derived.Test.YtkongcicmajolaaGreatDoorQBE
set_option maxRecDepth 100000
set_option maxHeartbeats 8000000
namespace Go.Proofs.YtkongcicmajolaaGreatDoor
section
open Go Go.RowKit
def ZV (F B sp sn:Nat) (p:String):Array Oper:=#[⟨some B,.move (.tmp sn),108,p,#[],none⟩,⟨some (B+1),.nilCheck (.tmp B),0,p,#[gD 0],none⟩,⟨some (B+2),.fieldAddr 58 (.tmp (B+1)) 1,0,p,#[gD 1],none⟩,⟨some (B+3),.load 56 (.tmp (B+2)),56,p,#[gD 2],none⟩,⟨some (B+4),.move (.tmp sp),53,p,#[],none⟩,⟨some (B+5),.call ⟨.value (.func F),#[.tmp (B+4)],#[53]⟩,58,p,#[gD 4],none⟩,⟨some (B+6),.call ⟨.builtin .len,#[.tmp (B+3)],#[56]⟩,3,p,#[gD 3],none⟩,⟨some (B+7),.buildSlice 56 1 #[(0,.const (.agg #[.int .i64 0,.slice none 0 0,.slice none 0 0,.slice none 0 0,.int .i64 0,.slice none 0 0]))],56,p,#[],none⟩,⟨some (B+8),.call ⟨.builtin .append,#[.tmp (B+3),.tmp (B+7)],#[56,56]⟩,56,p,#[gD 3,gD 7,gC 5,gP 0,gP 1,gP 2,gP 3,gP 4,gP 5,gP 6,gP 7],none⟩,⟨some (B+9),.indexAddr 56 (.tmp (B+8)) (.tmp (B+6)),0,p,#[gD 8,gD 6,gP 0,gP 1,gP 2,gP 3,gP 4,gP 5,gP 6,gP 7,gP 8,gG 13],none⟩,⟨none,.store 58 (.tmp (B+9)) (.tmp (B+5)),0,p,#[gD 9,gD 5,gC 8,gP 0,gP 1,gP 2,gP 3,gP 4,gP 5,gP 6,gP 7,gP 8,gG 13],none⟩,⟨some (B+10),.nilCheck (.tmp B),0,p,#[gD 0,gP 0,gP 1,gP 2,gP 3,gP 4,gP 5,gP 6,gP 7,gP 8,gT 9,gT 10],none⟩,⟨some (B+11),.fieldAddr 58 (.tmp (B+10)) 1,0,p,#[gD 11,gP 0,gP 1,gP 2,gP 3,gP 4,gP 5,gP 6,gP 7,gP 8,gT 9,gT 10],none⟩,⟨none,.store 56 (.tmp (B+11)) (.tmp (B+8)),0,p,#[gD 12,gD 8,gC 8,gT 10,gP 0,gP 1,gP 2,gP 3,gP 4,gP 5,gP 6,gP 7,gP 8,gT 9,gT 10],none⟩]
def ZkV (F B sp sn:Nat) (p:String):Bool:=
 Region.noSelect (ZV F B sp sn p)&&takeB (ZV F B sp sn p) [10,13] [] 0&&takeB (ZV F B sp sn p) [10,13] [0] 1&&takeB (ZV F B sp sn p) [10,13] [0,1] 2&&takeB (ZV F B sp sn p) [10,13] [0,1,2] 3&&([10,13].all fun k=>Zel .any (ZV F B sp sn p) 8 k 3)&&takeB (ZV F B sp sn p) [10,13] [0,1,2,3] 4&&takeB (ZV F B sp sn p) [10,13] [0,1,2,3,4] 6&&(Region.ready .any (ZV F B sp sn p) (upB 14 [0,1,2,3,4,6])==[5,7])&&(Region.ready .any (ZV F B sp sn p) (upB 14 [0,1,2,3,4,6,5])==[7])&&(Region.ready .any (ZV F B sp sn p) (upB 14 [0,1,2,3,4,6,7])==[5])&&Zc8 (ZV F B sp sn p) [0,1,2,3,4,6,5,7] 8&&takeB (ZV F B sp sn p) [10,13] [0,1,2,3,4,6,5,7,8] 9&&takeB (ZV F B sp sn p) [10,13] [0,1,2,3,4,6,5,7,8,9] 11&&takeB (ZV F B sp sn p) [10,13] [0,1,2,3,4,6,5,7,8,9,11] 12&&(Region.ready .any (ZV F B sp sn p) (upB 14 [0,1,2,3,4,6,5,7,8,9,11,12])==[10,13])&&(Region.ready .any (ZV F B sp sn p) (upB 14 [0,1,2,3,4,6,5,7,8,9,11,12,10])==[13])&&(Region.ready .any (ZV F B sp sn p) (upB 14 [0,1,2,3,4,6,5,7,8,9,11,12,13])==[10])&&(Region.ready .any (ZV F B sp sn p) (upB 14 [0,1,2,3,4,6,5,7,8,9,11,12,10,13])==[])
theorem Zco {F:Nat} (B sp sn:Nat) {p:String} {id:Nat} {Q:Exit->Act->World->Prop} {a:Act} {w0 w wi:World} {bp b r:Nat} {vL:Value} {L:List Tok} {s s2:PS} {x1 x2:Value} {C:Option Addr} {q e:Nat} {k pl:Int} {ws:List Txt} {us:List Int} {vs:List (NV×Tr)} {tree:Tr} (hG:Gn w0 w wi bp b r vL L s (x1,x2,.slice C q e) k pl ws us vs)
  (hl:vs.length<=10000000) (hF:∀ (args:Array Value) (w:World),(callFunc F args).run Tryz.prog w=.ok (.enter F args) w) (hC:∀ wr,ParS w0 wr bp vL L s->Calls Tryz.prog F #[.pointer (some ⟨bp,0,none⟩)] wr (Zcz w0 bp vL L wr tree s2))
  (h:∀ v7 g c y w',Gn w0 w w' bp b r vL L s2 (x1,x2,.slice (some ⟨g,0,none⟩) (q+1) c) k pl ws us (vs++[(y,tree)])->Q .normal ((((((((((((a.put (some B) (.pointer (some ⟨b,0,none⟩))).put (some (B+1)) (.pointer (some ⟨b,0,none⟩))).put (some (B+2)) (.pointer (some ⟨b,5,none⟩))).put (some (B+3)) (.slice C q e)).put (some (B+4)) (.pointer (some ⟨bp,0,none⟩))).put (some (B+6)) (.int .i64 q)).put (some (B+5)) (ZbQ (y,tree))).put (some (B+7)) v7).put (some (B+8)) (.slice (some ⟨g,0,none⟩) (q+1) c)).put (some (B+9)) (.pointer (some ⟨g,q*6,none⟩))).put (some (B+10)) (.pointer (some ⟨b,0,none⟩))).put (some (B+11)) (.pointer (some ⟨b,5,none⟩))) w')
  (hB:(Nat.blt (B+11) a.tmps.size&&Nat.blt sp B&&Nat.blt sn B)=true:=by kernel_rfl) (h1:a.eval (.tmp sp)=.pointer (some ⟨bp,0,none⟩):=by rfl) (h2:a.eval (.tmp sn)=.pointer (some ⟨b,0,none⟩):=by rfl) (hK:ZkV F B sp sn p=true:=by kernel_rfl) :
  (Code.region id (ZV F B sp sn p) true).wp Tryz.prog Q a wi:=by
 obtain ⟨iN,hN,zN0,zN1,zN2⟩:=info_parts Za8
 simp only [Bool.and_eq_true,Nat.blt_eq] at hB
 obtain ⟨⟨hB,hs1⟩,hs2⟩:=hB
 unfold ZkV takeB Zc8 at hK
 simp only [Bool.and_eq_true,Bool.not_eq_true',beq_iff_eq,and_assoc,upB,List.foldl_cons,List.foldl_nil] at hK
 obtain ⟨k0,f0,r0,i0,n0,f1,r1,i1,n1,f2,r2,i2,n2,f3,r3,i3,n3,u3,f4,r4,i4,n4,f6,r6,i6,n6,m5,ma5,mb5,r8,f9,r9,i9,n9,f11,r11,i11,n11,f12,r12,i12,n12,m10,ma10,mb10,rE⟩:=hK
 have LQ:=zh (show q=vs.length from hG.klen)
 have LL:=zh hl
 have iq0:(0:Int)<=((q:Nat):Int):=by omega
 have iq1:((q:Nat):Int)<((q:Nat):Int)+1:=by omega
 have NM:=zh (hC wi.drew hG.drew.P)
 have HC:=zh hC
 have G:=zh hG.drew
 have HP:=zh h
 clear h hG hC hl
 refine wp_region_noPanic ?_
 refine Zai [10,13] (fun V=>V.cell? ⟨b,5,none⟩=some (.slice C q e)) (by kernel_rfl) (G.out.cells.2.2.2.2.2) (fun hH=>?_)
 have o0:(ZV F B sp sn p)[0]? = some (⟨some B,.move (.tmp sn),108,p,#[],none⟩:Oper):=rfl
 have o1:(ZV F B sp sn p)[1]? = some (⟨some (B+1),.nilCheck (.tmp B),0,p,#[gD 0],none⟩:Oper):=rfl
 have o2:(ZV F B sp sn p)[2]? = some (⟨some (B+2),.fieldAddr 58 (.tmp (B+1)) 1,0,p,#[gD 1],none⟩:Oper):=rfl
 have o3:(ZV F B sp sn p)[3]? = some (⟨some (B+3),.load 56 (.tmp (B+2)),56,p,#[gD 2],none⟩:Oper):=rfl
 have o4:(ZV F B sp sn p)[4]? = some (⟨some (B+4),.move (.tmp sp),53,p,#[],none⟩:Oper):=rfl
 have o5:(ZV F B sp sn p)[5]? = some (⟨some (B+5),.call ⟨.value (.func F),#[.tmp (B+4)],#[53]⟩,58,p,#[gD 4],none⟩:Oper):=rfl
 have o6:(ZV F B sp sn p)[6]? = some (⟨some (B+6),.call ⟨.builtin .len,#[.tmp (B+3)],#[56]⟩,3,p,#[gD 3],none⟩:Oper):=rfl
 have o7:(ZV F B sp sn p)[7]? = some (⟨some (B+7),.buildSlice 56 1 #[(0,.const (.agg #[.int .i64 0,.slice none 0 0,.slice none 0 0,.slice none 0 0,.int .i64 0,.slice none 0 0]))],56,p,#[],none⟩:Oper):=rfl
 have o8:(ZV F B sp sn p)[8]? = some (⟨some (B+8),.call ⟨.builtin .append,#[.tmp (B+3),.tmp (B+7)],#[56,56]⟩,56,p,#[gD 3,gD 7,gC 5,gP 0,gP 1,gP 2,gP 3,gP 4,gP 5,gP 6,gP 7],none⟩:Oper):=rfl
 have o9:(ZV F B sp sn p)[9]? = some (⟨some (B+9),.indexAddr 56 (.tmp (B+8)) (.tmp (B+6)),0,p,#[gD 8,gD 6,gP 0,gP 1,gP 2,gP 3,gP 4,gP 5,gP 6,gP 7,gP 8,gG 13],none⟩:Oper):=rfl
 have o10:(ZV F B sp sn p)[10]? = some (⟨none,.store 58 (.tmp (B+9)) (.tmp (B+5)),0,p,#[gD 9,gD 5,gC 8,gP 0,gP 1,gP 2,gP 3,gP 4,gP 5,gP 6,gP 7,gP 8,gG 13],none⟩:Oper):=rfl
 have o11:(ZV F B sp sn p)[11]? = some (⟨some (B+10),.nilCheck (.tmp B),0,p,#[gD 0,gP 0,gP 1,gP 2,gP 3,gP 4,gP 5,gP 6,gP 7,gP 8,gT 9,gT 10],none⟩:Oper):=rfl
 have o12:(ZV F B sp sn p)[12]? = some (⟨some (B+11),.fieldAddr 58 (.tmp (B+10)) 1,0,p,#[gD 11,gP 0,gP 1,gP 2,gP 3,gP 4,gP 5,gP 6,gP 7,gP 8,gT 9,gT 10],none⟩:Oper):=rfl
 have o13:(ZV F B sp sn p)[13]? = some (⟨none,.store 56 (.tmp (B+11)) (.tmp (B+8)),0,p,#[gD 12,gD 8,gC 8,gT 10,gP 0,gP 1,gP 2,gP 3,gP 4,gP 5,gP 6,gP 7,gP 8,gT 9,gT 10],none⟩:Oper):=rfl
 refine lp (v:=(.pointer (some ⟨b,0,none⟩))) 0 o0 ?_ (by intro _;simp only [execOp,h2];go_simp) k0 f0 r0 i0 n0 (fun _ _ _ h=>h) rfl hH
 generalize ha1:a.put (some B) (.pointer (some ⟨b,0,none⟩))=a1
 have z1:a1.tmps.size=a.tmps.size:=by rw [<- ha1,Zav]
 have e1_0:a1.eval (.tmp B)=(.pointer (some ⟨b,0,none⟩)):=by rw [<- ha1];exact Zae (by omega)
 have e1_sp:a1.eval (.tmp sp)=.pointer (some ⟨bp,0,none⟩):=by rw [<- ha1];exact (ZA (by omega)).trans h1
 clear h1
 clear h2
 have HA1:=zh ha1
 clear ha1
 refine lp (v:=(.pointer (some ⟨b,0,none⟩))) 1 o1 ?_ (by intro _;simp only [execOp,e1_0];go_simp) k0 f1 r1 i1 n1 (fun _ _ _ h=>h) rfl hH
 generalize ha2:a1.put (some (B+1)) (.pointer (some ⟨b,0,none⟩))=a2
 have z2:a2.tmps.size=a.tmps.size:=by rw [<- ha2,Zav];exact z1
 have e2_0:a2.eval (.tmp B)=(.pointer (some ⟨b,0,none⟩)):=by rw [<- ha2];exact (ZA (by omega)).trans e1_0
 have e2_1:a2.eval (.tmp (B+1))=(.pointer (some ⟨b,0,none⟩)):=by rw [<- ha2];exact Zae (by rw [z1];omega)
 have e2_sp:a2.eval (.tmp sp)=.pointer (some ⟨bp,0,none⟩):=by rw [<- ha2];exact (ZA (by omega)).trans e1_sp
 clear e1_0
 clear e1_sp
 have HA2:=zh ha2
 clear ha2
 refine lp (v:=(.pointer (some ⟨b,5,none⟩))) 2 o2 ?_ (by intro _;simp only [execOp,e2_1];go_simp) k0 f2 r2 i2 n2 (fun _ _ _ h=>h) rfl hH
 generalize ha3:a2.put (some (B+2)) (.pointer (some ⟨b,5,none⟩))=a3
 have z3:a3.tmps.size=a.tmps.size:=by rw [<- ha3,Zav];exact z2
 have e3_0:a3.eval (.tmp B)=(.pointer (some ⟨b,0,none⟩)):=by rw [<- ha3];exact (ZA (by omega)).trans e2_0
 have e3_2:a3.eval (.tmp (B+2))=(.pointer (some ⟨b,5,none⟩)):=by rw [<- ha3];exact Zae (by rw [z2];omega)
 have e3_sp:a3.eval (.tmp sp)=.pointer (some ⟨bp,0,none⟩):=by rw [<- ha3];exact (ZA (by omega)).trans e2_sp
 clear e2_0
 clear e2_1
 clear e2_sp
 have HA3:=zh ha3
 clear ha3
 refine lk (v:=(.slice C q e)) 3 o3 ?_ (by intro _ hS_;simp only [execOp,e3_2];go_simp) k0 f3 r3 i3 (by rw [n3];exact u3) (fun _ _ _ h=>h) rfl hH
 dsimp only
 generalize ha4:a3.put (some (B+3)) (.slice C q e)=a4
 have z4:a4.tmps.size=a.tmps.size:=by rw [<- ha4,Zav];exact z3
 have e4_0:a4.eval (.tmp B)=(.pointer (some ⟨b,0,none⟩)):=by rw [<- ha4];exact (ZA (by omega)).trans e3_0
 have e4_3:a4.eval (.tmp (B+3))=(.slice C q e):=by rw [<- ha4];exact Zae (by rw [z3];omega)
 have e4_sp:a4.eval (.tmp sp)=.pointer (some ⟨bp,0,none⟩):=by rw [<- ha4];exact (ZA (by omega)).trans e3_sp
 clear e3_0
 clear e3_2
 clear e3_sp
 have HA4:=zh ha4
 clear ha4
 refine lp (v:=(.pointer (some ⟨bp,0,none⟩))) 4 o4 ?_ (by intro _;simp only [execOp,e4_sp];go_simp) k0 f4 r4 i4 n4 (fun _ _ _ h=>h) rfl hH
 generalize ha5:a4.put (some (B+4)) (.pointer (some ⟨bp,0,none⟩))=a5
 have z5:a5.tmps.size=a.tmps.size:=by rw [<- ha5,Zav];exact z4
 have e5_0:a5.eval (.tmp B)=(.pointer (some ⟨b,0,none⟩)):=by rw [<- ha5];exact (ZA (by omega)).trans e4_0
 have e5_3:a5.eval (.tmp (B+3))=(.slice C q e):=by rw [<- ha5];exact (ZA (by omega)).trans e4_3
 have e5_4:a5.eval (.tmp (B+4))=(.pointer (some ⟨bp,0,none⟩)):=by rw [<- ha5];exact Zae (by rw [z4];omega)
 clear e4_0
 clear e4_3
 clear e4_sp
 have HA5:=zh ha5
 clear ha5
 refine lp (v:=(.int .i64 q)) 6 o6 ?_ (by intro _;simp only [execOp];have y_3:=e5_3;simp only [Act.eval,Array.getD_eq_getD_getElem?] at y_3;clear hB;go_simp) k0 f6 r6 i6 n6 (fun _ _ _ h=>h) rfl hH
 (try dsimp only)
 generalize ha6:a5.put (some (B+6)) (.int .i64 q)=a6
 have z6:a6.tmps.size=a.tmps.size:=by rw [<- ha6,Zav];exact z5
 have e6_0:a6.eval (.tmp B)=(.pointer (some ⟨b,0,none⟩)):=by rw [<- ha6];exact (ZA (by omega)).trans e5_0
 have e6_3:a6.eval (.tmp (B+3))=(.slice C q e):=by rw [<- ha6];exact (ZA (by omega)).trans e5_3
 have e6_4:a6.eval (.tmp (B+4))=(.pointer (some ⟨bp,0,none⟩)):=by rw [<- ha6];exact (ZA (by omega)).trans e5_4
 have e6_6:a6.eval (.tmp (B+6))=(.int .i64 q):=by rw [<- ha6];exact Zae (by rw [z5];omega)
 clear e5_0
 clear e5_3
 clear e5_4
 have HA6:=zh ha6
 clear ha6
 have y_4:=e6_4
 simp only [Act.eval,Array.getD_eq_getD_getElem?] at y_4
 have hne:∀ v u,(a6.put (some (B+7)) u).put (some (B+5)) v=(a6.put (some (B+5)) v).put (some (B+7)) u:=fun v u=>Act.put_comm _ _ _ (by intro d hd;injection hd with hd;subst hd;simp)
 have y_5:∀ u,((a6.put (some (B+7)) u).tmps[(B+4)]?).getD undef=.pointer (some ⟨bp,0,none⟩):=fun u=>by have q0:=(ZA (a:=a6) (d:=(B+7)) (e:=(B+4)) (v:=u) (by omega)).trans e6_4;simpa only [Act.eval,Array.getD_eq_getD_getElem?] using q0
 refine lcb (T1:=Zjp w0 w bp b r vL L s2 (x1,x2,.slice C q e) k pl ws us vs wi.heap.size tree) (U1:=Zia w0 w bp b r vL L s (x1,x2,.slice C q e) k pl ws us vs wi.heap.size) (R:=Zjo w0 w bp b r vL L s2 (x1,x2,.slice C q e) k pl ws us vs wi.heap.size tree) 5 7 o5 o7 m5 ma5 mb5 rfl hne ?c1 ?b1 ?b2 ?c2 (fun _ _ _ hR=>hR.G) ?hq
 case c1=>clear y_5 hB;intro K hK;refine Zf2 hF e6_4 (NM.out.mono ?_);rintro e w6 ⟨yq,rfl,hp,ht,hf⟩;go_wp2_with fail;exact hK _ _ _ rfl ⟨yq,rfl,G.out.call hp hf,ht⟩
 case b1=>intro v w6 hT;refine ⟨hT.G,fun K hK=>?_⟩;have hT2:=zh hT.built;clear hT y_4 y_5 hB;go_simp;exact hK _ _ _ rfl hT2.out
 case b2=>intro K hK;have hT2:=zh (G.out.built (n0:=wi.heap.size) (Nat.le_refl _));clear y_4 y_5 hB;go_simp;exact hK _ _ _ rfl hT2.out
 case c2=>intro u w6 hU;refine ⟨hU.G.1,fun K hK=>?_⟩;have NM2:=zh (HC.out w6 hU.G.2);have HU:=zh hU;have y5:=(ZA (a:=a6) (d:=(B+7)) (e:=(B+4)) (v:=u) (by omega)).trans e6_4;clear hU y_4 y_5 hB;refine Zf2 hF y5 (NM2.out.mono ?_);rintro e w7 ⟨yq,rfl,hp,ht,hf⟩;go_wp2_with fail;exact hK _ _ _ rfl (HU.out.called hp ht hf)
 clear hH y_4 y_5 hne
 rintro v u w1 ⟨yq,z,rfl,rfl,hG,ht,hz⟩
 have TS:=ht.shape2
 obtain ⟨X,x1',x2',Y,y1,y2,Z,z1,z2,rfl⟩:=TS
 have G1:=zh hz
 have G2:=zh (zi hG ht)
 have hH:=hG.cells.2.2.2.2.2
 clear hG ht hz NM
 (try dsimp only)
 dsimp only [ZbQ]
 generalize ha7:a6.put (some (B+5)) (.agg #[.int .i64 (Tr.kd tree),.slice X x1' x2',.slice Y y1 y2,.slice none 0 0,.int .i64 (Tr.ps tree),.slice Z z1 z2])=a7
 have z7:a7.tmps.size=a.tmps.size:=by rw [<- ha7,Zav];exact z6
 have e7_0:a7.eval (.tmp B)=(.pointer (some ⟨b,0,none⟩)):=by rw [<- ha7];exact (ZA (by omega)).trans e6_0
 have e7_3:a7.eval (.tmp (B+3))=(.slice C q e):=by rw [<- ha7];exact (ZA (by omega)).trans e6_3
 have e7_5:a7.eval (.tmp (B+5))=(.agg #[.int .i64 (Tr.kd tree),.slice X x1' x2',.slice Y y1 y2,.slice none 0 0,.int .i64 (Tr.ps tree),.slice Z z1 z2]):=by rw [<- ha7];exact Zae (by rw [z6];omega)
 have e7_6:a7.eval (.tmp (B+6))=(.int .i64 q):=by rw [<- ha7];exact (ZA (by omega)).trans e6_6
 clear e6_0
 clear e6_3
 clear e6_4
 clear e6_6
 have HA7:=zh ha7
 clear ha7
 generalize ha8:a7.put (some (B+7)) (.slice (some ⟨z,0,none⟩) 1 1)=a8
 have z8:a8.tmps.size=a.tmps.size:=by rw [<- ha8,Zav];exact z7
 have e8_0:a8.eval (.tmp B)=(.pointer (some ⟨b,0,none⟩)):=by rw [<- ha8];exact (ZA (by omega)).trans e7_0
 have e8_3:a8.eval (.tmp (B+3))=(.slice C q e):=by rw [<- ha8];exact (ZA (by omega)).trans e7_3
 have e8_5:a8.eval (.tmp (B+5))=(.agg #[.int .i64 (Tr.kd tree),.slice X x1' x2',.slice Y y1 y2,.slice none 0 0,.int .i64 (Tr.ps tree),.slice Z z1 z2]):=by rw [<- ha8];exact (ZA (by omega)).trans e7_5
 have e8_6:a8.eval (.tmp (B+6))=(.int .i64 q):=by rw [<- ha8];exact (ZA (by omega)).trans e7_6
 have e8_7:a8.eval (.tmp (B+7))=(.slice (some ⟨z,0,none⟩) 1 1):=by rw [<- ha8];exact Zae (by rw [z7];omega)
 clear e7_0
 clear e7_3
 clear e7_5
 clear e7_6
 have HA8:=zh ha8
 clear ha8
 refine ln 8 o8 (fun K hK=>?_) r8
 refine ZaF _ rfl _ _ 56 rfl w.heap.size 58 iN (.agg Zbj) 6 112 Tryz.underlying56 hN zN0 zN1 zN2 rfl (by decide) (.slice C q e) q _ e8_3 (G2.out.1.V2 LQ.out) (z+1) (some ⟨z,0,none⟩) 1 1 (Zbj.toList) e8_7 (Zj7 G1.out) (Zea _ _ _ _ _ _ _ _ _ _ _ _ _ _) (by have:=LQ.out;have:=LL.out;unfold maxLen;omega) (by have:=LQ.out;have:=LL.out;omega) G2.out.1.F.size ?_
 intro vq w3 hown hgrow hor
 have OS:=Zd6 hown
 obtain ⟨g,c,rfl,_⟩:=OS
 have G3:=zh (G2.out.1.zeroed (y:=((.slice X x1' x2',.slice Y y1 y2,.slice Z z1 z2),tree)) LQ.out G2.out.2 (fun c hc=>G.out.apart hc) hown hgrow hor)
 have GB:=zh (G2.out.1.gne hor rfl)
 have KF:=zh ((G2.out.1.K.grown hgrow G2.out.1.N.1).blk.free 5)
 clear hown hgrow hor
 refine hK.out (a8.put (some (B+8)) (.slice (some ⟨g,0,none⟩) (q+1) c)) _ (G3.out.1) (fun hH2=>?_)
 clear hK K hH;have hH:=hH2;clear hH2
 (try dsimp only)
 generalize ha9:a8.put (some (B+8)) (.slice (some ⟨g,0,none⟩) (q+1) c)=a9
 have z9:a9.tmps.size=a.tmps.size:=by rw [<- ha9,Zav];exact z8
 have e9_0:a9.eval (.tmp B)=(.pointer (some ⟨b,0,none⟩)):=by rw [<- ha9];exact (ZA (by omega)).trans e8_0
 have e9_5:a9.eval (.tmp (B+5))=(.agg #[.int .i64 (Tr.kd tree),.slice X x1' x2',.slice Y y1 y2,.slice none 0 0,.int .i64 (Tr.ps tree),.slice Z z1 z2]):=by rw [<- ha9];exact (ZA (by omega)).trans e8_5
 have e9_6:a9.eval (.tmp (B+6))=(.int .i64 q):=by rw [<- ha9];exact (ZA (by omega)).trans e8_6
 have e9_8:a9.eval (.tmp (B+8))=(.slice (some ⟨g,0,none⟩) (q+1) c):=by rw [<- ha9];exact Zae (by rw [z8];omega)
 clear e8_0
 clear e8_3
 clear e8_5
 clear e8_6
 clear e8_7
 have HA9:=zh ha9
 clear ha9
 refine lp (v:=(.pointer (some ⟨g,q*6,none⟩))) 9 o9 ?_ (by intro _;simp only [execOp];have y_8:=e9_8;simp only [Act.eval,Array.getD_eq_getD_getElem?] at y_8;have y_6:=e9_6;simp only [Act.eval,Array.getD_eq_getD_getElem?] at y_6;clear hB;go_simp) k0 f9 r9 i9 n9 (fun _ _ _ h=>h) rfl hH
 (try dsimp only)
 generalize ha10:a9.put (some (B+9)) (.pointer (some ⟨g,q*6,none⟩))=a10
 have z10:a10.tmps.size=a.tmps.size:=by rw [<- ha10,Zav];exact z9
 have e10_0:a10.eval (.tmp B)=(.pointer (some ⟨b,0,none⟩)):=by rw [<- ha10];exact (ZA (by omega)).trans e9_0
 have e10_5:a10.eval (.tmp (B+5))=(.agg #[.int .i64 (Tr.kd tree),.slice X x1' x2',.slice Y y1 y2,.slice none 0 0,.int .i64 (Tr.ps tree),.slice Z z1 z2]):=by rw [<- ha10];exact (ZA (by omega)).trans e9_5
 have e10_8:a10.eval (.tmp (B+8))=(.slice (some ⟨g,0,none⟩) (q+1) c):=by rw [<- ha10];exact (ZA (by omega)).trans e9_8
 have e10_9:a10.eval (.tmp (B+9))=(.pointer (some ⟨g,q*6,none⟩)):=by rw [<- ha10];exact Zae (by rw [z9];omega)
 clear e9_0
 clear e9_5
 clear e9_6
 clear e9_8
 have HA10:=zh ha10
 clear ha10
 refine lp (v:=(.pointer (some ⟨b,0,none⟩))) 11 o11 ?_ (by intro _;simp only [execOp,e10_0];go_simp) k0 f11 r11 i11 n11 (fun _ _ _ h=>h) rfl hH
 generalize ha11:a10.put (some (B+10)) (.pointer (some ⟨b,0,none⟩))=a11
 have z11:a11.tmps.size=a.tmps.size:=by rw [<- ha11,Zav];exact z10
 have e11_10:a11.eval (.tmp (B+10))=(.pointer (some ⟨b,0,none⟩)):=by rw [<- ha11];exact Zae (by rw [z10];omega)
 have e11_5:a11.eval (.tmp (B+5))=(.agg #[.int .i64 (Tr.kd tree),.slice X x1' x2',.slice Y y1 y2,.slice none 0 0,.int .i64 (Tr.ps tree),.slice Z z1 z2]):=by rw [<- ha11];exact (ZA (by omega)).trans e10_5
 have e11_8:a11.eval (.tmp (B+8))=(.slice (some ⟨g,0,none⟩) (q+1) c):=by rw [<- ha11];exact (ZA (by omega)).trans e10_8
 have e11_9:a11.eval (.tmp (B+9))=(.pointer (some ⟨g,q*6,none⟩)):=by rw [<- ha11];exact (ZA (by omega)).trans e10_9
 clear e10_0
 clear e10_5
 clear e10_8
 clear e10_9
 have HA11:=zh ha11
 clear ha11
 refine lp (v:=(.pointer (some ⟨b,5,none⟩))) 12 o12 ?_ (by intro _;simp only [execOp,e11_10];go_simp) k0 f12 r12 i12 n12 (fun _ _ _ h=>h) rfl hH
 generalize ha12:a11.put (some (B+11)) (.pointer (some ⟨b,5,none⟩))=a12
 have z12:a12.tmps.size=a.tmps.size:=by rw [<- ha12,Zav];exact z11
 have e12_11:a12.eval (.tmp (B+11))=(.pointer (some ⟨b,5,none⟩)):=by rw [<- ha12];exact Zae (by rw [z11];omega)
 have e12_5:a12.eval (.tmp (B+5))=(.agg #[.int .i64 (Tr.kd tree),.slice X x1' x2',.slice Y y1 y2,.slice none 0 0,.int .i64 (Tr.ps tree),.slice Z z1 z2]):=by rw [<- ha12];exact (ZA (by omega)).trans e11_5
 have e12_8:a12.eval (.tmp (B+8))=(.slice (some ⟨g,0,none⟩) (q+1) c):=by rw [<- ha12];exact (ZA (by omega)).trans e11_8
 have e12_9:a12.eval (.tmp (B+9))=(.pointer (some ⟨g,q*6,none⟩)):=by rw [<- ha12];exact (ZA (by omega)).trans e11_9
 clear e11_10
 clear e11_5
 clear e11_8
 clear e11_9
 have HA12:=zh ha12
 clear ha12
 have y_5:=e12_5
 simp only [Act.eval,Array.getD_eq_getD_getElem?] at y_5
 have y_8:=e12_8
 simp only [Act.eval,Array.getD_eq_getD_getElem?] at y_8
 have y_9:=e12_9
 simp only [Act.eval,Array.getD_eq_getD_getElem?] at y_9
 have y_11:=e12_11
 simp only [Act.eval,Array.getD_eq_getD_getElem?] at y_11
 clear hB
 have so:=Zy
 obtain ⟨e0,e1,e2,e3,e4,e5⟩:=G3.out.2.1
 have ef:=G3.out.2.2.1
 have k1:=G3.out.2.2.2.2.1
 have k2:=G3.out.2.2.2.2.2.1
 have k3:=G3.out.1
 have k4:=KF.out
 (try dsimp only at k1 k2 k3)
 have cf:=fun j=>(World.cell?_setCell_other w3 ⟨b,5,none⟩ ⟨g,j,none⟩ (.slice (some ⟨g,0,none⟩) (q+1) c) (fun e=>GB.out (congrArg Addr.block e).symm))
 have d0:=(cf _).trans e0
 have d1:=(cf _).trans e1
 have d2:=(cf _).trans e2
 have d3:=(cf _).trans e3
 have d4:=(cf _).trans e4
 have d5:=(cf _).trans e5
 have E6:=zh (Zd8 w3 g q b (.slice (some ⟨g,0,none⟩) (q+1) c) (.int .i64 (Tr.kd tree)) (.slice X x1' x2') (.slice Y y1 y2) (.slice none 0 0) (.int .i64 (Tr.ps tree)) (.slice Z z1 z2) GB.out)
 clear cf
 refine Zgn (a1:=?a1) (a2:=?a2) (b1:=?b1) (w1:=?w1) (w2:=?w2) (v1:=?v1) 10 13 o10 o13 m10 ma10 mb10 rfl rfl ?s1 ?s2 ?t1 ?t2 ?h
 case s1=>intro K hK;go_simp;exact hK
 case s2=>intro K hK;go_simp;exact hK
 case t1=>intro K hK;go_simp;exact hK
 case t2=>intro K hK;go_simp;rw [<- E6.out] at hK;exact hK
 clear so e0 e1 e2 e3 e4 e5 ef k1 k2 k3 k4 d0 d1 d2 d3 d4 d5 E6 hH
 refine ZaG rE ?_ _
 refine NoPanic.normal ?_
 have HH:=HP.out (.slice (some ⟨z,0,none⟩) 1 1) g c (.slice X x1' x2',.slice Y y1 y2,.slice Z z1 z2) _ G3.out.2.2.2.2.2.2
 dsimp only [ZbQ] at HH
 rw [HA1.out,HA2.out,HA3.out,HA4.out,HA5.out,HA6.out,HA7.out,HA8.out,HA9.out,HA10.out,HA11.out,HA12.out] at HH
 exact HH
def ZaQ (F B sp sn:Nat) (p:String):Array Oper:=#[⟨some B,.fieldAddr 58 (.tmp sn) 1,0,p,#[],none⟩,⟨some (B+1),.load 56 (.tmp B),56,p,#[gD 0],none⟩,⟨some (B+2),.move (.tmp sp),53,p,#[],none⟩,⟨some (B+3),.call ⟨.value (.func F),#[.tmp (B+2)],#[53]⟩,58,p,#[gD 2],none⟩,⟨some (B+4),.call ⟨.builtin .len,#[.tmp (B+1)],#[56]⟩,3,p,#[gD 1],none⟩,⟨some (B+5),.buildSlice 56 1 #[(0,.const (.agg #[.int .i64 0,.slice none 0 0,.slice none 0 0,.slice none 0 0,.int .i64 0,.slice none 0 0]))],56,p,#[],none⟩,⟨some (B+6),.call ⟨.builtin .append,#[.tmp (B+1),.tmp (B+5)],#[56,56]⟩,56,p,#[gD 1,gD 5,gC 3,gP 0,gP 1,gP 2,gP 3,gP 4,gP 5],none⟩,⟨some (B+7),.indexAddr 56 (.tmp (B+6)) (.tmp (B+4)),0,p,#[gD 6,gD 4,gP 0,gP 1,gP 2,gP 3,gP 4,gP 5,gP 6,gG 10],none⟩,⟨none,.store 58 (.tmp (B+7)) (.tmp (B+3)),0,p,#[gD 7,gD 3,gC 6,gP 0,gP 1,gP 2,gP 3,gP 4,gP 5,gP 6,gG 10],none⟩,⟨some (B+8),.fieldAddr 58 (.tmp sn) 1,0,p,#[gP 0,gP 1,gP 2,gP 3,gP 4,gP 5,gP 6,gT 7,gT 8],none⟩,⟨none,.store 56 (.tmp (B+8)) (.tmp (B+6)),0,p,#[gD 9,gD 6,gC 6,gT 8,gP 0,gP 1,gP 2,gP 3,gP 4,gP 5,gP 6,gT 7,gT 8],none⟩]
def ZoN (F B sp sn:Nat) (p:String):Bool:=
 Region.noSelect (ZaQ F B sp sn p)&&takeB (ZaQ F B sp sn p) [8,10] [] 0&&takeB (ZaQ F B sp sn p) [8,10] [0] 1&&([8,10].all fun k=>Zel .any (ZaQ F B sp sn p) 8 k 1)&&takeB (ZaQ F B sp sn p) [8,10] [0,1] 2&&takeB (ZaQ F B sp sn p) [8,10] [0,1,2] 4&&(Region.ready .any (ZaQ F B sp sn p) (upB 11 [0,1,2,4])==[3,5])&&(Region.ready .any (ZaQ F B sp sn p) (upB 11 [0,1,2,4,3])==[5])&&(Region.ready .any (ZaQ F B sp sn p) (upB 11 [0,1,2,4,5])==[3])&&Zc8 (ZaQ F B sp sn p) [0,1,2,4,3,5] 6&&takeB (ZaQ F B sp sn p) [8,10] [0,1,2,4,3,5,6] 7&&takeB (ZaQ F B sp sn p) [8,10] [0,1,2,4,3,5,6,7] 9&&(Region.ready .any (ZaQ F B sp sn p) (upB 11 [0,1,2,4,3,5,6,7,9])==[8,10])&&(Region.ready .any (ZaQ F B sp sn p) (upB 11 [0,1,2,4,3,5,6,7,9,8])==[10])&&(Region.ready .any (ZaQ F B sp sn p) (upB 11 [0,1,2,4,3,5,6,7,9,10])==[8])&&(Region.ready .any (ZaQ F B sp sn p) (upB 11 [0,1,2,4,3,5,6,7,9,8,10])==[])
theorem Zgj {F:Nat} (B sp sn:Nat) {p:String} {id:Nat} {Q:Exit->Act->World->Prop} {a:Act} {w0 w wi:World} {bp b r:Nat} {vL:Value} {L:List Tok} {s s2:PS} {x1 x2:Value} {C:Option Addr} {q e:Nat} {k pl:Int} {ws:List Txt} {us:List Int} {vs:List (NV×Tr)} {tree:Tr} (hG:Gn w0 w wi bp b r vL L s (x1,x2,.slice C q e) k pl ws us vs)
  (hl:vs.length<=10000000) (hF:∀ (args:Array Value) (w:World),(callFunc F args).run Tryz.prog w=.ok (.enter F args) w) (hC:∀ wr,ParS w0 wr bp vL L s->Calls Tryz.prog F #[.pointer (some ⟨bp,0,none⟩)] wr (Zcz w0 bp vL L wr tree s2))
  (h:∀ v7 g c y w',Gn w0 w w' bp b r vL L s2 (x1,x2,.slice (some ⟨g,0,none⟩) (q+1) c) k pl ws us (vs++[(y,tree)])->Q .normal (((((((((a.put (some B) (.pointer (some ⟨b,5,none⟩))).put (some (B+1)) (.slice C q e)).put (some (B+2)) (.pointer (some ⟨bp,0,none⟩))).put (some (B+4)) (.int .i64 q)).put (some (B+3)) (ZbQ (y,tree))).put (some (B+5)) v7).put (some (B+6)) (.slice (some ⟨g,0,none⟩) (q+1) c)).put (some (B+7)) (.pointer (some ⟨g,q*6,none⟩))).put (some (B+8)) (.pointer (some ⟨b,5,none⟩))) w')
  (hB:(Nat.blt (B+8) a.tmps.size&&Nat.blt sp B&&Nat.blt sn B)=true:=by kernel_rfl) (h1:a.eval (.tmp sp)=.pointer (some ⟨bp,0,none⟩):=by rfl) (h2:a.eval (.tmp sn)=.pointer (some ⟨b,0,none⟩):=by rfl) (hK:ZoN F B sp sn p=true:=by kernel_rfl) :
  (Code.region id (ZaQ F B sp sn p) true).wp Tryz.prog Q a wi:=by
 obtain ⟨iN,hN,zN0,zN1,zN2⟩:=info_parts Za8
 simp only [Bool.and_eq_true,Nat.blt_eq] at hB
 obtain ⟨⟨hB,hs1⟩,hs2⟩:=hB
 unfold ZoN takeB Zc8 at hK
 simp only [Bool.and_eq_true,Bool.not_eq_true',beq_iff_eq,and_assoc,upB,List.foldl_cons,List.foldl_nil] at hK
 obtain ⟨k0,f0,r0,i0,n0,f1,r1,i1,n1,u1,f2,r2,i2,n2,f4,r4,i4,n4,m3,ma3,mb3,r6,f7,r7,i7,n7,f9,r9,i9,n9,m8,ma8,mb8,rE⟩:=hK
 have LQ:=zh (show q=vs.length from hG.klen)
 have LL:=zh hl
 have iq0:(0:Int)<=((q:Nat):Int):=by omega
 have iq1:((q:Nat):Int)<((q:Nat):Int)+1:=by omega
 have NM:=zh (hC wi.drew hG.drew.P)
 have HC:=zh hC
 have G:=zh hG.drew
 have HP:=zh h
 clear h hG hC hl
 refine wp_region_noPanic ?_
 refine Zai [8,10] (fun V=>V.cell? ⟨b,5,none⟩=some (.slice C q e)) (by kernel_rfl) (G.out.cells.2.2.2.2.2) (fun hH=>?_)
 have o0:(ZaQ F B sp sn p)[0]? = some (⟨some B,.fieldAddr 58 (.tmp sn) 1,0,p,#[],none⟩:Oper):=rfl
 have o1:(ZaQ F B sp sn p)[1]? = some (⟨some (B+1),.load 56 (.tmp B),56,p,#[gD 0],none⟩:Oper):=rfl
 have o2:(ZaQ F B sp sn p)[2]? = some (⟨some (B+2),.move (.tmp sp),53,p,#[],none⟩:Oper):=rfl
 have o3:(ZaQ F B sp sn p)[3]? = some (⟨some (B+3),.call ⟨.value (.func F),#[.tmp (B+2)],#[53]⟩,58,p,#[gD 2],none⟩:Oper):=rfl
 have o4:(ZaQ F B sp sn p)[4]? = some (⟨some (B+4),.call ⟨.builtin .len,#[.tmp (B+1)],#[56]⟩,3,p,#[gD 1],none⟩:Oper):=rfl
 have o5:(ZaQ F B sp sn p)[5]? = some (⟨some (B+5),.buildSlice 56 1 #[(0,.const (.agg #[.int .i64 0,.slice none 0 0,.slice none 0 0,.slice none 0 0,.int .i64 0,.slice none 0 0]))],56,p,#[],none⟩:Oper):=rfl
 have o6:(ZaQ F B sp sn p)[6]? = some (⟨some (B+6),.call ⟨.builtin .append,#[.tmp (B+1),.tmp (B+5)],#[56,56]⟩,56,p,#[gD 1,gD 5,gC 3,gP 0,gP 1,gP 2,gP 3,gP 4,gP 5],none⟩:Oper):=rfl
 have o7:(ZaQ F B sp sn p)[7]? = some (⟨some (B+7),.indexAddr 56 (.tmp (B+6)) (.tmp (B+4)),0,p,#[gD 6,gD 4,gP 0,gP 1,gP 2,gP 3,gP 4,gP 5,gP 6,gG 10],none⟩:Oper):=rfl
 have o8:(ZaQ F B sp sn p)[8]? = some (⟨none,.store 58 (.tmp (B+7)) (.tmp (B+3)),0,p,#[gD 7,gD 3,gC 6,gP 0,gP 1,gP 2,gP 3,gP 4,gP 5,gP 6,gG 10],none⟩:Oper):=rfl
 have o9:(ZaQ F B sp sn p)[9]? = some (⟨some (B+8),.fieldAddr 58 (.tmp sn) 1,0,p,#[gP 0,gP 1,gP 2,gP 3,gP 4,gP 5,gP 6,gT 7,gT 8],none⟩:Oper):=rfl
 have o10:(ZaQ F B sp sn p)[10]? = some (⟨none,.store 56 (.tmp (B+8)) (.tmp (B+6)),0,p,#[gD 9,gD 6,gC 6,gT 8,gP 0,gP 1,gP 2,gP 3,gP 4,gP 5,gP 6,gT 7,gT 8],none⟩:Oper):=rfl
 refine lp (v:=(.pointer (some ⟨b,5,none⟩))) 0 o0 ?_ (by intro _;simp only [execOp,h2];go_simp) k0 f0 r0 i0 n0 (fun _ _ _ h=>h) rfl hH
 generalize ha1:a.put (some B) (.pointer (some ⟨b,5,none⟩))=a1
 have z1:a1.tmps.size=a.tmps.size:=by rw [<- ha1,Zav]
 have e1_0:a1.eval (.tmp B)=(.pointer (some ⟨b,5,none⟩)):=by rw [<- ha1];exact Zae (by omega)
 have e1_sn:a1.eval (.tmp sn)=.pointer (some ⟨b,0,none⟩):=by rw [<- ha1];exact (ZA (by omega)).trans h2
 have e1_sp:a1.eval (.tmp sp)=.pointer (some ⟨bp,0,none⟩):=by rw [<- ha1];exact (ZA (by omega)).trans h1
 clear h1
 clear h2
 have HA1:=zh ha1
 clear ha1
 refine lk (v:=(.slice C q e)) 1 o1 ?_ (by intro _ hS_;simp only [execOp,e1_0];go_simp) k0 f1 r1 i1 (by rw [n1];exact u1) (fun _ _ _ h=>h) rfl hH
 dsimp only
 generalize ha2:a1.put (some (B+1)) (.slice C q e)=a2
 have z2:a2.tmps.size=a.tmps.size:=by rw [<- ha2,Zav];exact z1
 have e2_1:a2.eval (.tmp (B+1))=(.slice C q e):=by rw [<- ha2];exact Zae (by rw [z1];omega)
 have e2_sn:a2.eval (.tmp sn)=.pointer (some ⟨b,0,none⟩):=by rw [<- ha2];exact (ZA (by omega)).trans e1_sn
 have e2_sp:a2.eval (.tmp sp)=.pointer (some ⟨bp,0,none⟩):=by rw [<- ha2];exact (ZA (by omega)).trans e1_sp
 clear e1_0
 clear e1_sn
 clear e1_sp
 have HA2:=zh ha2
 clear ha2
 refine lp (v:=(.pointer (some ⟨bp,0,none⟩))) 2 o2 ?_ (by intro _;simp only [execOp,e2_sp];go_simp) k0 f2 r2 i2 n2 (fun _ _ _ h=>h) rfl hH
 generalize ha3:a2.put (some (B+2)) (.pointer (some ⟨bp,0,none⟩))=a3
 have z3:a3.tmps.size=a.tmps.size:=by rw [<- ha3,Zav];exact z2
 have e3_1:a3.eval (.tmp (B+1))=(.slice C q e):=by rw [<- ha3];exact (ZA (by omega)).trans e2_1
 have e3_2:a3.eval (.tmp (B+2))=(.pointer (some ⟨bp,0,none⟩)):=by rw [<- ha3];exact Zae (by rw [z2];omega)
 have e3_sn:a3.eval (.tmp sn)=.pointer (some ⟨b,0,none⟩):=by rw [<- ha3];exact (ZA (by omega)).trans e2_sn
 clear e2_1
 clear e2_sn
 clear e2_sp
 have HA3:=zh ha3
 clear ha3
 refine lp (v:=(.int .i64 q)) 4 o4 ?_ (by intro _;simp only [execOp];have y_1:=e3_1;simp only [Act.eval,Array.getD_eq_getD_getElem?] at y_1;clear hB;go_simp) k0 f4 r4 i4 n4 (fun _ _ _ h=>h) rfl hH
 (try dsimp only)
 generalize ha4:a3.put (some (B+4)) (.int .i64 q)=a4
 have z4:a4.tmps.size=a.tmps.size:=by rw [<- ha4,Zav];exact z3
 have e4_1:a4.eval (.tmp (B+1))=(.slice C q e):=by rw [<- ha4];exact (ZA (by omega)).trans e3_1
 have e4_2:a4.eval (.tmp (B+2))=(.pointer (some ⟨bp,0,none⟩)):=by rw [<- ha4];exact (ZA (by omega)).trans e3_2
 have e4_4:a4.eval (.tmp (B+4))=(.int .i64 q):=by rw [<- ha4];exact Zae (by rw [z3];omega)
 have e4_sn:a4.eval (.tmp sn)=.pointer (some ⟨b,0,none⟩):=by rw [<- ha4];exact (ZA (by omega)).trans e3_sn
 clear e3_1
 clear e3_2
 clear e3_sn
 have HA4:=zh ha4
 clear ha4
 have y_4:=e4_2
 simp only [Act.eval,Array.getD_eq_getD_getElem?] at y_4
 have hne:∀ v u,(a4.put (some (B+5)) u).put (some (B+3)) v=(a4.put (some (B+3)) v).put (some (B+5)) u:=fun v u=>Act.put_comm _ _ _ (by intro d hd;injection hd with hd;subst hd;simp)
 have y_5:∀ u,((a4.put (some (B+5)) u).tmps[(B+2)]?).getD undef=.pointer (some ⟨bp,0,none⟩):=fun u=>by have q0:=(ZA (a:=a4) (d:=(B+5)) (e:=(B+2)) (v:=u) (by omega)).trans e4_2;simpa only [Act.eval,Array.getD_eq_getD_getElem?] using q0
 refine lcb (T1:=Zjp w0 w bp b r vL L s2 (x1,x2,.slice C q e) k pl ws us vs wi.heap.size tree) (U1:=Zia w0 w bp b r vL L s (x1,x2,.slice C q e) k pl ws us vs wi.heap.size) (R:=Zjo w0 w bp b r vL L s2 (x1,x2,.slice C q e) k pl ws us vs wi.heap.size tree) 3 5 o3 o5 m3 ma3 mb3 rfl hne ?c1 ?b1 ?b2 ?c2 (fun _ _ _ hR=>hR.G) ?hq
 case c1=>clear y_5 hB;intro K hK;refine Zf2 hF e4_2 (NM.out.mono ?_);rintro e w6 ⟨yq,rfl,hp,ht,hf⟩;go_wp2_with fail;exact hK _ _ _ rfl ⟨yq,rfl,G.out.call hp hf,ht⟩
 case b1=>intro v w6 hT;refine ⟨hT.G,fun K hK=>?_⟩;have hT2:=zh hT.built;clear hT y_4 y_5 hB;go_simp;exact hK _ _ _ rfl hT2.out
 case b2=>intro K hK;have hT2:=zh (G.out.built (n0:=wi.heap.size) (Nat.le_refl _));clear y_4 y_5 hB;go_simp;exact hK _ _ _ rfl hT2.out
 case c2=>intro u w6 hU;refine ⟨hU.G.1,fun K hK=>?_⟩;have NM2:=zh (HC.out w6 hU.G.2);have HU:=zh hU;have y5:=(ZA (a:=a4) (d:=(B+5)) (e:=(B+2)) (v:=u) (by omega)).trans e4_2;clear hU y_4 y_5 hB;refine Zf2 hF y5 (NM2.out.mono ?_);rintro e w7 ⟨yq,rfl,hp,ht,hf⟩;go_wp2_with fail;exact hK _ _ _ rfl (HU.out.called hp ht hf)
 clear hH y_4 y_5 hne
 rintro v u w1 ⟨yq,z,rfl,rfl,hG,ht,hz⟩
 have TS:=ht.shape2
 obtain ⟨X,x1',x2',Y,y1,y2,Z,z1,z2,rfl⟩:=TS
 have G1:=zh hz
 have G2:=zh (zi hG ht)
 have hH:=hG.cells.2.2.2.2.2
 clear hG ht hz NM
 (try dsimp only)
 dsimp only [ZbQ]
 generalize ha5:a4.put (some (B+3)) (.agg #[.int .i64 (Tr.kd tree),.slice X x1' x2',.slice Y y1 y2,.slice none 0 0,.int .i64 (Tr.ps tree),.slice Z z1 z2])=a5
 have z5:a5.tmps.size=a.tmps.size:=by rw [<- ha5,Zav];exact z4
 have e5_1:a5.eval (.tmp (B+1))=(.slice C q e):=by rw [<- ha5];exact (ZA (by omega)).trans e4_1
 have e5_3:a5.eval (.tmp (B+3))=(.agg #[.int .i64 (Tr.kd tree),.slice X x1' x2',.slice Y y1 y2,.slice none 0 0,.int .i64 (Tr.ps tree),.slice Z z1 z2]):=by rw [<- ha5];exact Zae (by rw [z4];omega)
 have e5_4:a5.eval (.tmp (B+4))=(.int .i64 q):=by rw [<- ha5];exact (ZA (by omega)).trans e4_4
 have e5_sn:a5.eval (.tmp sn)=.pointer (some ⟨b,0,none⟩):=by rw [<- ha5];exact (ZA (by omega)).trans e4_sn
 clear e4_1
 clear e4_2
 clear e4_4
 clear e4_sn
 have HA5:=zh ha5
 clear ha5
 generalize ha6:a5.put (some (B+5)) (.slice (some ⟨z,0,none⟩) 1 1)=a6
 have z6:a6.tmps.size=a.tmps.size:=by rw [<- ha6,Zav];exact z5
 have e6_1:a6.eval (.tmp (B+1))=(.slice C q e):=by rw [<- ha6];exact (ZA (by omega)).trans e5_1
 have e6_3:a6.eval (.tmp (B+3))=(.agg #[.int .i64 (Tr.kd tree),.slice X x1' x2',.slice Y y1 y2,.slice none 0 0,.int .i64 (Tr.ps tree),.slice Z z1 z2]):=by rw [<- ha6];exact (ZA (by omega)).trans e5_3
 have e6_4:a6.eval (.tmp (B+4))=(.int .i64 q):=by rw [<- ha6];exact (ZA (by omega)).trans e5_4
 have e6_5:a6.eval (.tmp (B+5))=(.slice (some ⟨z,0,none⟩) 1 1):=by rw [<- ha6];exact Zae (by rw [z5];omega)
 have e6_sn:a6.eval (.tmp sn)=.pointer (some ⟨b,0,none⟩):=by rw [<- ha6];exact (ZA (by omega)).trans e5_sn
 clear e5_1
 clear e5_3
 clear e5_4
 clear e5_sn
 have HA6:=zh ha6
 clear ha6
 refine ln 6 o6 (fun K hK=>?_) r6
 refine ZaF _ rfl _ _ 56 rfl w.heap.size 58 iN (.agg Zbj) 6 112 Tryz.underlying56 hN zN0 zN1 zN2 rfl (by decide) (.slice C q e) q _ e6_1 (G2.out.1.V2 LQ.out) (z+1) (some ⟨z,0,none⟩) 1 1 (Zbj.toList) e6_5 (Zj7 G1.out) (Zea _ _ _ _ _ _ _ _ _ _ _ _ _ _) (by have:=LQ.out;have:=LL.out;unfold maxLen;omega) (by have:=LQ.out;have:=LL.out;omega) G2.out.1.F.size ?_
 intro vq w3 hown hgrow hor
 have OS:=Zd6 hown
 obtain ⟨g,c,rfl,_⟩:=OS
 have G3:=zh (G2.out.1.zeroed (y:=((.slice X x1' x2',.slice Y y1 y2,.slice Z z1 z2),tree)) LQ.out G2.out.2 (fun c hc=>G.out.apart hc) hown hgrow hor)
 have GB:=zh (G2.out.1.gne hor rfl)
 have KF:=zh ((G2.out.1.K.grown hgrow G2.out.1.N.1).blk.free 5)
 clear hown hgrow hor
 refine hK.out (a6.put (some (B+6)) (.slice (some ⟨g,0,none⟩) (q+1) c)) _ (G3.out.1) (fun hH2=>?_)
 clear hK K hH;have hH:=hH2;clear hH2
 (try dsimp only)
 generalize ha7:a6.put (some (B+6)) (.slice (some ⟨g,0,none⟩) (q+1) c)=a7
 have z7:a7.tmps.size=a.tmps.size:=by rw [<- ha7,Zav];exact z6
 have e7_3:a7.eval (.tmp (B+3))=(.agg #[.int .i64 (Tr.kd tree),.slice X x1' x2',.slice Y y1 y2,.slice none 0 0,.int .i64 (Tr.ps tree),.slice Z z1 z2]):=by rw [<- ha7];exact (ZA (by omega)).trans e6_3
 have e7_4:a7.eval (.tmp (B+4))=(.int .i64 q):=by rw [<- ha7];exact (ZA (by omega)).trans e6_4
 have e7_6:a7.eval (.tmp (B+6))=(.slice (some ⟨g,0,none⟩) (q+1) c):=by rw [<- ha7];exact Zae (by rw [z6];omega)
 have e7_sn:a7.eval (.tmp sn)=.pointer (some ⟨b,0,none⟩):=by rw [<- ha7];exact (ZA (by omega)).trans e6_sn
 clear e6_1
 clear e6_3
 clear e6_4
 clear e6_5
 clear e6_sn
 have HA7:=zh ha7
 clear ha7
 refine lp (v:=(.pointer (some ⟨g,q*6,none⟩))) 7 o7 ?_ (by intro _;simp only [execOp];have y_6:=e7_6;simp only [Act.eval,Array.getD_eq_getD_getElem?] at y_6;have y_4:=e7_4;simp only [Act.eval,Array.getD_eq_getD_getElem?] at y_4;clear hB;go_simp) k0 f7 r7 i7 n7 (fun _ _ _ h=>h) rfl hH
 (try dsimp only)
 generalize ha8:a7.put (some (B+7)) (.pointer (some ⟨g,q*6,none⟩))=a8
 have z8:a8.tmps.size=a.tmps.size:=by rw [<- ha8,Zav];exact z7
 have e8_3:a8.eval (.tmp (B+3))=(.agg #[.int .i64 (Tr.kd tree),.slice X x1' x2',.slice Y y1 y2,.slice none 0 0,.int .i64 (Tr.ps tree),.slice Z z1 z2]):=by rw [<- ha8];exact (ZA (by omega)).trans e7_3
 have e8_6:a8.eval (.tmp (B+6))=(.slice (some ⟨g,0,none⟩) (q+1) c):=by rw [<- ha8];exact (ZA (by omega)).trans e7_6
 have e8_7:a8.eval (.tmp (B+7))=(.pointer (some ⟨g,q*6,none⟩)):=by rw [<- ha8];exact Zae (by rw [z7];omega)
 have e8_sn:a8.eval (.tmp sn)=.pointer (some ⟨b,0,none⟩):=by rw [<- ha8];exact (ZA (by omega)).trans e7_sn
 clear e7_3
 clear e7_4
 clear e7_6
 clear e7_sn
 have HA8:=zh ha8
 clear ha8
 refine lp (v:=(.pointer (some ⟨b,5,none⟩))) 9 o9 ?_ (by intro _;simp only [execOp,e8_sn];go_simp) k0 f9 r9 i9 n9 (fun _ _ _ h=>h) rfl hH
 generalize ha9:a8.put (some (B+8)) (.pointer (some ⟨b,5,none⟩))=a9
 have z9:a9.tmps.size=a.tmps.size:=by rw [<- ha9,Zav];exact z8
 have e9_3:a9.eval (.tmp (B+3))=(.agg #[.int .i64 (Tr.kd tree),.slice X x1' x2',.slice Y y1 y2,.slice none 0 0,.int .i64 (Tr.ps tree),.slice Z z1 z2]):=by rw [<- ha9];exact (ZA (by omega)).trans e8_3
 have e9_6:a9.eval (.tmp (B+6))=(.slice (some ⟨g,0,none⟩) (q+1) c):=by rw [<- ha9];exact (ZA (by omega)).trans e8_6
 have e9_7:a9.eval (.tmp (B+7))=(.pointer (some ⟨g,q*6,none⟩)):=by rw [<- ha9];exact (ZA (by omega)).trans e8_7
 have e9_8:a9.eval (.tmp (B+8))=(.pointer (some ⟨b,5,none⟩)):=by rw [<- ha9];exact Zae (by rw [z8];omega)
 clear e8_3
 clear e8_6
 clear e8_7
 clear e8_sn
 have HA9:=zh ha9
 clear ha9
 have y_3:=e9_3
 simp only [Act.eval,Array.getD_eq_getD_getElem?] at y_3
 have y_6:=e9_6
 simp only [Act.eval,Array.getD_eq_getD_getElem?] at y_6
 have y_7:=e9_7
 simp only [Act.eval,Array.getD_eq_getD_getElem?] at y_7
 have y_8:=e9_8
 simp only [Act.eval,Array.getD_eq_getD_getElem?] at y_8
 clear hB
 have so:=Zy
 obtain ⟨e0,e1,e2,e3,e4,e5⟩:=G3.out.2.1
 have ef:=G3.out.2.2.1
 have k1:=G3.out.2.2.2.2.1
 have k2:=G3.out.2.2.2.2.2.1
 have k3:=G3.out.1
 have k4:=KF.out
 (try dsimp only at k1 k2 k3)
 have cf:=fun j=>(World.cell?_setCell_other w3 ⟨b,5,none⟩ ⟨g,j,none⟩ (.slice (some ⟨g,0,none⟩) (q+1) c) (fun e=>GB.out (congrArg Addr.block e).symm))
 have d0:=(cf _).trans e0
 have d1:=(cf _).trans e1
 have d2:=(cf _).trans e2
 have d3:=(cf _).trans e3
 have d4:=(cf _).trans e4
 have d5:=(cf _).trans e5
 have E6:=zh (Zd8 w3 g q b (.slice (some ⟨g,0,none⟩) (q+1) c) (.int .i64 (Tr.kd tree)) (.slice X x1' x2') (.slice Y y1 y2) (.slice none 0 0) (.int .i64 (Tr.ps tree)) (.slice Z z1 z2) GB.out)
 clear cf
 refine Zgn (a1:=?a1) (a2:=?a2) (b1:=?b1) (w1:=?w1) (w2:=?w2) (v1:=?v1) 8 10 o8 o10 m8 ma8 mb8 rfl rfl ?s1 ?s2 ?t1 ?t2 ?h
 case s1=>intro K hK;go_simp;exact hK
 case s2=>intro K hK;go_simp;exact hK
 case t1=>intro K hK;go_simp;exact hK
 case t2=>intro K hK;go_simp;rw [<- E6.out] at hK;exact hK
 clear so e0 e1 e2 e3 e4 e5 ef k1 k2 k3 k4 d0 d1 d2 d3 d4 d5 E6 hH
 refine ZaG rE ?_ _
 refine NoPanic.normal ?_
 have HH:=HP.out (.slice (some ⟨z,0,none⟩) 1 1) g c (.slice X x1' x2',.slice Y y1 y2,.slice Z z1 z2) _ G3.out.2.2.2.2.2.2
 dsimp only [ZbQ] at HH
 rw [HA1.out,HA2.out,HA3.out,HA4.out,HA5.out,HA6.out,HA7.out,HA8.out,HA9.out] at HH
 exact HH
end
section
open Go.RowKit
theorem Zl3 (w0 w:World) (bp:Nat) (vL:Value) (L:List Tok) (s:PS) (h:ParS w0 w bp vL L s) (h1:isM L [115,116,97,116,101] s=true) :
  Calls Tryz.prog 74 #[.pointer (some ⟨bp,0,none⟩)] w (Zcz w0 bp vL L w (Zbo L s).1 (Zbo L s).2):=by
 have hM:Zbo L s=(.mk 2 [(Zb L (Zd s)).1] [0] (Ze L s) [],Zf L [59] (Zb L (Zd s)).2):=by unfold Zbo;simp only [h1,if_true]
 rw [hM]
 clear hM
 obtain ⟨iS,hS,zS0,zS1,zS2⟩:=info_parts Zbd
 obtain ⟨iU,hU,zU0,zU1,zU2⟩:=info_parts Zbl
 obtain ⟨iN,hN,zN0,zN1,zN2⟩:=info_parts Za8
 have a0:=below_alloc1 w (.cells #[.int .i64 0,.slice none 0 0,.slice none 0 0,.slice none 0 0,.int .i64 0,.slice none 0 0] 58)
 have ha:=h.keep a0
 generalize hwa:w.alloc (.cells #[.int .i64 0,.slice none 0 0,.slice none 0 0,.slice none 0 0,.int .i64 0,.slice none 0 0] 58)=wa at *
 have RB:=zh (Zar w0 wa bp vL L s 2 ha)
 have H:=zh h
 have HZ:=zh h.size0
 clear a0 ha h
 go_enter Tryz.func74,Tryz.ntmps74
 go_upto_region 2 with (go_at_call 46;(with_reducible refine RB.out.mono ?_);rintro e w1 ⟨rfl,hb⟩;have B1:=zh hb;clear hb)
 have G2:=zh (Gn.start (k:=2) (p:=Ze L s) H.out hwa B1.out)
 clear hwa RB
 generalize w1.alloc (.cells #[.int .i64 2,.slice none 0 0,.slice none 0 0,.slice none 0 0,.int .i64 (Ze L s),.slice none 0 0] 58)=w2 at *
 clear B1
 generalize w1.heap.size=b at *
 have CT:=zh (ZY (y:=[115,116,97,116,101]) G2.out.P h1)
 go_upto_region 3 with (go_at_call 73;(with_reducible refine CT.out.mono ?_);rintro e w3 ⟨rfl,hp,hf⟩;have G3:=zh (G2.out.call hp hf);clear hp hf)
 clear G2
 clear CT
 have GL:=zh (G3.out.listed (ys:=[0]) (by simp [maxLen]))
 have GB:=G3.out.below (below_alloc1 w3 (.cells #[.int .i64 0] 2))
 generalize hwl:w3.alloc (.cells #[.int .i64 0] 2)=w4 at *
 obtain ⟨q0,q1,q2,q3,q4,q5⟩:=GB.cells
 dsimp only at q1 q2 q5
 have qf:=GB.free
 clear GB
 go_upto_region 4 with fail
 clear q0 q1 q2 q3 q4 q5 qf
 have G5:=GL
 clear GL G3
 simp only [List.map_cons,List.map_nil,List.length_cons,List.length_nil,hwl] at G5
 generalize w4.setCell ⟨b,2,none⟩ (.slice (some ⟨w3.heap.size,0,none⟩) 1 1)=w5 at *
 clear hwl
 (try go_upto_region 4 with fail)
 refine Zbg 12 0 3 G5.out (by simp) (fun v5 A6 n6 c6 w6 hG=>?_)
 (try dsimp only at hG)
 have G6:=zh hG
 clear hG G5
 (try simp only [cl,Act.put])
 have CT:=zh (Zad w0 w6 bp vL L (Zb L (Zd s)).2 [59] G6.out.P)
 go_upto_region 19 with (go_at_call 71;(with_reducible refine CT.out.mono ?_);rintro e w7 ⟨rfl,hp,hf⟩;have G7:=zh (G6.out.call hp hf);clear hp hf)
 clear G6
 clear CT
 obtain ⟨q0,q1,q2,q3,q4,q5⟩:=G7.out.cells
 dsimp only at q1 q2 q5
 have qf:=G7.out.free
 obtain ⟨z0,z1,z2,z3,z4,z5⟩:=G7.out.zeros HZ.out
 have zf:=G7.out.rfree HZ.out
 have so:=Zy
 go_wp2_with fail
 obtain ⟨r0,r1,r2,r3,r4,r5⟩:=ZaH (G7.out.R HZ.out) (.int .i64 2) (.slice A6 n6 c6) (.slice (some ⟨w3.heap.size,0,none⟩) 1 1) (.slice none 0 0) (.int .i64 (Ze L s)) (.slice none 0 0)
 obtain ⟨o1,o2,o3⟩:=G7.out.out HZ.out (.int .i64 2) (.slice A6 n6 c6) (.slice (some ⟨w3.heap.size,0,none⟩) 1 1) (.slice none 0 0) (.int .i64 (Ze L s)) (.slice none 0 0)
 exact bodyPost_ret (v:=.agg #[.int .i64 2,(.slice A6 n6 c6),(.slice (some ⟨w3.heap.size,0,none⟩) 1 1),.slice none 0 0,.int .i64 (Ze L s),(.slice none 0 0)]) (by simp [results,Tryz.results74,go_sem,so,r0,r1,r2,r3,r4,r5]) rfl ⟨((.slice A6 n6 c6),(.slice (some ⟨w3.heap.size,0,none⟩) 1 1),(.slice none 0 0)),rfl,o1,o2,o3⟩
theorem Zl2 (w0 w:World) (bp:Nat) (vL:Value) (L:List Tok) (s:PS) (h:ParS w0 w bp vL L s) (h1:isM L [115,116,97,116,101] s=false) (h2:isM L [102,105,110,97,108] s=true) :
  Calls Tryz.prog 74 #[.pointer (some ⟨bp,0,none⟩)] w (Zcz w0 bp vL L w (Zbo L s).1 (Zbo L s).2):=by
 have hM:Zbo L s=(.mk 2 [(Zb L (Zd s)).1] [1] (Ze L s) [],Zf L [59] (Zb L (Zd s)).2):=by unfold Zbo;simp only [h1,h2,if_true,Bool.false_eq_true,if_false]
 rw [hM]
 clear hM
 obtain ⟨iS,hS,zS0,zS1,zS2⟩:=info_parts Zbd
 obtain ⟨iU,hU,zU0,zU1,zU2⟩:=info_parts Zbl
 obtain ⟨iN,hN,zN0,zN1,zN2⟩:=info_parts Za8
 have a0:=below_alloc1 w (.cells #[.int .i64 0,.slice none 0 0,.slice none 0 0,.slice none 0 0,.int .i64 0,.slice none 0 0] 58)
 have ha:=h.keep a0
 generalize hwa:w.alloc (.cells #[.int .i64 0,.slice none 0 0,.slice none 0 0,.slice none 0 0,.int .i64 0,.slice none 0 0] 58)=wa at *
 have RB:=zh (Zar w0 wa bp vL L s 2 ha)
 have H:=zh h
 have HZ:=zh h.size0
 clear a0 ha h
 go_enter Tryz.func74,Tryz.ntmps74
 go_upto_region 2 with (go_at_call 46;(with_reducible refine RB.out.mono ?_);rintro e w1 ⟨rfl,hb⟩;have B1:=zh hb;clear hb)
 have G2:=zh (Gn.start (k:=2) (p:=Ze L s) H.out hwa B1.out)
 clear hwa RB
 generalize w1.alloc (.cells #[.int .i64 2,.slice none 0 0,.slice none 0 0,.slice none 0 0,.int .i64 (Ze L s),.slice none 0 0] 58)=w2 at *
 clear B1
 generalize w1.heap.size=b at *
 have CT:=zh (ZQ (y:=[115,116,97,116,101]) G2.out.P h1)
 go_upto_region 5 with (go_at_call 73;(with_reducible refine CT.out.mono ?_);rintro e w3 ⟨rfl,hp,hf⟩;have G3:=zh (G2.out.call hp hf);clear hp hf)
 clear G2
 clear CT
 have CT:=zh (ZY (y:=[102,105,110,97,108]) G3.out.P h2)
 go_upto_region 6 with (go_at_call 73;(with_reducible refine CT.out.mono ?_);rintro e w4 ⟨rfl,hp,hf⟩;have G4:=zh (G3.out.call hp hf);clear hp hf)
 clear G3
 clear CT
 have GL:=zh (G4.out.listed (ys:=[1]) (by simp [maxLen]))
 have GB:=G4.out.below (below_alloc1 w4 (.cells #[.int .i64 1] 2))
 generalize hwl:w4.alloc (.cells #[.int .i64 1] 2)=w5 at *
 obtain ⟨q0,q1,q2,q3,q4,q5⟩:=GB.cells
 dsimp only at q1 q2 q5
 have qf:=GB.free
 clear GB
 go_upto_region 7 with fail
 clear q0 q1 q2 q3 q4 q5 qf
 have G6:=GL
 clear GL G4
 simp only [List.map_cons,List.map_nil,List.length_cons,List.length_nil,hwl] at G6
 generalize w5.setCell ⟨b,2,none⟩ (.slice (some ⟨w4.heap.size,0,none⟩) 1 1)=w6 at *
 clear hwl
 (try go_upto_region 7 with fail)
 refine Zbg 26 0 3 G6.out (by simp) (fun v5 A7 n7 c7 w7 hG=>?_)
 (try dsimp only at hG)
 have G7:=zh hG
 clear hG G6
 (try simp only [cl,Act.put])
 have CT:=zh (Zad w0 w7 bp vL L (Zb L (Zd s)).2 [59] G7.out.P)
 go_upto_region 19 with (go_at_call 71;(with_reducible refine CT.out.mono ?_);rintro e w8 ⟨rfl,hp,hf⟩;have G8:=zh (G7.out.call hp hf);clear hp hf)
 clear G7
 clear CT
 obtain ⟨q0,q1,q2,q3,q4,q5⟩:=G8.out.cells
 dsimp only at q1 q2 q5
 have qf:=G8.out.free
 obtain ⟨z0,z1,z2,z3,z4,z5⟩:=G8.out.zeros HZ.out
 have zf:=G8.out.rfree HZ.out
 have so:=Zy
 go_wp2_with fail
 obtain ⟨r0,r1,r2,r3,r4,r5⟩:=ZaH (G8.out.R HZ.out) (.int .i64 2) (.slice A7 n7 c7) (.slice (some ⟨w4.heap.size,0,none⟩) 1 1) (.slice none 0 0) (.int .i64 (Ze L s)) (.slice none 0 0)
 obtain ⟨o1,o2,o3⟩:=G8.out.out HZ.out (.int .i64 2) (.slice A7 n7 c7) (.slice (some ⟨w4.heap.size,0,none⟩) 1 1) (.slice none 0 0) (.int .i64 (Ze L s)) (.slice none 0 0)
 exact bodyPost_ret (v:=.agg #[.int .i64 2,(.slice A7 n7 c7),(.slice (some ⟨w4.heap.size,0,none⟩) 1 1),.slice none 0 0,.int .i64 (Ze L s),(.slice none 0 0)]) (by simp [results,Tryz.results74,go_sem,so,r0,r1,r2,r3,r4,r5]) rfl ⟨((.slice A7 n7 c7),(.slice (some ⟨w4.heap.size,0,none⟩) 1 1),(.slice none 0 0)),rfl,o1,o2,o3⟩
theorem ZqD (w0 w:World) (bp:Nat) (vL:Value) (L:List Tok) (s:PS) (h:ParS w0 w bp vL L s) (h1:isM L [115,116,97,116,101] s=false) (h2:isM L [102,105,110,97,108] s=false) :
  Calls Tryz.prog 74 #[.pointer (some ⟨bp,0,none⟩)] w (Zcz w0 bp vL L w (Zbo L s).1 (Zbo L s).2):=by
 obtain ⟨R,hR⟩:∃ R,R=Zcy L (L.length+1) [(Zb L (Zf L [111,112] s)).1,(Zb L (Zb L (Zf L [111,112] s)).2).1] (Zf L [45,62] (Zb L (Zb L (Zf L [111,112] s)).2).2):=⟨_,rfl⟩
 have hM:Zbo L s=(.mk 3 R.1 [] (Ze L s) [],Zf L [59] R.2):=by rw [hR];unfold Zbo;simp only [h1,h2,Bool.false_eq_true,if_false]
 rw [hM]
 clear hM
 obtain ⟨iS,hS,zS0,zS1,zS2⟩:=info_parts Zbd
 obtain ⟨iU,hU,zU0,zU1,zU2⟩:=info_parts Zbl
 obtain ⟨iN,hN,zN0,zN1,zN2⟩:=info_parts Za8
 have a0:=below_alloc1 w (.cells #[.int .i64 0,.slice none 0 0,.slice none 0 0,.slice none 0 0,.int .i64 0,.slice none 0 0] 58)
 have ha:=h.keep a0
 generalize hwa:w.alloc (.cells #[.int .i64 0,.slice none 0 0,.slice none 0 0,.slice none 0 0,.int .i64 0,.slice none 0 0] 58)=wa at *
 have RB:=zh (Zar w0 wa bp vL L s 2 ha)
 have H:=zh h
 have HZ:=zh h.size0
 clear a0 ha h
 go_enter Tryz.func74,Tryz.ntmps74
 go_upto_region 2 with (go_at_call 46;(with_reducible refine RB.out.mono ?_);rintro e w1 ⟨rfl,hb⟩;have B1:=zh hb;clear hb)
 have G2:=zh (Gn.start (k:=2) (p:=Ze L s) H.out hwa B1.out)
 clear hwa RB
 generalize w1.alloc (.cells #[.int .i64 2,.slice none 0 0,.slice none 0 0,.slice none 0 0,.int .i64 (Ze L s),.slice none 0 0] 58)=w2 at *
 clear B1
 generalize w1.heap.size=b at *
 have CT:=zh (ZQ (y:=[115,116,97,116,101]) G2.out.P h1)
 go_upto_region 5 with (go_at_call 73;(with_reducible refine CT.out.mono ?_);rintro e w3 ⟨rfl,hp,hf⟩;have G3:=zh (G2.out.call hp hf);clear hp hf)
 clear G2
 clear CT
 have CT:=zh (ZQ (y:=[102,105,110,97,108]) G3.out.P h2)
 go_upto_region 8 with (go_at_call 73;(with_reducible refine CT.out.mono ?_);rintro e w4 ⟨rfl,hp,hf⟩;have G4:=zh (G3.out.call hp hf);clear hp hf)
 clear G3
 clear CT
 have CT:=zh (Zad w0 w4 bp vL L s [111,112] G4.out.P)
 go_upto_region 9 with (go_at_call 71;(with_reducible refine CT.out.mono ?_);rintro e w5 ⟨rfl,hp,hf⟩;have G5:=zh (G4.out.call hp hf);clear hp hf)
 clear G4
 clear CT
 obtain ⟨q0,q1,q2,q3,q4,q5⟩:=G5.out.cells
 dsimp only at q1 q2 q5
 have qf:=G5.out.free
 go_upto_region 10 with fail
 clear q0 q1 q2 q3 q4 q5 qf
 have G6:=zh (G5.out.setk 3)
 clear G5
 generalize w5.setCell ⟨b,0,none⟩ (.int .i64 3)=w6 at *
 (try go_upto_region 10 with fail)
 refine Zbg 39 0 3 G6.out (by simp) (fun v5 A7 n7 c7 w7 hG=>?_)
 (try dsimp only at hG)
 have G7:=zh hG
 clear hG G6
 (try simp only [cl,Act.put])
 (try go_upto_region 11 with fail)
 refine Zbg 48 0 3 G7.out (by simp) (fun v5 A8 n8 c8 w8 hG=>?_)
 (try dsimp only at hG)
 have G8:=zh hG
 clear hG G7
 (try simp only [cl,Act.put])
 have CT:=zh (Zad w0 w8 bp vL L (Zb L (Zb L (Zf L [111,112] s)).2).2 [45,62] G8.out.P)
 go_upto_region 13 with (go_at_call 71;(with_reducible refine CT.out.mono ?_);rintro e w9 ⟨rfl,hp,hf⟩;have G9:=zh (G8.out.call hp hf);clear hp hf)
 clear G8
 clear CT
 go_wp2_with fail
 have HR:=zh (zi hR (G9.out.P.few.1))
 clear hR h1 h2
 go_loopg [4] (L.length+1) (fun g v4 wr=>∃ (l:List Txt) (t:PS) (x:NV) (more:Bool),v4=.bool more/\(more=true->R=Zcy L g l t/\(t.err=0->L.length-t.at_<g))/\(more=false->R=(l,t))/\l.length+2*g<=2*L.length+4/\Gn w0 w wr bp b w.heap.size vL L t x 3 (Ze L s) l [] [])
 case atStart=>
  exact ⟨_,_,_,true,rfl,fun _=>⟨HR.out.1,fun _=>by omega⟩,fun q=>(nomatch q),by simp only [List.length_cons,List.length_nil];omega,G9.out⟩
 case round=>
  obtain ⟨l,t,x,more,rfl,hmo,hno,hlen,hG⟩:=hrel
  have SH:=hG.shape
  obtain ⟨xA,xn,xc,xB,xm,xd,xC,xq,xe,rfl⟩:=SH
  clear G9
  have G40:=zh hG
  have LB:=zh (show l.length<=200004 by have:=HR.out.2;omega)
  clear hG
  cases more with
  | false=>
   have hr:=hno rfl
   subst hr
   clear hmo hno hlen
   go_upto_region 18 with fail
   have CT:=zh (Zad w0 wr bp vL L t [59] G40.out.P)
   go_upto_region 19 with (go_at_call 71;(with_reducible refine CT.out.mono ?_);rintro e w51 ⟨rfl,hp,hf⟩;have G51:=zh (G40.out.call hp hf);clear hp hf)
   clear CT
   obtain ⟨q0,q1,q2,q3,q4,q5⟩:=G51.out.cells
   dsimp only at q1 q2 q5
   have qf:=G51.out.free
   obtain ⟨z0,z1,z2,z3,z4,z5⟩:=G51.out.zeros HZ.out
   have zf:=G51.out.rfree HZ.out
   have so:=Zy
   go_wp2_with fail
   obtain ⟨r0,r1,r2,r3,r4,r5⟩:=ZaH (G51.out.R HZ.out) (.int .i64 3) (.slice xA xn xc) (.slice xB xm xd) (.slice none 0 0) (.int .i64 (Ze L s)) (.slice xC xq xe)
   obtain ⟨o1,o2,o3⟩:=G51.out.out HZ.out (.int .i64 3) (.slice xA xn xc) (.slice xB xm xd) (.slice none 0 0) (.int .i64 (Ze L s)) (.slice xC xq xe)
   exact bodyPost_ret (v:=.agg #[.int .i64 3,(.slice xA xn xc),(.slice xB xm xd),.slice none 0 0,.int .i64 (Ze L s),(.slice xC xq xe)]) (by simp [results,Tryz.results74,go_sem,so,r0,r1,r2,r3,r4,r5]) rfl ⟨((.slice xA xn xc),(.slice xB xm xd),(.slice xC xq xe)),rfl,o1,o2,o3⟩
  | true=>
   obtain ⟨hr,hf⟩:=hmo rfl
   clear hmo hno
   by_cases he:t.err=0
   ·skip
    obtain ⟨f2,rfl⟩:∃ f2,gk=f2+1:=⟨gk-1,by have:=hf he;omega⟩
    have hr2:R=if isM L [44] (Zb L (Zb L t).2).2 then Zcy L f2 (l++[(Zb L t).1,(Zb L (Zb L t).2).1]) (Zd (Zb L (Zb L t).2).2) else (l++[(Zb L t).1,(Zb L (Zb L t).2).1],(Zb L (Zb L t).2).2):=by rw [hr,Zcy,if_pos he]
    have adv:Gon L t (Zb L t).2:=Zo G40.out.P.few.2.1 G40.out.P.lt
    have adv2:=Zo G40.out.P.few.2.1 (adv.lt G40.out.P.lt)
    have adv3:=adv.then_ adv2.toAdv
    have hk0:(t.err==0)=true:=by simp [he]
    have HK:=zh (zi hr2 (zi adv3 (zi (hf he) hlen)))
    clear hr hf he hr2 adv adv2 adv3 hlen
    obtain ⟨c0,c1,c2,c3,c4⟩:=G40.out.P.cells
    have cf:=G40.out.P.frees
    go_upto_region 15 with fail
    clear c0 c1 c2 c3 c4 cf
    clear hk0
    (try go_upto_region 15 with fail)
    refine Zbg 68 0 3 G40.out (by have:=LB.out;(try simp only [List.length_append,List.length_cons,List.length_nil]);omega) (fun v5 A51 n51 c51 w51 hG=>?_)
    (try dsimp only at hG)
    have G51:=zh hG
    clear hG G40
    (try simp only [cl,Act.put])
    (try go_upto_region 16 with fail)
    refine Zbg 77 0 3 G51.out (by have:=LB.out;(try simp only [List.length_append,List.length_cons,List.length_nil]);omega) (fun v5 A52 n52 c52 w52 hG=>?_)
    (try dsimp only at hG)
    have G52:=zh hG
    clear hG G51
    (try simp only [cl,Act.put])
    by_cases hc:isM L [44] (Zb L (Zb L t).2).2=true
    ·skip
     have CT:=zh (ZY (y:=[44]) G52.out.P hc)
     go_wp2_with (go_at_call 73;(with_reducible refine CT.out.mono ?_);rintro e w53 ⟨rfl,hp,hf⟩;have G53:=zh (G52.out.call hp hf);clear hp hf)
     go_roundg f2
     case measure=>omega
     case rel=>
      refine ⟨_,_,_,true,rfl,fun _=>⟨by rw [HK.out.1,if_pos hc],fun q=>?_⟩,fun q=>(nomatch q),?_,by simpa using G53.out⟩
      ·have g:=ZC G53.out.P.few.2.1 G52.out.P.lt hc
       have:=(HK.out.2.1.then_ g.toAdv).on q
       have:=HK.out.2.2.1
       have:=G53.out.P.lt
       omega
      ·have:=HK.out.2.2.2
       simp only [List.length_append,List.length_cons,List.length_nil]
       omega
    ·skip
     have CT:=zh (ZQ (y:=[44]) G52.out.P (by simpa using hc))
     go_wp2_with (go_at_call 73;(with_reducible refine CT.out.mono ?_);rintro e w53 ⟨rfl,hp,hf⟩;have G53:=zh (G52.out.call hp hf);clear hp hf)
     go_roundg f2
     case measure=>omega
     case rel=>
      refine ⟨_,_,_,false,rfl,fun q=>(nomatch q),fun _=>by rw [HK.out.1,if_neg hc],?_,by simpa using G53.out⟩
      have:=HK.out.2.2.2
      simp only [List.length_append,List.length_cons,List.length_nil]
      omega
   ·skip
    have hr2:R=(l,t):=by
     rw [hr]
     cases gk with
     | zero=>rfl
     | succ f2=>rw [Zcy,if_neg he]
    have hk0:(t.err==0)=false:=by simp [he]
    subst hr2
    clear hr hf he hlen
    obtain ⟨c0,c1,c2,c3,c4⟩:=G40.out.P.cells
    have cf:=G40.out.P.frees
    go_upto_region 18 with fail
    clear c0 c1 c2 c3 c4 cf
    clear hk0
    have CT:=zh (Zad w0 wr bp vL L t [59] G40.out.P)
    go_upto_region 19 with (go_at_call 71;(with_reducible refine CT.out.mono ?_);rintro e w51 ⟨rfl,hp,hf⟩;have G51:=zh (G40.out.call hp hf);clear hp hf)
    clear CT
    obtain ⟨q0,q1,q2,q3,q4,q5⟩:=G51.out.cells
    dsimp only at q1 q2 q5
    have qf:=G51.out.free
    obtain ⟨z0,z1,z2,z3,z4,z5⟩:=G51.out.zeros HZ.out
    have zf:=G51.out.rfree HZ.out
    have so:=Zy
    go_wp2_with fail
    obtain ⟨r0,r1,r2,r3,r4,r5⟩:=ZaH (G51.out.R HZ.out) (.int .i64 3) (.slice xA xn xc) (.slice xB xm xd) (.slice none 0 0) (.int .i64 (Ze L s)) (.slice xC xq xe)
    obtain ⟨o1,o2,o3⟩:=G51.out.out HZ.out (.int .i64 3) (.slice xA xn xc) (.slice xB xm xd) (.slice none 0 0) (.int .i64 (Ze L s)) (.slice xC xq xe)
    exact bodyPost_ret (v:=.agg #[.int .i64 3,(.slice xA xn xc),(.slice xB xm xd),.slice none 0 0,.int .i64 (Ze L s),(.slice xC xq xe)]) (by simp [results,Tryz.results74,go_sem,so,r0,r1,r2,r3,r4,r5]) rfl ⟨((.slice xA xn xc),(.slice xB xm xd),(.slice xC xq xe)),rfl,o1,o2,o3⟩
theorem Zpp (w0 w:World) (bp:Nat) (vL:Value) (L:List Tok) (s:PS) (h:ParS w0 w bp vL L s):Calls Tryz.prog 74 #[.pointer (some ⟨bp,0,none⟩)] w (Zcz w0 bp vL L w (Zbo L s).1 (Zbo L s).2):=by
 cases h1:isM L [115,116,97,116,101] s with
 | true=>exact Zl3 w0 w bp vL L s h h1
 | false=>
  cases h2:isM L [102,105,110,97,108] s with
  | true=>exact Zl2 w0 w bp vL L s h h1 h2
  | false=>exact ZqD w0 w bp vL L s h h1 h2
end
end Go.Proofs.YtkongcicmajolaaGreatDoor
