import Derived.Test.YtkongcicmajolaaGreatDoorQBD
set_option maxRecDepth 100000
set_option maxHeartbeats 8000000
namespace Go.Proofs.YtkongcicmajolaaGreatDoor
section
open Go Go.RowKit
def gD (n:Nat):Edge:=⟨n,.data⟩
def gP (n:Nat):Edge:=⟨n,.phase⟩
def gC (n:Nat):Edge:=⟨n,.chain⟩
def gT (n:Nat):Edge:=⟨n,.textOnly .appendInPlace⟩
def gG (n:Nat):Edge:=⟨n,.gcOnly .appendInPlace⟩
theorem Zae {a:Act} {d:Nat} {v:Value} (h:d<a.tmps.size):(a.put (some d) v).eval (.tmp d)=v:=by simp [Act.put,Act.eval,h]
theorem ZA {a:Act} {d e:Nat} {v:Value} (h:d≠e):(a.put (some d) v).eval (.tmp e)=a.eval (.tmp e):=by simp [Act.put,Act.eval,Array.getD_eq_getD_getElem?,h]
theorem Zav {a:Act} {d:Option Nat} {v:Value}:(a.put d v).tmps.size=a.tmps.size:=by cases d<;>simp [Act.put]
def upB (n:Nat) (l:List Nat):Array Bool:=l.foldl (fun L i=>L.setIfInBounds i true) (Array.replicate n false)
def takeB (ops:Array Oper) (ks l:List Nat) (i:Nat):Bool:=Region.free .any ops (upB ops.size l) i&&(Region.ready .any ops (upB ops.size l)).contains i&&ZiS .any ops (upB ops.size l)&&!(ks.contains i)
theorem Zf2 {P:Program} {F:Nat} {ops:Array Oper} {d:Option Nat} {t:Nat} {at_:Array TypeId} {ty:TypeId} {p:String} {af:Array Edge} {a:Act} {w:World} {K:Act->World->Prop} {Q:Exit->Act->World->Prop} {E:Prop} {u:Value} (hF:∀ (args:Array Value) (w:World),(callFunc F args).run P w=.ok (.enter F args) w) (hu:a.eval (.tmp t)=u)
  (h:Calls P F #[u] w fun
   | .returned v,w''=>K (a.put d v) w''
   | .panicked chain,w''=>Q (.panic chain) a w''
   | .outgrown,_=>LetsOut Q):if Region.wanted ⟨d,.call ⟨.value (.func F),#[.tmp t],at_⟩,ty,p,af,none⟩ (yielded ops a.tmps)=true then Oper.wp P ⟨d,.call ⟨.value (.func F),#[.tmp t],at_⟩,ty,p,af,none⟩ a w K Q else E:=by
 have hw:Region.wanted (⟨d,.call ⟨.value (.func F),#[.tmp t],at_⟩,ty,p,af,none⟩:Oper) (yielded ops a.tmps)=true:=rfl
 rw [if_pos hw]
 unfold Oper.wp
 rw [show execOp a.eval ⟨d,.call ⟨.value (.func F),#[.tmp t],at_⟩,ty,p,af,none⟩=callFunc F (#[]++#[Operand.tmp t].map a.eval++#[]) from rfl,hF]
 simp only [List.map_toArray,List.map_cons,List.map_nil,hu,Array.append_empty,Array.empty_append]
 exact h
theorem Zok {P:Program} {F:Nat} {ops:Array Oper} {d:Option Nat} {t:Nat} {c:Value} {at_:Array TypeId} {ty:TypeId} {p:String} {af:Array Edge} {a:Act} {w:World} {K:Act->World->Prop} {Q:Exit->Act->World->Prop} {E:Prop} {u:Value} (hF:∀ (args:Array Value) (w:World),(callFunc F args).run P w=.ok (.enter F args) w) (hu:a.eval (.tmp t)=u)
  (h:Calls P F #[u,c] w fun
   | .returned v,w''=>K (a.put d v) w''
   | .panicked chain,w''=>Q (.panic chain) a w''
   | .outgrown,_=>LetsOut Q):if Region.wanted ⟨d,.call ⟨.value (.func F),#[.tmp t,.const c],at_⟩,ty,p,af,none⟩ (yielded ops a.tmps)=true then Oper.wp P ⟨d,.call ⟨.value (.func F),#[.tmp t,.const c],at_⟩,ty,p,af,none⟩ a w K Q else E:=by
 have hw:Region.wanted (⟨d,.call ⟨.value (.func F),#[.tmp t,.const c],at_⟩,ty,p,af,none⟩:Oper) (yielded ops a.tmps)=true:=rfl
 rw [if_pos hw]
 unfold Oper.wp
 rw [show execOp a.eval ⟨d,.call ⟨.value (.func F),#[.tmp t,.const c],at_⟩,ty,p,af,none⟩=callFunc F (#[]++#[Operand.tmp t,.const c].map a.eval++#[]) from rfl,hF]
 simp only [List.map_toArray,List.map_cons,List.map_nil,hu,Array.append_empty,Array.empty_append]
 exact h
def Zc8 (ops:Array Oper) (l:List Nat) (i:Nat):Bool:=Region.ready .any ops (upB ops.size l)==[i]
def ZbE (B sp sn:Nat) (p:String):Array Oper:=#[⟨some B,.fieldAddr 58 (.tmp sn) 0,0,p,#[],none⟩,⟨some (B+1),.fieldAddr 37 (.tmp B) 1,0,p,#[gD 0],none⟩,⟨some (B+2),.load 33 (.tmp (B+1)),33,p,#[gD 1],none⟩,⟨some (B+3),.move (.tmp sp),53,p,#[],none⟩,⟨some (B+4),.call ⟨.value (.func 72),#[.tmp (B+3)],#[53]⟩,9,p,#[gD 3],none⟩,⟨some (B+5),.buildSlice 33 1 #[(0,.tmp (B+4))],33,p,#[gD 4],none⟩,⟨some (B+6),.call ⟨.builtin .append,#[.tmp (B+2),.tmp (B+5)],#[33,33]⟩,33,p,#[gD 2,gD 5,gC 4],none⟩,⟨some (B+7),.fieldAddr 58 (.tmp sn) 0,0,p,#[gP 0,gP 1,gP 2,gP 3,gP 4,gP 5,gP 6],none⟩,⟨some (B+8),.fieldAddr 37 (.tmp (B+7)) 1,0,p,#[gD 7,gP 0,gP 1,gP 2,gP 3,gP 4,gP 5,gP 6],none⟩,⟨none,.store 33 (.tmp (B+8)) (.tmp (B+6)),0,p,#[gD 8,gD 6,gC 6,gP 0,gP 1,gP 2,gP 3,gP 4,gP 5,gP 6],none⟩]
def Zq5 (B sp sn:Nat) (p:String):Bool:=
 Region.noSelect (ZbE B sp sn p)&&takeB (ZbE B sp sn p) [9] [] 0&&takeB (ZbE B sp sn p) [9] [0] 1&&takeB (ZbE B sp sn p) [9] [0,1] 2&&([9].all fun k=>Zel .any (ZbE B sp sn p) 8 k 2)&&takeB (ZbE B sp sn p) [9] [0,1,2] 3 &&
 Zc8 (ZbE B sp sn p) [0,1,2,3] 4&&Zc8 (ZbE B sp sn p) [0,1,2,3,4] 5&&Zc8 (ZbE B sp sn p) [0,1,2,3,4,5] 6&&takeB (ZbE B sp sn p) [9] [0,1,2,3,4,5,6] 7&&takeB (ZbE B sp sn p) [9] [0,1,2,3,4,5,6,7] 8&&Zc8 (ZbE B sp sn p) [0,1,2,3,4,5,6,7,8] 9&&(Region.ready .any (ZbE B sp sn p) (upB 10 [0,1,2,3,4,5,6,7,8,9])==[])
theorem Zbg (B sp sn:Nat) {p:String} {id:Nat} {Q:Exit->Act->World->Prop} {a:Act} {w0 w wi:World} {bp b r:Nat} {vL:Value} {L:List Tok} {s:PS} {x:NV} {k pl:Int} {ws:List Txt} {us:List Int} (hG:Gn w0 w wi bp b r vL L s x k pl ws us [])
  (hl:ws.length<=10000000)
  (h:∀ v5 A n c w',Gn w0 w w' bp b r vL L (Zb L s).2 (.slice A n c,x.2.1,x.2.2) k pl (ws++[(Zb L s).1]) us []->Q .normal (((((((((a.put (some B) (.pointer (some ⟨b,0,none⟩))).put (some (B+1)) (.pointer (some ⟨b,1,none⟩))).put (some (B+2)) x.1).put (some (B+3)) (.pointer (some ⟨bp,0,none⟩))).put (some (B+4)) (txt (Zb L s).1)).put (some (B+5)) v5).put (some (B+6)) (.slice A n c)).put (some (B+7)) (.pointer (some ⟨b,0,none⟩))).put (some (B+8)) (.pointer (some ⟨b,1,none⟩))) w')
  (hB:(Nat.blt (B+8) a.tmps.size&&Nat.blt sp B&&Nat.blt sn B)=true:=by kernel_rfl) (h1:a.eval (.tmp sp)=.pointer (some ⟨bp,0,none⟩):=by rfl) (h2:a.eval (.tmp sn)=.pointer (some ⟨b,0,none⟩):=by rfl) (hK:Zq5 B sp sn p=true:=by kernel_rfl) :
  (Code.region id (ZbE B sp sn p) true).wp Tryz.prog Q a wi:=by
 obtain ⟨iS,hS,zS0,zS1,zS2⟩:=info_parts Zbd
 simp only [Bool.and_eq_true,Nat.blt_eq] at hB
 obtain ⟨⟨hB,hs1⟩,hs2⟩:=hB
 unfold Zq5 takeB Zc8 at hK
 simp only [Bool.and_eq_true,Bool.not_eq_true',beq_iff_eq,and_assoc,upB,List.foldl_cons,List.foldl_nil] at hK
 obtain ⟨k0,f0,r0,i0,n0,f1,r1,i1,n1,f2,r2,i2,n2,u2,f3,r3,i3,n3,r4,r5,r6,f7,r7,i7,n7,f8,r8,i8,n8,r9,rE⟩:=hK
 have NM:=zh (Zdq w0 wi.drew bp vL L s hG.drew.P)
 have NL:=zh hG.P.name_len
 have G:=zh hG.drew
 have HP:=zh h
 clear h hG
 refine wp_region_noPanic ?_
 refine Zai [9] (fun V=>V.cell? ⟨b,1,none⟩=some x.1) (by kernel_rfl) (G.out.cells.2.1) (fun hH=>?_)
 have o0:(ZbE B sp sn p)[0]? = some (⟨some B,.fieldAddr 58 (.tmp sn) 0,0,p,#[],none⟩:Oper):=rfl
 have o1:(ZbE B sp sn p)[1]? = some (⟨some (B+1),.fieldAddr 37 (.tmp B) 1,0,p,#[gD 0],none⟩:Oper):=rfl
 have o2:(ZbE B sp sn p)[2]? = some (⟨some (B+2),.load 33 (.tmp (B+1)),33,p,#[gD 1],none⟩:Oper):=rfl
 have o3:(ZbE B sp sn p)[3]? = some (⟨some (B+3),.move (.tmp sp),53,p,#[],none⟩:Oper):=rfl
 have o4:(ZbE B sp sn p)[4]? = some (⟨some (B+4),.call ⟨.value (.func 72),#[.tmp (B+3)],#[53]⟩,9,p,#[gD 3],none⟩:Oper):=rfl
 have o5:(ZbE B sp sn p)[5]? = some (⟨some (B+5),.buildSlice 33 1 #[(0,.tmp (B+4))],33,p,#[gD 4],none⟩:Oper):=rfl
 have o6:(ZbE B sp sn p)[6]? = some (⟨some (B+6),.call ⟨.builtin .append,#[.tmp (B+2),.tmp (B+5)],#[33,33]⟩,33,p,#[gD 2,gD 5,gC 4],none⟩:Oper):=rfl
 have o7:(ZbE B sp sn p)[7]? = some (⟨some (B+7),.fieldAddr 58 (.tmp sn) 0,0,p,#[gP 0,gP 1,gP 2,gP 3,gP 4,gP 5,gP 6],none⟩:Oper):=rfl
 have o8:(ZbE B sp sn p)[8]? = some (⟨some (B+8),.fieldAddr 37 (.tmp (B+7)) 1,0,p,#[gD 7,gP 0,gP 1,gP 2,gP 3,gP 4,gP 5,gP 6],none⟩:Oper):=rfl
 have o9:(ZbE B sp sn p)[9]? = some (⟨none,.store 33 (.tmp (B+8)) (.tmp (B+6)),0,p,#[gD 8,gD 6,gC 6,gP 0,gP 1,gP 2,gP 3,gP 4,gP 5,gP 6],none⟩:Oper):=rfl
 refine lp (v:=(.pointer (some ⟨b,0,none⟩))) 0 o0 ?_ (by intro _;simp only [execOp,h2];go_simp) k0 f0 r0 i0 n0 (fun _ _ _ h=>h) rfl hH
 generalize ha1:a.put (some B) (.pointer (some ⟨b,0,none⟩))=a1
 have z1:a1.tmps.size=a.tmps.size:=by rw [<- ha1,Zav]
 have e1_0:a1.eval (.tmp B)=(.pointer (some ⟨b,0,none⟩)):=by rw [<- ha1];exact Zae (by omega)
 have e1_sp:a1.eval (.tmp sp)=.pointer (some ⟨bp,0,none⟩):=by rw [<- ha1];exact (ZA (by omega)).trans h1
 have e1_sn:a1.eval (.tmp sn)=.pointer (some ⟨b,0,none⟩):=by rw [<- ha1];exact (ZA (by omega)).trans h2
 clear h1
 clear h2
 have HA1:=zh ha1
 clear ha1
 refine lp (v:=(.pointer (some ⟨b,1,none⟩))) 1 o1 ?_ (by intro _;simp only [execOp,e1_0];go_simp) k0 f1 r1 i1 n1 (fun _ _ _ h=>h) rfl hH
 generalize ha2:a1.put (some (B+1)) (.pointer (some ⟨b,1,none⟩))=a2
 have z2:a2.tmps.size=a.tmps.size:=by rw [<- ha2,Zav];exact z1
 have e2_1:a2.eval (.tmp (B+1))=(.pointer (some ⟨b,1,none⟩)):=by rw [<- ha2];exact Zae (by rw [z1];omega)
 have e2_sp:a2.eval (.tmp sp)=.pointer (some ⟨bp,0,none⟩):=by rw [<- ha2];exact (ZA (by omega)).trans e1_sp
 have e2_sn:a2.eval (.tmp sn)=.pointer (some ⟨b,0,none⟩):=by rw [<- ha2];exact (ZA (by omega)).trans e1_sn
 clear e1_0
 clear e1_sp
 clear e1_sn
 have HA2:=zh ha2
 clear ha2
 refine lk (v:=x.1) 2 o2 ?_ (by intro _ hS_;simp only [execOp,e2_1];go_simp) k0 f2 r2 i2 (by rw [n2];exact u2) (fun _ _ _ h=>h) rfl hH
 dsimp only
 generalize ha3:a2.put (some (B+2)) x.1=a3
 have z3:a3.tmps.size=a.tmps.size:=by rw [<- ha3,Zav];exact z2
 have e3_2:a3.eval (.tmp (B+2))=x.1:=by rw [<- ha3];exact Zae (by rw [z2];omega)
 have e3_sp:a3.eval (.tmp sp)=.pointer (some ⟨bp,0,none⟩):=by rw [<- ha3];exact (ZA (by omega)).trans e2_sp
 have e3_sn:a3.eval (.tmp sn)=.pointer (some ⟨b,0,none⟩):=by rw [<- ha3];exact (ZA (by omega)).trans e2_sn
 clear e2_1
 clear e2_sp
 clear e2_sn
 have HA3:=zh ha3
 clear ha3
 refine lp (v:=(.pointer (some ⟨bp,0,none⟩))) 3 o3 ?_ (by intro _;simp only [execOp,e3_sp];go_simp) k0 f3 r3 i3 n3 (fun _ _ _ h=>h) rfl hH
 generalize ha4:a3.put (some (B+3)) (.pointer (some ⟨bp,0,none⟩))=a4
 have z4:a4.tmps.size=a.tmps.size:=by rw [<- ha4,Zav];exact z3
 have e4_2:a4.eval (.tmp (B+2))=x.1:=by rw [<- ha4];exact (ZA (by omega)).trans e3_2
 have e4_3:a4.eval (.tmp (B+3))=(.pointer (some ⟨bp,0,none⟩)):=by rw [<- ha4];exact Zae (by rw [z3];omega)
 have e4_sn:a4.eval (.tmp sn)=.pointer (some ⟨b,0,none⟩):=by rw [<- ha4];exact (ZA (by omega)).trans e3_sn
 clear e3_2
 clear e3_sp
 clear e3_sn
 have HA4:=zh ha4
 clear ha4
 refine ln 4 o4 (fun K hK=>?_) r4
 have y_3:=e4_3
 simp only [Act.eval,Array.getD_eq_getD_getElem?] at y_3
 go_simp
 go_at_call 72
 refine NM.out.mono ?_
 rintro e w1 ⟨rfl,hp,hf⟩
 have G1:=zh (G.out.call hp hf)
 clear hp hf
 go_wp2_with fail
 clear y_3
 refine hK.out (a4.put (some (B+4)) (txt (Zb L s).1)) _ (G1.out.cells.2.1) (fun hH2=>?_)
 clear hK K hH;have hH:=hH2;clear hH2
 (try dsimp only)
 generalize ha5:a4.put (some (B+4)) (txt (Zb L s).1)=a5
 have z5:a5.tmps.size=a.tmps.size:=by rw [<- ha5,Zav];exact z4
 have e5_2:a5.eval (.tmp (B+2))=x.1:=by rw [<- ha5];exact (ZA (by omega)).trans e4_2
 have e5_4:a5.eval (.tmp (B+4))=(txt (Zb L s).1):=by rw [<- ha5];exact Zae (by rw [z4];omega)
 have e5_sn:a5.eval (.tmp sn)=.pointer (some ⟨b,0,none⟩):=by rw [<- ha5];exact (ZA (by omega)).trans e4_sn
 clear e4_2
 clear e4_3
 clear e4_sn
 have HA5:=zh ha5
 clear ha5
 refine ln 5 o5 (fun K hK=>?_) r5
 have y_4:=e5_4
 simp only [Act.eval,Array.getD_eq_getD_getElem?] at y_4
 go_simp
 have G2:=zh (G1.out.below (below_alloc1 w1 (.cells #[txt (Zb L s).1] 9)))
 clear y_4
 refine hK.out (a5.put (some (B+5)) (.slice (some ⟨w1.heap.size,0,none⟩) 1 1)) _ (G2.out.cells.2.1) (fun hH2=>?_)
 clear hK K hH;have hH:=hH2;clear hH2
 (try dsimp only)
 generalize ha6:a5.put (some (B+5)) (.slice (some ⟨w1.heap.size,0,none⟩) 1 1)=a6
 have z6:a6.tmps.size=a.tmps.size:=by rw [<- ha6,Zav];exact z5
 have e6_2:a6.eval (.tmp (B+2))=x.1:=by rw [<- ha6];exact (ZA (by omega)).trans e5_2
 have e6_5:a6.eval (.tmp (B+5))=(.slice (some ⟨w1.heap.size,0,none⟩) 1 1):=by rw [<- ha6];exact Zae (by rw [z5];omega)
 have e6_sn:a6.eval (.tmp sn)=.pointer (some ⟨b,0,none⟩):=by rw [<- ha6];exact (ZA (by omega)).trans e5_sn
 clear e5_2
 clear e5_4
 clear e5_sn
 have HA6:=zh ha6
 clear ha6
 refine ln 6 o6 (fun K hK=>?_) r6
 refine ZaF _ rfl _ _ 33 rfl w.heap.size 9 iS (.string ⟨#[]⟩) 1 16 Tryz.underlying33 hS zS0 zS1 zS2 rfl (by decide) x.1 _ _ e6_2 G2.out.W (w1.heap.size+1) (some ⟨w1.heap.size,0,none⟩) 1 1 [txt (Zb L s).1] e6_5 (Zdp _ _ _) (ZhY _) (by unfold maxLen;omega) (by omega) G2.out.F.size ?_
 intro vq w3 hown hgrow _
 have OS:=Zbc hown
 obtain ⟨A,n,c,rfl⟩:=OS
 have G3:=zh (G2.out.word NL.out hown hgrow)
 clear hown hgrow
 refine hK.out (a6.put (some (B+6)) (.slice A n c)) _ (G3.out.1) (fun hH2=>?_)
 clear hK K hH;have hH:=hH2;clear hH2
 (try dsimp only)
 generalize ha7:a6.put (some (B+6)) (.slice A n c)=a7
 have z7:a7.tmps.size=a.tmps.size:=by rw [<- ha7,Zav];exact z6
 have e7_6:a7.eval (.tmp (B+6))=(.slice A n c):=by rw [<- ha7];exact Zae (by rw [z6];omega)
 have e7_sn:a7.eval (.tmp sn)=.pointer (some ⟨b,0,none⟩):=by rw [<- ha7];exact (ZA (by omega)).trans e6_sn
 clear e6_2
 clear e6_5
 clear e6_sn
 have HA7:=zh ha7
 clear ha7
 refine lp (v:=(.pointer (some ⟨b,0,none⟩))) 7 o7 ?_ (by intro _;simp only [execOp,e7_sn];go_simp) k0 f7 r7 i7 n7 (fun _ _ _ h=>h) rfl hH
 generalize ha8:a7.put (some (B+7)) (.pointer (some ⟨b,0,none⟩))=a8
 have z8:a8.tmps.size=a.tmps.size:=by rw [<- ha8,Zav];exact z7
 have e8_6:a8.eval (.tmp (B+6))=(.slice A n c):=by rw [<- ha8];exact (ZA (by omega)).trans e7_6
 have e8_7:a8.eval (.tmp (B+7))=(.pointer (some ⟨b,0,none⟩)):=by rw [<- ha8];exact Zae (by rw [z7];omega)
 clear e7_6
 clear e7_sn
 have HA8:=zh ha8
 clear ha8
 refine lp (v:=(.pointer (some ⟨b,1,none⟩))) 8 o8 ?_ (by intro _;simp only [execOp,e8_7];go_simp) k0 f8 r8 i8 n8 (fun _ _ _ h=>h) rfl hH
 generalize ha9:a8.put (some (B+8)) (.pointer (some ⟨b,1,none⟩))=a9
 have z9:a9.tmps.size=a.tmps.size:=by rw [<- ha9,Zav];exact z8
 have e9_6:a9.eval (.tmp (B+6))=(.slice A n c):=by rw [<- ha9];exact (ZA (by omega)).trans e8_6
 have e9_8:a9.eval (.tmp (B+8))=(.pointer (some ⟨b,1,none⟩)):=by rw [<- ha9];exact Zae (by rw [z8];omega)
 clear e8_6
 clear e8_7
 have HA9:=zh ha9
 clear ha9
 refine le_ 9 o9 (fun K hK=>?_) r9
 have y_6:=e9_6
 simp only [Act.eval,Array.getD_eq_getD_getElem?] at y_6
 have y_8:=e9_8
 simp only [Act.eval,Array.getD_eq_getD_getElem?] at y_8
 clear hB
 have q1:=G3.out.1
 have q2:=G3.out.2.1
 go_simp
 refine hK.out _ _ ?_
 clear hK K hH q1 q2 y_6 y_8
 refine ZaG rE ?_ _
 refine NoPanic.normal ?_
 have HH:=HP.out (.slice (some ⟨w1.heap.size,0,none⟩) 1 1) A n c _ G3.out.2.2
 rw [HA1.out,HA2.out,HA3.out,HA4.out,HA5.out,HA6.out,HA7.out,HA8.out,HA9.out] at HH
 exact HH
end
section
open Go Go.RowKit
def ZbD (F:Nat) (cs:Int) (ta:TypeId) (B sp sn:Nat) (p:String):Array Oper:=#[⟨some B,.fieldAddr 58 (.tmp sn) 0,0,p,#[],none⟩,⟨some (B+1),.fieldAddr 37 (.tmp B) 2,0,p,#[gD 0],none⟩,⟨some (B+2),.load 34 (.tmp (B+1)),34,p,#[gD 1],none⟩,⟨some (B+3),.move (.tmp sp),53,p,#[],none⟩,⟨some (B+4),.call ⟨.value (.func F),#[.tmp (B+3),.const (.int .i64 cs)],#[53,ta]⟩,2,p,#[gD 3],none⟩,⟨some (B+5),.buildSlice 34 1 #[(0,.tmp (B+4))],34,p,#[gD 4],none⟩,⟨some (B+6),.call ⟨.builtin .append,#[.tmp (B+2),.tmp (B+5)],#[34,34]⟩,34,p,#[gD 2,gD 5,gC 4],none⟩,⟨some (B+7),.fieldAddr 58 (.tmp sn) 0,0,p,#[gP 0,gP 1,gP 2,gP 3,gP 4,gP 5,gP 6],none⟩,⟨some (B+8),.fieldAddr 37 (.tmp (B+7)) 2,0,p,#[gD 7,gP 0,gP 1,gP 2,gP 3,gP 4,gP 5,gP 6],none⟩,⟨none,.store 34 (.tmp (B+8)) (.tmp (B+6)),0,p,#[gD 8,gD 6,gC 6,gP 0,gP 1,gP 2,gP 3,gP 4,gP 5,gP 6],none⟩]
def Zq0 (F:Nat) (cs:Int) (ta:TypeId) (B sp sn:Nat) (p:String):Bool:=
 Region.noSelect (ZbD F cs ta B sp sn p)&&takeB (ZbD F cs ta B sp sn p) [9] [] 0&&takeB (ZbD F cs ta B sp sn p) [9] [0] 1&&takeB (ZbD F cs ta B sp sn p) [9] [0,1] 2&&([9].all fun k=>Zel .any (ZbD F cs ta B sp sn p) 8 k 2)&&takeB (ZbD F cs ta B sp sn p) [9] [0,1,2] 3&&Zc8 (ZbD F cs ta B sp sn p) [0,1,2,3] 4&&Zc8 (ZbD F cs ta B sp sn p) [0,1,2,3,4] 5&&Zc8 (ZbD F cs ta B sp sn p) [0,1,2,3,4,5] 6&&takeB (ZbD F cs ta B sp sn p) [9] [0,1,2,3,4,5,6] 7&&takeB (ZbD F cs ta B sp sn p) [9] [0,1,2,3,4,5,6,7] 8&&Zc8 (ZbD F cs ta B sp sn p) [0,1,2,3,4,5,6,7,8] 9&&(Region.ready .any (ZbD F cs ta B sp sn p) (upB 10 [0,1,2,3,4,5,6,7,8,9])==[])
theorem ZeP {F:Nat} {cs:Int} {ta:TypeId} (B sp sn:Nat) {p:String} {id:Nat} {Q:Exit->Act->World->Prop} {a:Act} {w0 w wi:World} {bp b r:Nat} {vL:Value} {L:List Tok} {s s2:PS} {x:NV} {k pl:Int} {ws:List Txt} {us:List Int} {val:Int} (hG:Gn w0 w wi bp b r vL L s x k pl ws us [])
  (hl:us.length<=10000000) (hF:∀ (args:Array Value) (w:World),(callFunc F args).run Tryz.prog w=.ok (.enter F args) w) (hC:∀ wr,ParS w0 wr bp vL L s->Calls Tryz.prog F #[.pointer (some ⟨bp,0,none⟩),.int .i64 cs] wr (Got w0 bp vL L wr (.int .i64 val) s2))
  (h:∀ v5 A n c w',Gn w0 w w' bp b r vL L s2 (x.1,.slice A n c,x.2.2) k pl ws (us++[val]) []->Q .normal (((((((((a.put (some B) (.pointer (some ⟨b,0,none⟩))).put (some (B+1)) (.pointer (some ⟨b,2,none⟩))).put (some (B+2)) x.2.1).put (some (B+3)) (.pointer (some ⟨bp,0,none⟩))).put (some (B+4)) (.int .i64 val)).put (some (B+5)) v5).put (some (B+6)) (.slice A n c)).put (some (B+7)) (.pointer (some ⟨b,0,none⟩))).put (some (B+8)) (.pointer (some ⟨b,2,none⟩))) w')
  (hB:(Nat.blt (B+8) a.tmps.size&&Nat.blt sp B&&Nat.blt sn B)=true:=by kernel_rfl) (h1:a.eval (.tmp sp)=.pointer (some ⟨bp,0,none⟩):=by rfl) (h2:a.eval (.tmp sn)=.pointer (some ⟨b,0,none⟩):=by rfl) (hK:Zq0 F cs ta B sp sn p=true:=by kernel_rfl) :
  (Code.region id (ZbD F cs ta B sp sn p) true).wp Tryz.prog Q a wi:=by
 obtain ⟨iN,hN,zN0,zN1,zN2⟩:=info_parts Zbl
 simp only [Bool.and_eq_true,Nat.blt_eq] at hB
 obtain ⟨⟨hB,hs1⟩,hs2⟩:=hB
 unfold Zq0 takeB Zc8 at hK
 simp only [Bool.and_eq_true,Bool.not_eq_true',beq_iff_eq,and_assoc,upB,List.foldl_cons,List.foldl_nil] at hK
 obtain ⟨k0,f0,r0,i0,n0,f1,r1,i1,n1,f2,r2,i2,n2,u2,f3,r3,i3,n3,r4,r5,r6,f7,r7,i7,n7,f8,r8,i8,n8,r9,rE⟩:=hK
 have LL:=zh hl
 have NM:=zh (hC wi.drew hG.drew.P)
 have G:=zh hG.drew
 have HP:=zh h
 clear h hG hC hl
 refine wp_region_noPanic ?_
 refine Zai [9] (fun V=>V.cell? ⟨b,2,none⟩=some x.2.1) (by kernel_rfl) (G.out.cells.2.2.1) (fun hH=>?_)
 have o0:(ZbD F cs ta B sp sn p)[0]? = some (⟨some B,.fieldAddr 58 (.tmp sn) 0,0,p,#[],none⟩:Oper):=rfl
 have o1:(ZbD F cs ta B sp sn p)[1]? = some (⟨some (B+1),.fieldAddr 37 (.tmp B) 2,0,p,#[gD 0],none⟩:Oper):=rfl
 have o2:(ZbD F cs ta B sp sn p)[2]? = some (⟨some (B+2),.load 34 (.tmp (B+1)),34,p,#[gD 1],none⟩:Oper):=rfl
 have o3:(ZbD F cs ta B sp sn p)[3]? = some (⟨some (B+3),.move (.tmp sp),53,p,#[],none⟩:Oper):=rfl
 have o4:(ZbD F cs ta B sp sn p)[4]? = some (⟨some (B+4),.call ⟨.value (.func F),#[.tmp (B+3),.const (.int .i64 cs)],#[53,ta]⟩,2,p,#[gD 3],none⟩:Oper):=rfl
 have o5:(ZbD F cs ta B sp sn p)[5]? = some (⟨some (B+5),.buildSlice 34 1 #[(0,.tmp (B+4))],34,p,#[gD 4],none⟩:Oper):=rfl
 have o6:(ZbD F cs ta B sp sn p)[6]? = some (⟨some (B+6),.call ⟨.builtin .append,#[.tmp (B+2),.tmp (B+5)],#[34,34]⟩,34,p,#[gD 2,gD 5,gC 4],none⟩:Oper):=rfl
 have o7:(ZbD F cs ta B sp sn p)[7]? = some (⟨some (B+7),.fieldAddr 58 (.tmp sn) 0,0,p,#[gP 0,gP 1,gP 2,gP 3,gP 4,gP 5,gP 6],none⟩:Oper):=rfl
 have o8:(ZbD F cs ta B sp sn p)[8]? = some (⟨some (B+8),.fieldAddr 37 (.tmp (B+7)) 2,0,p,#[gD 7,gP 0,gP 1,gP 2,gP 3,gP 4,gP 5,gP 6],none⟩:Oper):=rfl
 have o9:(ZbD F cs ta B sp sn p)[9]? = some (⟨none,.store 34 (.tmp (B+8)) (.tmp (B+6)),0,p,#[gD 8,gD 6,gC 6,gP 0,gP 1,gP 2,gP 3,gP 4,gP 5,gP 6],none⟩:Oper):=rfl
 refine lp (v:=(.pointer (some ⟨b,0,none⟩))) 0 o0 ?_ (by intro _;simp only [execOp,h2];go_simp) k0 f0 r0 i0 n0 (fun _ _ _ h=>h) rfl hH
 generalize ha1:a.put (some B) (.pointer (some ⟨b,0,none⟩))=a1
 have z1:a1.tmps.size=a.tmps.size:=by rw [<- ha1,Zav]
 have e1_0:a1.eval (.tmp B)=(.pointer (some ⟨b,0,none⟩)):=by rw [<- ha1];exact Zae (by omega)
 have e1_sn:a1.eval (.tmp sn)=.pointer (some ⟨b,0,none⟩):=by rw [<- ha1];exact (ZA (by omega)).trans h2
 have e1_sp:a1.eval (.tmp sp)=.pointer (some ⟨bp,0,none⟩):=by rw [<- ha1];exact (ZA (by omega)).trans h1
 clear h1
 clear h2
 have HA1:=zh ha1
 clear ha1
 refine lp (v:=(.pointer (some ⟨b,2,none⟩))) 1 o1 ?_ (by intro _;simp only [execOp,e1_0];go_simp) k0 f1 r1 i1 n1 (fun _ _ _ h=>h) rfl hH
 generalize ha2:a1.put (some (B+1)) (.pointer (some ⟨b,2,none⟩))=a2
 have z2:a2.tmps.size=a.tmps.size:=by rw [<- ha2,Zav];exact z1
 have e2_1:a2.eval (.tmp (B+1))=(.pointer (some ⟨b,2,none⟩)):=by rw [<- ha2];exact Zae (by rw [z1];omega)
 have e2_sn:a2.eval (.tmp sn)=.pointer (some ⟨b,0,none⟩):=by rw [<- ha2];exact (ZA (by omega)).trans e1_sn
 have e2_sp:a2.eval (.tmp sp)=.pointer (some ⟨bp,0,none⟩):=by rw [<- ha2];exact (ZA (by omega)).trans e1_sp
 clear e1_0
 clear e1_sn
 clear e1_sp
 have HA2:=zh ha2
 clear ha2
 refine lk (v:=x.2.1) 2 o2 ?_ (by intro _ hS_;simp only [execOp,e2_1];go_simp) k0 f2 r2 i2 (by rw [n2];exact u2) (fun _ _ _ h=>h) rfl hH
 dsimp only
 generalize ha3:a2.put (some (B+2)) x.2.1=a3
 have z3:a3.tmps.size=a.tmps.size:=by rw [<- ha3,Zav];exact z2
 have e3_2:a3.eval (.tmp (B+2))=x.2.1:=by rw [<- ha3];exact Zae (by rw [z2];omega)
 have e3_sn:a3.eval (.tmp sn)=.pointer (some ⟨b,0,none⟩):=by rw [<- ha3];exact (ZA (by omega)).trans e2_sn
 have e3_sp:a3.eval (.tmp sp)=.pointer (some ⟨bp,0,none⟩):=by rw [<- ha3];exact (ZA (by omega)).trans e2_sp
 clear e2_1
 clear e2_sn
 clear e2_sp
 have HA3:=zh ha3
 clear ha3
 refine lp (v:=(.pointer (some ⟨bp,0,none⟩))) 3 o3 ?_ (by intro _;simp only [execOp,e3_sp];go_simp) k0 f3 r3 i3 n3 (fun _ _ _ h=>h) rfl hH
 generalize ha4:a3.put (some (B+3)) (.pointer (some ⟨bp,0,none⟩))=a4
 have z4:a4.tmps.size=a.tmps.size:=by rw [<- ha4,Zav];exact z3
 have e4_2:a4.eval (.tmp (B+2))=x.2.1:=by rw [<- ha4];exact (ZA (by omega)).trans e3_2
 have e4_3:a4.eval (.tmp (B+3))=(.pointer (some ⟨bp,0,none⟩)):=by rw [<- ha4];exact Zae (by rw [z3];omega)
 have e4_sn:a4.eval (.tmp sn)=.pointer (some ⟨b,0,none⟩):=by rw [<- ha4];exact (ZA (by omega)).trans e3_sn
 clear e3_2
 clear e3_sn
 clear e3_sp
 have HA4:=zh ha4
 clear ha4
 refine ln 4 o4 (fun K hK=>?_) r4
 refine Zok hF e4_3 (NM.out.mono ?_)
 rintro e w1 ⟨rfl,hp,hf⟩
 have G1:=zh (G.out.call hp hf)
 clear hp hf
 go_wp2_with fail
 refine hK.out (a4.put (some (B+4)) (.int .i64 val)) _ (G1.out.cells.2.2.1) (fun hH2=>?_)
 clear hK K hH;have hH:=hH2;clear hH2
 (try dsimp only)
 generalize ha5:a4.put (some (B+4)) (.int .i64 val)=a5
 have z5:a5.tmps.size=a.tmps.size:=by rw [<- ha5,Zav];exact z4
 have e5_2:a5.eval (.tmp (B+2))=x.2.1:=by rw [<- ha5];exact (ZA (by omega)).trans e4_2
 have e5_4:a5.eval (.tmp (B+4))=(.int .i64 val):=by rw [<- ha5];exact Zae (by rw [z4];omega)
 have e5_sn:a5.eval (.tmp sn)=.pointer (some ⟨b,0,none⟩):=by rw [<- ha5];exact (ZA (by omega)).trans e4_sn
 clear e4_2
 clear e4_3
 clear e4_sn
 have HA5:=zh ha5
 clear ha5
 refine ln 5 o5 (fun K hK=>?_) r5
 have y_4:=e5_4
 have hB2:=zh hB
 simp only [Act.eval,Array.getD_eq_getD_getElem?] at y_4
 clear hB
 go_simp
 have G2:=zh (G1.out.below (below_alloc1 w1 (.cells #[.int .i64 val] 2)))
 clear y_4
 refine hK.out (a5.put (some (B+5)) (.slice (some ⟨w1.heap.size,0,none⟩) 1 1)) _ (G2.out.cells.2.2.1) (fun hH2=>?_)
 clear hK K hH;have hH:=hH2;clear hH2
 (try dsimp only)
 have hB:=hB2.out
 clear hB2
 generalize ha6:a5.put (some (B+5)) (.slice (some ⟨w1.heap.size,0,none⟩) 1 1)=a6
 have z6:a6.tmps.size=a.tmps.size:=by rw [<- ha6,Zav];exact z5
 have e6_2:a6.eval (.tmp (B+2))=x.2.1:=by rw [<- ha6];exact (ZA (by omega)).trans e5_2
 have e6_5:a6.eval (.tmp (B+5))=(.slice (some ⟨w1.heap.size,0,none⟩) 1 1):=by rw [<- ha6];exact Zae (by rw [z5];omega)
 have e6_sn:a6.eval (.tmp sn)=.pointer (some ⟨b,0,none⟩):=by rw [<- ha6];exact (ZA (by omega)).trans e5_sn
 clear e5_2
 clear e5_4
 clear e5_sn
 have HA6:=zh ha6
 clear ha6
 refine ln 6 o6 (fun K hK=>?_) r6
 refine ZaF _ rfl _ _ 34 rfl w.heap.size 2 iN (.int .i64 0) 1 8 Tryz.underlying34 hN zN0 zN1 zN2 rfl (by decide) x.2.1 _ _ e6_2 G2.out.U (w1.heap.size+1) (some ⟨w1.heap.size,0,none⟩) 1 1 [.int .i64 val] e6_5 (Zdp _ _ _) (Zq1 _) (by have:=LL.out;unfold maxLen;omega) (by have:=LL.out;omega) G2.out.F.size ?_
 intro vq w3 hown hgrow _
 have OS:=Zbc hown
 obtain ⟨A,n,c,rfl⟩:=OS
 have G3:=zh (G2.out.nums (ys:=[val]) hown hgrow)
 clear hown hgrow
 refine hK.out (a6.put (some (B+6)) (.slice A n c)) _ (G3.out.1) (fun hH2=>?_)
 clear hK K hH;have hH:=hH2;clear hH2
 (try dsimp only)
 generalize ha7:a6.put (some (B+6)) (.slice A n c)=a7
 have z7:a7.tmps.size=a.tmps.size:=by rw [<- ha7,Zav];exact z6
 have e7_6:a7.eval (.tmp (B+6))=(.slice A n c):=by rw [<- ha7];exact Zae (by rw [z6];omega)
 have e7_sn:a7.eval (.tmp sn)=.pointer (some ⟨b,0,none⟩):=by rw [<- ha7];exact (ZA (by omega)).trans e6_sn
 clear e6_2
 clear e6_5
 clear e6_sn
 have HA7:=zh ha7
 clear ha7
 refine lp (v:=(.pointer (some ⟨b,0,none⟩))) 7 o7 ?_ (by intro _;simp only [execOp,e7_sn];go_simp) k0 f7 r7 i7 n7 (fun _ _ _ h=>h) rfl hH
 generalize ha8:a7.put (some (B+7)) (.pointer (some ⟨b,0,none⟩))=a8
 have z8:a8.tmps.size=a.tmps.size:=by rw [<- ha8,Zav];exact z7
 have e8_6:a8.eval (.tmp (B+6))=(.slice A n c):=by rw [<- ha8];exact (ZA (by omega)).trans e7_6
 have e8_7:a8.eval (.tmp (B+7))=(.pointer (some ⟨b,0,none⟩)):=by rw [<- ha8];exact Zae (by rw [z7];omega)
 clear e7_6
 clear e7_sn
 have HA8:=zh ha8
 clear ha8
 refine lp (v:=(.pointer (some ⟨b,2,none⟩))) 8 o8 ?_ (by intro _;simp only [execOp,e8_7];go_simp) k0 f8 r8 i8 n8 (fun _ _ _ h=>h) rfl hH
 generalize ha9:a8.put (some (B+8)) (.pointer (some ⟨b,2,none⟩))=a9
 have z9:a9.tmps.size=a.tmps.size:=by rw [<- ha9,Zav];exact z8
 have e9_6:a9.eval (.tmp (B+6))=(.slice A n c):=by rw [<- ha9];exact (ZA (by omega)).trans e8_6
 have e9_8:a9.eval (.tmp (B+8))=(.pointer (some ⟨b,2,none⟩)):=by rw [<- ha9];exact Zae (by rw [z8];omega)
 clear e8_6
 clear e8_7
 have HA9:=zh ha9
 clear ha9
 refine le_ 9 o9 (fun K hK=>?_) r9
 have y_6:=e9_6
 simp only [Act.eval,Array.getD_eq_getD_getElem?] at y_6
 have y_8:=e9_8
 simp only [Act.eval,Array.getD_eq_getD_getElem?] at y_8
 clear hB
 have q1:=G3.out.1
 have q2:=G3.out.2.1
 go_simp
 refine hK.out _ _ ?_
 clear hK K hH q1 q2 y_6 y_8
 refine ZaG rE ?_ _
 refine NoPanic.normal ?_
 have HH:=HP.out (.slice (some ⟨w1.heap.size,0,none⟩) 1 1) A n c _ G3.out.2.2
 rw [HA1.out,HA2.out,HA3.out,HA4.out,HA5.out,HA6.out,HA7.out,HA8.out,HA9.out] at HH
 exact HH
def Zb1 (F:Nat) (B sp sn:Nat) (p:String):Array Oper:=#[⟨some B,.fieldAddr 58 (.tmp sn) 1,0,p,#[],none⟩,⟨some (B+1),.load 56 (.tmp B),56,p,#[gD 0],none⟩,⟨some (B+2),.move (.tmp sp),53,p,#[],none⟩,⟨some (B+3),.call ⟨.value (.func F),#[.tmp (B+2)],#[53]⟩,58,p,#[gD 2],none⟩,⟨some (B+4),.buildSlice 56 1 #[(0,.tmp (B+3))],56,p,#[gD 3],none⟩,⟨some (B+5),.call ⟨.builtin .append,#[.tmp (B+1),.tmp (B+4)],#[56,56]⟩,56,p,#[gD 1,gD 4,gC 3],none⟩,⟨some (B+6),.fieldAddr 58 (.tmp sn) 1,0,p,#[gP 0,gP 1,gP 2,gP 3,gP 4,gP 5],none⟩,⟨none,.store 56 (.tmp (B+6)) (.tmp (B+5)),0,p,#[gD 6,gD 5,gC 5,gP 0,gP 1,gP 2,gP 3,gP 4,gP 5],none⟩]
def ZqY (F:Nat) (B sp sn:Nat) (p:String):Bool:=
 Region.noSelect (Zb1 F B sp sn p)&&takeB (Zb1 F B sp sn p) [7] [] 0&&takeB (Zb1 F B sp sn p) [7] [0] 1&&([7].all fun k=>Zel .any (Zb1 F B sp sn p) 8 k 1)&&takeB (Zb1 F B sp sn p) [7] [0,1] 2&&Zc8 (Zb1 F B sp sn p) [0,1,2] 3&&Zc8 (Zb1 F B sp sn p) [0,1,2,3] 4&&Zc8 (Zb1 F B sp sn p) [0,1,2,3,4] 5&&takeB (Zb1 F B sp sn p) [7] [0,1,2,3,4,5] 6&&Zc8 (Zb1 F B sp sn p) [0,1,2,3,4,5,6] 7&&(Region.ready .any (Zb1 F B sp sn p) (upB 8 [0,1,2,3,4,5,6,7])==[])
theorem ZdV {F:Nat} (B sp sn:Nat) {p:String} {id:Nat} {Q:Exit->Act->World->Prop} {a:Act} {w0 w wi:World} {bp b r:Nat} {vL:Value} {L:List Tok} {s s2:PS} {x:NV} {k pl:Int} {ws:List Txt} {us:List Int} {vs:List (NV×Tr)} {tree:Tr} (hG:Gn w0 w wi bp b r vL L s x k pl ws us vs)
  (hl:vs.length<=10000000) (hF:∀ (args:Array Value) (w:World),(callFunc F args).run Tryz.prog w=.ok (.enter F args) w) (hC:∀ wr,ParS w0 wr bp vL L s->Calls Tryz.prog F #[.pointer (some ⟨bp,0,none⟩)] wr (Zcz w0 bp vL L wr tree s2))
  (h:∀ v5 A n c y w',Gn w0 w w' bp b r vL L s2 (x.1,x.2.1,.slice A n c) k pl ws us (vs++[(y,tree)])->Q .normal (((((((a.put (some B) (.pointer (some ⟨b,5,none⟩))).put (some (B+1)) x.2.2).put (some (B+2)) (.pointer (some ⟨bp,0,none⟩))).put (some (B+3)) (ZbQ (y,tree))).put (some (B+4)) v5).put (some (B+5)) (.slice A n c)).put (some (B+6)) (.pointer (some ⟨b,5,none⟩))) w')
  (hB:(Nat.blt (B+6) a.tmps.size&&Nat.blt sp B&&Nat.blt sn B)=true:=by kernel_rfl) (h1:a.eval (.tmp sp)=.pointer (some ⟨bp,0,none⟩):=by rfl) (h2:a.eval (.tmp sn)=.pointer (some ⟨b,0,none⟩):=by rfl) (hK:ZqY F B sp sn p=true:=by kernel_rfl) :
  (Code.region id (Zb1 F B sp sn p) true).wp Tryz.prog Q a wi:=by
 obtain ⟨iN,hN,zN0,zN1,zN2⟩:=info_parts Za8
 simp only [Bool.and_eq_true,Nat.blt_eq] at hB
 obtain ⟨⟨hB,hs1⟩,hs2⟩:=hB
 unfold ZqY takeB Zc8 at hK
 simp only [Bool.and_eq_true,Bool.not_eq_true',beq_iff_eq,and_assoc,upB,List.foldl_cons,List.foldl_nil] at hK
 obtain ⟨k0,f0,r0,i0,n0,f1,r1,i1,n1,u1,f2,r2,i2,n2,r3,r4,r5,f6,r6,i6,n6,r7,rE⟩:=hK
 have LL:=zh hl
 have NM:=zh (hC wi.drew hG.drew.P)
 have G:=zh hG.drew
 have HP:=zh h
 clear h hG hC hl
 refine wp_region_noPanic ?_
 refine Zai [7] (fun V=>V.cell? ⟨b,5,none⟩=some x.2.2) (by kernel_rfl) (G.out.cells.2.2.2.2.2) (fun hH=>?_)
 have o0:(Zb1 F B sp sn p)[0]? = some (⟨some B,.fieldAddr 58 (.tmp sn) 1,0,p,#[],none⟩:Oper):=rfl
 have o1:(Zb1 F B sp sn p)[1]? = some (⟨some (B+1),.load 56 (.tmp B),56,p,#[gD 0],none⟩:Oper):=rfl
 have o2:(Zb1 F B sp sn p)[2]? = some (⟨some (B+2),.move (.tmp sp),53,p,#[],none⟩:Oper):=rfl
 have o3:(Zb1 F B sp sn p)[3]? = some (⟨some (B+3),.call ⟨.value (.func F),#[.tmp (B+2)],#[53]⟩,58,p,#[gD 2],none⟩:Oper):=rfl
 have o4:(Zb1 F B sp sn p)[4]? = some (⟨some (B+4),.buildSlice 56 1 #[(0,.tmp (B+3))],56,p,#[gD 3],none⟩:Oper):=rfl
 have o5:(Zb1 F B sp sn p)[5]? = some (⟨some (B+5),.call ⟨.builtin .append,#[.tmp (B+1),.tmp (B+4)],#[56,56]⟩,56,p,#[gD 1,gD 4,gC 3],none⟩:Oper):=rfl
 have o6:(Zb1 F B sp sn p)[6]? = some (⟨some (B+6),.fieldAddr 58 (.tmp sn) 1,0,p,#[gP 0,gP 1,gP 2,gP 3,gP 4,gP 5],none⟩:Oper):=rfl
 have o7:(Zb1 F B sp sn p)[7]? = some (⟨none,.store 56 (.tmp (B+6)) (.tmp (B+5)),0,p,#[gD 6,gD 5,gC 5,gP 0,gP 1,gP 2,gP 3,gP 4,gP 5],none⟩:Oper):=rfl
 refine lp (v:=(.pointer (some ⟨b,5,none⟩))) 0 o0 ?_ (by intro _;simp only [execOp,h2];go_simp) k0 f0 r0 i0 n0 (fun _ _ _ h=>h) rfl hH
 generalize ha1:a.put (some B) (.pointer (some ⟨b,5,none⟩))=a1
 have z1:a1.tmps.size=a.tmps.size:=by rw [<- ha1,Zav]
 have e1_0:a1.eval (.tmp B)=(.pointer (some ⟨b,5,none⟩)):=by rw [<- ha1];exact Zae (by omega)
 have e1_sn:a1.eval (.tmp sn)=.pointer (some ⟨b,0,none⟩):=by rw [<- ha1];exact (ZA (by omega)).trans h2
 have e1_sp:a1.eval (.tmp sp)=.pointer (some ⟨bp,0,none⟩):=by rw [<- ha1];exact (ZA (by omega)).trans h1
 clear h1
 clear h2
 have HA1:=zh ha1
 clear ha1
 refine lk (v:=x.2.2) 1 o1 ?_ (by intro _ hS_;simp only [execOp,e1_0];go_simp) k0 f1 r1 i1 (by rw [n1];exact u1) (fun _ _ _ h=>h) rfl hH
 dsimp only
 generalize ha2:a1.put (some (B+1)) x.2.2=a2
 have z2:a2.tmps.size=a.tmps.size:=by rw [<- ha2,Zav];exact z1
 have e2_1:a2.eval (.tmp (B+1))=x.2.2:=by rw [<- ha2];exact Zae (by rw [z1];omega)
 have e2_sn:a2.eval (.tmp sn)=.pointer (some ⟨b,0,none⟩):=by rw [<- ha2];exact (ZA (by omega)).trans e1_sn
 have e2_sp:a2.eval (.tmp sp)=.pointer (some ⟨bp,0,none⟩):=by rw [<- ha2];exact (ZA (by omega)).trans e1_sp
 clear e1_0
 clear e1_sn
 clear e1_sp
 have HA2:=zh ha2
 clear ha2
 refine lp (v:=(.pointer (some ⟨bp,0,none⟩))) 2 o2 ?_ (by intro _;simp only [execOp,e2_sp];go_simp) k0 f2 r2 i2 n2 (fun _ _ _ h=>h) rfl hH
 generalize ha3:a2.put (some (B+2)) (.pointer (some ⟨bp,0,none⟩))=a3
 have z3:a3.tmps.size=a.tmps.size:=by rw [<- ha3,Zav];exact z2
 have e3_1:a3.eval (.tmp (B+1))=x.2.2:=by rw [<- ha3];exact (ZA (by omega)).trans e2_1
 have e3_2:a3.eval (.tmp (B+2))=(.pointer (some ⟨bp,0,none⟩)):=by rw [<- ha3];exact Zae (by rw [z2];omega)
 have e3_sn:a3.eval (.tmp sn)=.pointer (some ⟨b,0,none⟩):=by rw [<- ha3];exact (ZA (by omega)).trans e2_sn
 clear e2_1
 clear e2_sn
 clear e2_sp
 have HA3:=zh ha3
 clear ha3
 refine ln 3 o3 (fun K hK=>?_) r3
 refine Zf2 hF e3_2 (NM.out.mono ?_)
 rintro e w1 ⟨xq,rfl,hp,ht,hf⟩
 have TS:=ht.shape2
 obtain ⟨X,x1,x2,Y,y1,y2,Z,z1,z2,rfl⟩:=TS
 have G1:=zh (zi (G.out.call hp hf) ht)
 clear hp ht hf
 dsimp only [ZbQ]
 go_wp2_with fail
 refine hK.out (a3.put (some (B+3)) (.agg #[.int .i64 (Tr.kd tree),.slice X x1 x2,.slice Y y1 y2,.slice none 0 0,.int .i64 (Tr.ps tree),.slice Z z1 z2])) _ (G1.out.1.cells.2.2.2.2.2) (fun hH2=>?_)
 clear hK K hH;have hH:=hH2;clear hH2
 (try dsimp only)
 generalize ha4:a3.put (some (B+3)) (.agg #[.int .i64 (Tr.kd tree),.slice X x1 x2,.slice Y y1 y2,.slice none 0 0,.int .i64 (Tr.ps tree),.slice Z z1 z2])=a4
 have z4:a4.tmps.size=a.tmps.size:=by rw [<- ha4,Zav];exact z3
 have e4_1:a4.eval (.tmp (B+1))=x.2.2:=by rw [<- ha4];exact (ZA (by omega)).trans e3_1
 have e4_3:a4.eval (.tmp (B+3))=(.agg #[.int .i64 (Tr.kd tree),.slice X x1 x2,.slice Y y1 y2,.slice none 0 0,.int .i64 (Tr.ps tree),.slice Z z1 z2]):=by rw [<- ha4];exact Zae (by rw [z3];omega)
 have e4_sn:a4.eval (.tmp sn)=.pointer (some ⟨b,0,none⟩):=by rw [<- ha4];exact (ZA (by omega)).trans e3_sn
 clear e3_1
 clear e3_2
 clear e3_sn
 have HA4:=zh ha4
 clear ha4
 refine ln 4 o4 (fun K hK=>?_) r4
 have y_3:=e4_3
 have hB2:=zh hB
 simp only [Act.eval,Array.getD_eq_getD_getElem?] at y_3
 clear hB
 go_simp
 have G2:=zh (zi (G1.out.1.below (below_alloc1 w1 (.cells #[.int .i64 (Tr.kd tree),.slice X x1 x2,.slice Y y1 y2,.slice none 0 0,.int .i64 (Tr.ps tree),.slice Z z1 z2] 58))) (G1.out.2.keep (below_alloc1 w1 (.cells #[.int .i64 (Tr.kd tree),.slice X x1 x2,.slice Y y1 y2,.slice none 0 0,.int .i64 (Tr.ps tree),.slice Z z1 z2] 58))))
 clear y_3
 refine hK.out (a4.put (some (B+4)) (.slice (some ⟨w1.heap.size,0,none⟩) 1 1)) _ (G2.out.1.cells.2.2.2.2.2) (fun hH2=>?_)
 clear hK K hH;have hH:=hH2;clear hH2
 (try dsimp only)
 have hB:=hB2.out
 clear hB2
 generalize ha5:a4.put (some (B+4)) (.slice (some ⟨w1.heap.size,0,none⟩) 1 1)=a5
 have z5:a5.tmps.size=a.tmps.size:=by rw [<- ha5,Zav];exact z4
 have e5_1:a5.eval (.tmp (B+1))=x.2.2:=by rw [<- ha5];exact (ZA (by omega)).trans e4_1
 have e5_4:a5.eval (.tmp (B+4))=(.slice (some ⟨w1.heap.size,0,none⟩) 1 1):=by rw [<- ha5];exact Zae (by rw [z4];omega)
 have e5_sn:a5.eval (.tmp sn)=.pointer (some ⟨b,0,none⟩):=by rw [<- ha5];exact (ZA (by omega)).trans e4_sn
 clear e4_1
 clear e4_3
 clear e4_sn
 have HA5:=zh ha5
 clear ha5
 refine ln 5 o5 (fun K hK=>?_) r5
 refine ZaF _ rfl _ _ 56 rfl w.heap.size 58 iN (.agg Zbj) 6 112 Tryz.underlying56 hN zN0 zN1 zN2 rfl (by decide) x.2.2 _ _ e5_1 G2.out.1.V (w1.heap.size+1) (some ⟨w1.heap.size,0,none⟩) 1 1 (ZaY [((.slice X x1 x2,.slice Y y1 y2,.slice Z z1 z2),tree)]) e5_4 (Zd5 _ _ _ _ _ _ _ _) (Zea _ _ _ _ _ _ _ _ _ _ _ _ _ _) (by have:=LL.out;unfold maxLen;omega) (by have:=LL.out;omega) G2.out.1.F.size ?_
 intro vq w3 hown hgrow hor
 have OS:=Zbc hown
 obtain ⟨A,n,c,rfl⟩:=OS
 have G3:=zh (G2.out.1.kid (y:=((.slice X x1 x2,.slice Y y1 y2,.slice Z z1 z2),tree)) G2.out.2 (fun c hc=>G.out.apart hc) hown hgrow hor)
 clear hown hgrow hor
 refine hK.out (a5.put (some (B+5)) (.slice A n c)) _ (G3.out.1) (fun hH2=>?_)
 clear hK K hH;have hH:=hH2;clear hH2
 (try dsimp only)
 generalize ha6:a5.put (some (B+5)) (.slice A n c)=a6
 have z6:a6.tmps.size=a.tmps.size:=by rw [<- ha6,Zav];exact z5
 have e6_5:a6.eval (.tmp (B+5))=(.slice A n c):=by rw [<- ha6];exact Zae (by rw [z5];omega)
 have e6_sn:a6.eval (.tmp sn)=.pointer (some ⟨b,0,none⟩):=by rw [<- ha6];exact (ZA (by omega)).trans e5_sn
 clear e5_1
 clear e5_4
 clear e5_sn
 have HA6:=zh ha6
 clear ha6
 refine lp (v:=(.pointer (some ⟨b,5,none⟩))) 6 o6 ?_ (by intro _;simp only [execOp,e6_sn];go_simp) k0 f6 r6 i6 n6 (fun _ _ _ h=>h) rfl hH
 generalize ha7:a6.put (some (B+6)) (.pointer (some ⟨b,5,none⟩))=a7
 have z7:a7.tmps.size=a.tmps.size:=by rw [<- ha7,Zav];exact z6
 have e7_5:a7.eval (.tmp (B+5))=(.slice A n c):=by rw [<- ha7];exact (ZA (by omega)).trans e6_5
 have e7_6:a7.eval (.tmp (B+6))=(.pointer (some ⟨b,5,none⟩)):=by rw [<- ha7];exact Zae (by rw [z6];omega)
 clear e6_5
 clear e6_sn
 have HA7:=zh ha7
 clear ha7
 refine le_ 7 o7 (fun K hK=>?_) r7
 have y_5:=e7_5
 simp only [Act.eval,Array.getD_eq_getD_getElem?] at y_5
 have y_6:=e7_6
 simp only [Act.eval,Array.getD_eq_getD_getElem?] at y_6
 clear hB
 have q1:=G3.out.1
 have q2:=G3.out.2.1
 go_simp
 refine hK.out _ _ ?_
 clear hK K hH q1 q2 y_5 y_6
 refine ZaG rE ?_ _
 refine NoPanic.normal ?_
 have HH:=HP.out (.slice (some ⟨w1.heap.size,0,none⟩) 1 1) A n c (.slice X x1 x2,.slice Y y1 y2,.slice Z z1 z2) _ G3.out.2.2
 dsimp only [ZbQ] at HH
 rw [HA1.out,HA2.out,HA3.out,HA4.out,HA5.out,HA6.out,HA7.out] at HH
 exact HH
end
end Go.Proofs.YtkongcicmajolaaGreatDoor
