import Derived.Test.YtfbepcelkijgkaaGreatDoorQBA
set_option maxRecDepth 100000
set_option maxHeartbeats 8000000
open Option renaming some → Ya, none → Yb
open Go.Value renaming int → Yd
open Go.IntKind renaming i64 → Yf
open Go.Obj renaming cells → Yg
open Go renaming World → Yh, Value → Yi
namespace Go.Proofs.YtfbepcelkijgkaaGreatDoor
section
open Go.RowKit
def OkB (P:Prop) (e:Ending):Prop:=∃b:Bool,e=.returned (.bool b)/\(b=true->P)
theorem Zh {P:Prop}:OkB P (.returned (.bool false)):=⟨false,rfl,fun h=>Bool.noConfusion h⟩
theorem Zbc {P:Prop} {b:Bool} (h:P):OkB P (.returned (.bool b)):=⟨b,rfl,fun _=>h⟩
theorem ZbC {ns:List Nd} {n:Nd} (a:Zdz n.words=true) (b:Zb6 n.nums=true) (c:Zr ns n=true):ZD ns n=true:=by unfold ZD;rw[a,b,c];rfl
theorem Zbk {e g:Int} {d:List (List UInt8)} {c f:List Int} {a b:Int} (h:Zy ⟨e,d,c,f,g⟩ a b=true):Zdz d=true/\a<=(d.length:Int)/\(d.length:Int)<=b:=by unfold Zy at h;rw[Bool.and_eq_true,Bool.and_eq_true,decide_eq_true_eq,decide_eq_true_eq]at h;exact⟨h.1.1,h.1.2,h.2⟩
theorem Zbo {b d:Int} {e:List (List UInt8)} {a c:List Int} (h:Zai ⟨b,e,a,c,d⟩=true):a=[]:=List.length_eq_zero_iff.mp (of_decide_eq_true h)
theorem Zbv {n:Nd} {a b:Nat} (c:n.words.length=a) (d:n.nums.length=b):Zq n a b=true:=by unfold Zq;rw[decide_eq_true c,decide_eq_true d];rfl
theorem ZdE {ns:List Nd} {e g:Int} {i:List (List UInt8)} {c d:List Int} {f:Nat} {a b:Int} (h:Zbu ns ⟨e,i,c,d,g⟩ f a b=true):Zam ns (d.drop f) (isB [7])=true/\a<=(d.length:Int)-f/\(d.length:Int)-f<=b:=by unfold Zbu at h;rw[Bool.and_eq_true,Bool.and_eq_true,decide_eq_true_eq,decide_eq_true_eq]at h;exact⟨h.1.1,h.1.2,h.2⟩
section
variable {ns:List Nd} {ws:List (List UInt8)} {nums ks:List Int} {ps:Int}
theorem ZeQ {k:Int} {f:Int->Bool} (h:f (Zp ns k)=true):Zj ns [k] [f]=true:=by simp[Zj,h]
theorem Zgg {k l:Int} {f g:Int->Bool} (h:f (Zp ns k)=true) (a:g (Zp ns l)=true):Zj ns [k,l] [f,g]=true:=by simp[Zj,h,a]
theorem Zn7 {k l m:Int} {f g e:Int->Bool} (h:f (Zp ns k)=true) (a:g (Zp ns l)=true) (b:e (Zp ns m)=true):Zj ns [k,l,m] [f,g,e]=true:=by simp[Zj,h,a,b]
theorem all_cons {k:Int} {r:List Int} {f:Int->Bool} (h:Zam ns (k::r) f=true):f (Zp ns k)=true/\Zam ns r f=true:=by unfold Zam at h⊢;rwa[List.all_cons,Bool.and_eq_true]at h
theorem Zgi {l:List Int} (h:l.length=2):∃a b,l=[a,b]:=by
 match l,h with
 |[a,b],_=>exact⟨a,b,rfl⟩
theorem Zhf {l:List Int} (h:l.length=3):∃a b c,l=[a,b,c]:=by
 match l,h with
 |[a,b,c],_=>exact⟨a,b,c,rfl⟩
theorem Zl4 (h:Zam ns ks (isB [1,4])=true) (e:Zy ⟨0,ws,nums,ks,ps⟩ 0 0=true) (d:Zai ⟨0,ws,nums,ks,ps⟩=true):ZD ns ⟨0,ws,nums,ks,ps⟩=true:=by obtain⟨a,b,c⟩:=Zbk e;obtain rfl:nums=[]:=Zbo d;refine ZbC a rfl ?_;show(Zq _ 0 0&&Zam ns ks (isB [1,4]))=true;rw[h,Zbv (a:=0) (b:=0) (by show ws.length=0;omega) rfl];rfl
theorem ZpE (h:Zam ns ks (isB [2,3])=true) (e:Zy ⟨1,ws,nums,ks,ps⟩ 1 1=true) (d:Zai ⟨1,ws,nums,ks,ps⟩=true):ZD ns ⟨1,ws,nums,ks,ps⟩=true:=by obtain⟨a,b,c⟩:=Zbk e;obtain rfl:nums=[]:=Zbo d;refine ZbC a rfl ?_;show(Zq _ 1 0&&Zam ns ks (isB [2,3]))=true;rw[h,Zbv (a:=1) (b:=0) (by show ws.length=1;omega) rfl];rfl
theorem ZhI {y:Int} (a:0<=y) (b:y<1000000000000000000):Zb6 [y]=true:=by simp[Zb6,a,b]
theorem ZjY {y:Int} (d:Zy ⟨2,ws,nums,ks,ps⟩ 1 1=true) (e:nums=[y]) (h:y=0\/y=1) (hk:ks.length=0):ZD ns ⟨2,ws,nums,ks,ps⟩=true:=by obtain⟨a,b,c⟩:=Zbk d;obtain rfl:=List.length_eq_zero_iff.mp hk;subst e;refine ZbC a (ZhI (by omega) (by omega)) ?_;show(Zq _ 1 1&&decide (y<=1)&&Zj ns [] [])=true;rw[Zbv (a:=1) (b:=1) (by show ws.length=1;omega) rfl,decide_eq_true (by omega)];rfl
theorem Zsf (f:Zy ⟨3,ws,nums,ks,ps⟩ 4 1500=true) (d:ws.length % 2=0) (e:Zai ⟨3,ws,nums,ks,ps⟩=true) (hk:ks.length=0):ZD ns ⟨3,ws,nums,ks,ps⟩=true:=by obtain⟨a,b,c⟩:=Zbk f;obtain rfl:=List.length_eq_zero_iff.mp hk;obtain rfl:nums=[]:=Zbo e;refine ZbC a rfl ?_;show(decide (4<=ws.length)&&decide (ws.length % 2=0)&&Zq _ ws.length 0&&Zj ns [] [])=true;rw[Zbv (a:=ws.length) (b:=0) rfl rfl,decide_eq_true d,decide_eq_true (by omega)];rfl
theorem Zsd {k:Int} {r:List Int} (d:ks=r++[k]) (h:Zam ns r (isB [5])=true) (i:Zy ⟨4,ws,nums,ks,ps⟩ 1 1=true) (g:Zai ⟨4,ws,nums,ks,ps⟩=true) (f:Zp ns k=7):ZD ns ⟨4,ws,nums,ks,ps⟩=true:=by
 obtain⟨a,b,c⟩:=Zbk i;obtain rfl:nums=[]:=Zbo g;refine ZbC a rfl ?_;show(Zq _ 1 0&&Zam ns (ks.take (ks.length-1)) (isB [5])&&Zj ns (ks.drop (ks.length-1)) [isB [7]])=true;have e:ks.length-1=r.length:=by rw[d];simp
 rw[e,d,List.take_left',List.drop_left',h,ZeQ (by rw[f];rfl),Zbv (a:=1) (b:=0) (by show ws.length=1;omega) rfl]<;>rfl
theorem ZpD {y:Int} (f:Zy ⟨6,ws,nums,ks,ps⟩ 1 1500=true) (g:nums=[y]) (d:0<=y) (e:y<=2) (hk:ks.length=0):ZD ns ⟨6,ws,nums,ks,ps⟩=true:=by obtain⟨a,b,c⟩:=Zbk f;obtain rfl:=List.length_eq_zero_iff.mp hk;subst g;refine ZbC a (ZhI d (by omega)) ?_;show(decide (1<=ws.length)&&Zq _ ws.length 1&&decide (y<=2)&&Zj ns [] [])=true;rw[Zbv (a:=ws.length) (b:=1) rfl rfl,decide_eq_true e,decide_eq_true (by omega)];rfl
theorem ZpC (h:Zam ns ks ZcE=true) (d:Zai ⟨7,ws,nums,ks,ps⟩=true) (e:Zy ⟨7,ws,nums,ks,ps⟩ 0 0=true):ZD ns ⟨7,ws,nums,ks,ps⟩=true:=by obtain⟨a,b,c⟩:=Zbk e;obtain rfl:nums=[]:=Zbo d;refine ZbC a rfl ?_;show(Zq _ 0 0&&Zam ns ks ZcE)=true;rw[h,Zbv (a:=0) (b:=0) (by show ws.length=0;omega) rfl];rfl
theorem Zsc (h:Zam ns ks (isB [12])=true) (d:Zai ⟨11,ws,nums,ks,ps⟩=true) (e:Zy ⟨11,ws,nums,ks,ps⟩ 2 2=true):ZD ns ⟨11,ws,nums,ks,ps⟩=true:=by obtain⟨a,b,c⟩:=Zbk e;obtain rfl:nums=[]:=Zbo d;refine ZbC a rfl ?_;show(Zq _ 2 0&&Zam ns ks (isB [12]))=true;rw[h,Zbv (a:=2) (b:=0) (by show ws.length=2;omega) rfl];rfl
theorem ZrJ (f:Zy ⟨8,ws,nums,ks,ps⟩ 1 1=true) (e:Zai ⟨8,ws,nums,ks,ps⟩=true) (hk:ks.length=1) (d:ZF (kdR ns ⟨8,ws,nums,ks,ps⟩ 0)=true):ZD ns ⟨8,ws,nums,ks,ps⟩=true:=by obtain⟨a,b,c⟩:=Zbk f;obtain rfl:nums=[]:=Zbo e;obtain⟨k,rfl⟩:=List.length_eq_one_iff.mp hk;refine ZbC a rfl ?_;show(Zq _ 1 0&&Zj ns [k] [ZF])=true;rw[Zbv (a:=1) (b:=0) (by show ws.length=1;omega) rfl,ZeQ (k:=k) d];rfl
theorem ZrM (f:Zy ⟨9,ws,nums,ks,ps⟩ 1 1=true) (e:Zai ⟨9,ws,nums,ks,ps⟩=true) (hk:ks.length=1) (d:ZF (kdR ns ⟨9,ws,nums,ks,ps⟩ 0)=true):ZD ns ⟨9,ws,nums,ks,ps⟩=true:=by obtain⟨a,b,c⟩:=Zbk f;obtain rfl:nums=[]:=Zbo e;obtain⟨k,rfl⟩:=List.length_eq_one_iff.mp hk;refine ZbC a rfl ?_;show(Zq _ 1 0&&Zj ns [k] [ZF])=true;rw[Zbv (a:=1) (b:=0) (by show ws.length=1;omega) rfl,ZeQ (k:=k) d];rfl
theorem ZqG (k:Zy ⟨10,ws,nums,ks,ps⟩ 2 2=true) (j:Zai ⟨10,ws,nums,ks,ps⟩=true) (i:Zbu ns ⟨10,ws,nums,ks,ps⟩ 0 2 2=true):ZD ns ⟨10,ws,nums,ks,ps⟩=true:=by obtain⟨a,b,c⟩:=Zbk k;obtain rfl:nums=[]:=Zbo j;obtain⟨d,e,f⟩:=ZdE i;obtain⟨x,y,rfl⟩:=Zgi (l:=ks) (by omega);obtain⟨g,h⟩:=all_cons d;refine ZbC a rfl ?_;show(Zq _ 2 0&&Zj ns [x,y] [isB [7],isB [7]])=true;rw[Zbv (a:=2) (b:=0) (by show ws.length=2;omega) rfl,Zgg g (all_cons h).1];rfl
theorem ZqE (i:Zy ⟨12,ws,nums,ks,ps⟩ 1 1=true) (h:Zai ⟨12,ws,nums,ks,ps⟩=true) (g:Zbu ns ⟨12,ws,nums,ks,ps⟩ 0 1 1=true):ZD ns ⟨12,ws,nums,ks,ps⟩=true:=by obtain⟨a,b,c⟩:=Zbk i;obtain rfl:nums=[]:=Zbo h;obtain⟨d,e,f⟩:=ZdE g;obtain⟨x,rfl⟩:=List.length_eq_one_iff.mp (show ks.length=1 by omega);refine ZbC a rfl ?_;show(Zq _ 1 0&&Zj ns [x] [isB [7]])=true;rw[Zbv (a:=1) (b:=0) (by show ws.length=1;omega) rfl,ZeQ (all_cons d).1];rfl
theorem ZqD (h:Zam ns ks Zdp=true) (e:Zy ⟨14,ws,nums,ks,ps⟩ 1 2=true) (d:Zai ⟨14,ws,nums,ks,ps⟩=true):ZD ns ⟨14,ws,nums,ks,ps⟩=true:=by
 obtain⟨a,b,c⟩:=Zbk e;obtain rfl:nums=[]:=Zbo d;refine ZbC a rfl ?_;show((Zq _ 1 0||Zq _ 2 0)&&Zam ns ks Zdp)=true;rw[h];by_cases q:ws.length=1
 ·rw[Zbv (a:=1) (b:=0) q rfl];rfl
 ·rw[Zbv (a:=2) (b:=0) (show ws.length=2 by omega) rfl,Bool.or_true];rfl
theorem Zse (j:Zy ⟨16,ws,nums,ks,ps⟩ 0 0=true) (i:Zai ⟨16,ws,nums,ks,ps⟩=true) (hk:0<ks.length) (g:ZF (kdR ns ⟨16,ws,nums,ks,ps⟩ 0)=true) (h:Zbu ns ⟨16,ws,nums,ks,ps⟩ 1 1 2=true):ZD ns ⟨16,ws,nums,ks,ps⟩=true:=by
 obtain⟨a,b,c⟩:=Zbk j;obtain rfl:nums=[]:=Zbo i;obtain⟨d,e,f⟩:=ZdE h;refine ZbC a rfl ?_;show(Zq _ 0 0&&(Zj ns ks [ZF,isB [7]]||Zj ns ks [ZF,isB [7],isB [7]]))=true;rw[Zbv (a:=0) (b:=0) (by show ws.length=0;omega) rfl];by_cases q:ks.length=2
 ·obtain⟨x,y,rfl⟩:=Zgi q;rw[Zgg (k:=x) (l:=y) g (all_cons d).1];rfl
 ·obtain⟨x,y,z,rfl⟩:=Zhf (l:=ks) (by omega);rw[Zn7 (k:=x) (l:=y) (m:=z) g (all_cons d).1 (all_cons (all_cons d).2).1,Bool.or_true];rfl
theorem ZpF (j:Zy ⟨17,ws,nums,ks,ps⟩ 0 0=true) (i:Zai ⟨17,ws,nums,ks,ps⟩=true) (hk:0<ks.length) (h:ZF (kdR ns ⟨17,ws,nums,ks,ps⟩ 0)=true) (g:Zbu ns ⟨17,ws,nums,ks,ps⟩ 1 1 1=true):ZD ns ⟨17,ws,nums,ks,ps⟩=true:=by obtain⟨a,b,c⟩:=Zbk j;obtain rfl:nums=[]:=Zbo i;obtain⟨d,e,f⟩:=ZdE g;refine ZbC a rfl ?_;show(Zq _ 0 0&&Zj ns ks [ZF,isB [7]])=true;rw[Zbv (a:=0) (b:=0) (by show ws.length=0;omega) rfl];obtain⟨x,y,rfl⟩:=Zgi (l:=ks) (by omega);rw[Zgg (k:=x) (l:=y) h (all_cons d).1];rfl
theorem ZnY (f:Zy ⟨18,ws,nums,ks,ps⟩ 0 0=true) (e:Zai ⟨18,ws,nums,ks,ps⟩=true) (hk:ks.length=1) (d:ZF (kdR ns ⟨18,ws,nums,ks,ps⟩ 0)=true):ZD ns ⟨18,ws,nums,ks,ps⟩=true:=by obtain⟨a,b,c⟩:=Zbk f;obtain rfl:nums=[]:=Zbo e;obtain⟨k,rfl⟩:=List.length_eq_one_iff.mp hk;refine ZbC a rfl ?_;show(Zq _ 0 0&&Zj ns [k] [ZF])=true;rw[Zbv (a:=0) (b:=0) (by show ws.length=0;omega) rfl,ZeQ (k:=k) d];rfl
theorem ZrK (f:Zy ⟨23,ws,nums,ks,ps⟩ 0 0=true) (e:Zai ⟨23,ws,nums,ks,ps⟩=true) (hk:ks.length=1) (d:ZF (kdR ns ⟨23,ws,nums,ks,ps⟩ 0)=true):ZD ns ⟨23,ws,nums,ks,ps⟩=true:=by obtain⟨a,b,c⟩:=Zbk f;obtain rfl:nums=[]:=Zbo e;obtain⟨k,rfl⟩:=List.length_eq_one_iff.mp hk;refine ZbC a rfl ?_;show(Zq _ 0 0&&Zj ns [k] [ZF])=true;rw[Zbv (a:=0) (b:=0) (by show ws.length=0;omega) rfl,ZeQ (k:=k) d];rfl
theorem ZqF (e:Zy ⟨19,ws,nums,ks,ps⟩ 0 0=true) (d:Zai ⟨19,ws,nums,ks,ps⟩=true) (hk:ks.length=0):ZD ns ⟨19,ws,nums,ks,ps⟩=true:=by obtain⟨a,b,c⟩:=Zbk e;obtain rfl:nums=[]:=Zbo d;obtain rfl:=List.length_eq_zero_iff.mp hk;refine ZbC a rfl ?_;show(Zq _ 0 0&&Zj ns [] [])=true;rw[Zbv (a:=0) (b:=0) (by show ws.length=0;omega) rfl];rfl
theorem ZnW (e:Zy ⟨15,ws,nums,ks,ps⟩ 1 1=true) (d:Zai ⟨15,ws,nums,ks,ps⟩=true) (hk:ks.length=0):ZD ns ⟨15,ws,nums,ks,ps⟩=true:=by obtain⟨a,b,c⟩:=Zbk e;obtain rfl:nums=[]:=Zbo d;obtain rfl:=List.length_eq_zero_iff.mp hk;refine ZbC a rfl ?_;show(Zq _ 1 0&&Zj ns [] [])=true;rw[Zbv (a:=1) (b:=0) (by show ws.length=1;omega) rfl];rfl
theorem ZrN (e:Zy ⟨21,ws,nums,ks,ps⟩ 1 1=true) (d:Zai ⟨21,ws,nums,ks,ps⟩=true) (hk:ks.length=0):ZD ns ⟨21,ws,nums,ks,ps⟩=true:=by obtain⟨a,b,c⟩:=Zbk e;obtain rfl:nums=[]:=Zbo d;obtain rfl:=List.length_eq_zero_iff.mp hk;refine ZbC a rfl ?_;show(Zq _ 1 0&&Zj ns [] [])=true;rw[Zbv (a:=1) (b:=0) (by show ws.length=1;omega) rfl];rfl
theorem ZrL {y:Int} (f:Zy ⟨20,ws,nums,ks,ps⟩ 0 0=true) (g:nums=[y]) (d:0<=y) (e:y<1000000000000000000) (hk:ks.length=0):ZD ns ⟨20,ws,nums,ks,ps⟩=true:=by obtain⟨a,b,c⟩:=Zbk f;obtain rfl:=List.length_eq_zero_iff.mp hk;subst g;refine ZbC a (ZhI d e) ?_;show(Zq _ 0 1&&Zj ns [] [])=true;rw[Zbv (a:=0) (b:=1) (by show ws.length=0;omega) rfl];rfl
theorem ZrH {y:Int} (h:Zy ⟨22,ws,nums,ks,ps⟩ 0 0=true) (i:nums=[y]) (d:0<=y) (e:y<=5) (hk:ks.length=2) (f:ZF (kdR ns ⟨22,ws,nums,ks,ps⟩ 0)=true) (g:ZF (kdR ns ⟨22,ws,nums,ks,ps⟩ 1)=true):ZD ns ⟨22,ws,nums,ks,ps⟩=true:=by obtain⟨a,b,c⟩:=Zbk h;obtain⟨x,z,rfl⟩:=Zgi hk;subst i;refine ZbC a (ZhI d (by omega)) ?_;show(Zq _ 0 1&&decide (y<=5)&&Zj ns [x,z] [ZF,ZF])=true;rw[Zbv (a:=0) (b:=1) (by show ws.length=0;omega) rfl,decide_eq_true e,Zgg (k:=x) (l:=z) f g];rfl
end
end
section
open Go.RowKit
theorem hd6 {w:Yh} {v:Yi} {ns:List Nd} {x:NdV×Nd} (g:Zi w v ns) (hx:ZS w x) (hk:Zaw x.2.kids ns.length) :
  Hid (∀(wr:Yh),Below w.heap.size w wr->∀(a b:Int),Calls Tryz.prog 26 #[ndV x,Yd Yf a,Yd Yf b] wr fun e w'=>e=.returned (.bool (Zy x.2 a b))/\Below wr.heap.size wr w') ∧
  Hid (∀(wr:Yh),Below w.heap.size w wr->Calls Tryz.prog 27 #[ndV x] wr fun e w'=>e=.returned (.bool (Zai x.2))/\Below wr.heap.size wr w') ∧
  Hid (∀(wr:Yh),Below w.heap.size w wr->∀(i:Nat),i<x.2.kids.length->Calls Tryz.prog 29 #[v,ndV x,Yd Yf i] wr fun e w'=>e=.returned (Yd Yf (kdR ns x.2 i))/\Below wr.heap.size wr w') ∧
  Hid (∀(wr:Yh),Below w.heap.size w wr->∀(f:Nat) (a b:Int),f<=x.2.kids.length->f<=1->Calls Tryz.prog 58 #[v,ndV x,Yd Yf f,Yd Yf a,Yd Yf b] wr fun e w'=>e=.returned (.bool (Zbu ns x.2 f a b))/\Below wr.heap.size wr w') ∧
  Hid (x.2.nums.length=3->∀(wr:Yh),Below w.heap.size w wr->Calls Tryz.prog 59 #[ndV x] wr fun e w'=>e=.returned (.bool (ZcV x.2))/\Below wr.heap.size wr w'):=
 ⟨zh fun wr c a b=>ZnQ wr _ a b (hx.below c),zh fun wr c=>Zpj wr _ (hx.below c),zh fun wr c i j=>ZkW wr v ns _ i (g.below c) (hx.below c) hk j,
  zh fun wr c f a b h d=>ZlH wr v ns _ f a b (g.below c) (hx.below c) hk h d,zh fun k wr c=>Zo4 wr _ (hx.below c) k⟩
theorem Zcl (w:Yh) (a b c d e:Yi):Stb (fun w'=>(w'.cell? ⟨w.heap.size,0,Yb⟩=Ya a/\w'.cell? ⟨w.heap.size,1,Yb⟩=Ya b/\w'.cell? ⟨w.heap.size,2,Yb⟩=Ya c/\w'.cell? ⟨w.heap.size,3,Yb⟩=Ya d/\w'.cell? ⟨w.heap.size,4,Yb⟩=Ya e)/\Below w.heap.size w w'):=
 Zae (Zae (ZT _ _) (Zae (ZT _ _) (Zae (ZT _ _) (Zae (ZT _ _) (ZT _ _))))) (Zco w)
theorem Zcg (w:Yh) (a b c d e:Yi):((w.alloc (Yg #[a,b,c,d,e] 37)).cell? ⟨w.heap.size,0,Yb⟩=Ya a/\(w.alloc (Yg #[a,b,c,d,e] 37)).cell? ⟨w.heap.size,1,Yb⟩=Ya b/\(w.alloc (Yg #[a,b,c,d,e] 37)).cell? ⟨w.heap.size,2,Yb⟩=Ya c/\(w.alloc (Yg #[a,b,c,d,e] 37)).cell? ⟨w.heap.size,3,Yb⟩=Ya d/\(w.alloc (Yg #[a,b,c,d,e] 37)).cell? ⟨w.heap.size,4,Yb⟩=Ya e)/\Below w.heap.size w (w.alloc (Yg #[a,b,c,d,e] 37)):=
 ⟨⟨(Blk.start w _ _).cell 0,(Blk.start w _ _).cell 1,(Blk.start w _ _).cell 2,(Blk.start w _ _).cell 3,(Blk.start w _ _).cell 4⟩,below_alloc1 w _⟩
end
section
open Go.RowKit
theorem ZnE (w:Yh) (v:Yi) (ns:List Nd) (va vb vc:Yi) (d:List (List UInt8)) (a b:List Int) (c:Int) (hN:Zi w v ns) (hx:ZS w ((va,vb,vc),⟨8,d,a,b,c⟩)) (hk:Zaw b ns.length) :
  Calls Tryz.prog 30 #[v,ndV ((va,vb,vc),⟨8,d,a,b,c⟩)] w fun e w'=>OkB (ZD ns ⟨8,d,a,b,c⟩=true) e/\Below w.heap.size w w':=by
 obtain⟨h1,h2,J⟩:=id hx;dsimp only at h1 h2 J;obtain⟨I,o,n,t,u⟩:=hd6 hN hx hk;obtain⟨j,p,rfl,_⟩:=h1;obtain⟨k,q,rfl,_,_,z⟩:=h2;have KL:=zh J.len;obtain⟨l,r,rfl,_⟩:=J;have R2:=zh z;unfold ndV at I o n t u⊢;dsimp only at I o n t u⊢;have f:=zh (Zcl w (Yd Yf 8) (.slice j d.length p) (.slice k a.length q) (.slice l b.length r) (Yd Yf c));have y:=Zcg w (Yd Yf 8) (.slice j d.length p) (.slice k a.length q) (.slice l b.length r) (Yd Yf c);have s:=zh y;obtain⟨⟨g0,g1,g2,g3,g4⟩,_⟩:=y;clear z hx hN hk;have WF:=zh (show ∀wr:Yh,Below w.heap.size w wr->Calls Tryz.prog 26 #[.agg #[Yd Yf 8,.slice j d.length p,.slice k a.length q,.slice l b.length r,Yd Yf c],Yd Yf 1,Yd Yf 1] wr fun e w'=>e=.returned (.bool (Zy ⟨8,d,a,b,c⟩ 1 1))/\Below wr.heap.size wr w' from fun wr A=>I.out wr A 1 1);generalize F:Zy ⟨8,d,a,b,c⟩ 1 1=W at WF;have QW:=zh F;clear F;have H:=zh (show ∀wr:Yh,Below w.heap.size w wr->Calls Tryz.prog 27 #[.agg #[Yd Yf 8,.slice j d.length p,.slice k a.length q,.slice l b.length r,Yd Yf c]] wr fun e w'=>e=.returned (.bool (Zai ⟨8,d,a,b,c⟩))/\Below wr.heap.size wr w' from fun wr A=>o.out wr A);generalize D:Zai ⟨8,d,a,b,c⟩=N at H;have QN:=zh D;clear D;by_cases qk:b.length=1
 ·have tk:((b.length:Int)==1)=true:=by rw[beq_iff_eq];omega
  have Z:=zh qk;clear qk;have EG:=zh (show ∀wr:Yh,Below w.heap.size w wr->Calls Tryz.prog 29 #[v,.agg #[Yd Yf 8,.slice j d.length p,.slice k a.length q,.slice l b.length r,Yd Yf c],Yd Yf 0] wr fun e w'=>e=.returned (Yd Yf (kdR ns ⟨8,d,a,b,c⟩ 0))/\Below wr.heap.size wr w' from fun wr A=>n.out wr A 0 (by have:=Z.out;omega));have Y:=zh (fun wr=>Zc5 wr (kdR ns ⟨8,d,a,b,c⟩ 0));generalize C:ZF (kdR ns ⟨8,d,a,b,c⟩ 0)=E at Y;have QE:=zh C;clear C;go_enter Tryz.func30,Tryz.ntmps30;go_upto_region 1 with fail;generalize(w.alloc (Yg #[Yd Yf 8,.slice j d.length p,.slice k a.length q,.slice l b.length r,Yd Yf c] 37))=V at *
  go_wp2_with (first
   |(go_at_call 26;(with_reducible refine(WF.out V (Za s.out)).mono ?_);rintro e2 X ⟨rfl,g⟩;have i:=zh (f.out _ _ g s.out);obtain⟨⟨K,L,M,O,P⟩,_⟩:=id i.out;clear g;cases W)
   |(go_at_call 27;(with_reducible refine(H.out X (Za i.out)).mono ?_);rintro e3 w3 ⟨rfl,h⟩;have m:=zh (f.out _ _ h i.out);obtain⟨⟨Q,R,S,T,U⟩,_⟩:=id m.out;clear h;cases N)
   |(go_at_call 29;(with_reducible refine(EG.out w3 (Za m.out)).mono ?_);rintro e4 w4 ⟨rfl,B⟩;have G:=zh (f.out _ _ B m.out);obtain⟨⟨ao,ap,aq,ar,au⟩,_⟩:=id G.out;clear B)
   |(go_at_call 28;(with_reducible refine(Y.out w4).mono ?_);rintro _ _ ⟨rfl,rfl⟩;cases E))
  all_goals go_ret
  all_goals first
   |exact⟨Zbc (ZrJ QW.out QN.out Z.out QE.out),Za G.out⟩
   |exact⟨Zh,Za G.out⟩
   |exact⟨Zh,Za m.out⟩
   |exact⟨Zh,Za i.out⟩
   |exact⟨Zh,Za s.out⟩
 ·have tk:((b.length:Int)==1)=false:=by rw[beq_eq_false_iff_ne];omega
  go_enter Tryz.func30,Tryz.ntmps30;go_upto_region 1 with fail;generalize(w.alloc (Yg #[Yd Yf 8,.slice j d.length p,.slice k a.length q,.slice l b.length r,Yd Yf c] 37))=V at *
  go_wp2_with (first
   |(go_at_call 26;(with_reducible refine(WF.out V (Za s.out)).mono ?_);rintro e2 X ⟨rfl,g⟩;have i:=zh (f.out _ _ g s.out);obtain⟨⟨K,L,M,O,P⟩,_⟩:=id i.out;clear g;cases W)
   |(go_at_call 27;(with_reducible refine(H.out X (Za i.out)).mono ?_);rintro e3 w3 ⟨rfl,h⟩;have m:=zh (f.out _ _ h i.out);obtain⟨⟨Q,R,S,T,U⟩,_⟩:=id m.out;clear h;cases N))
  all_goals go_ret
  all_goals first
   |exact⟨Zh,Za m.out⟩
   |exact⟨Zh,Za i.out⟩
   |exact⟨Zh,Za s.out⟩
theorem ZnF (w:Yh) (v:Yi) (ns:List Nd) (va vb vc:Yi) (d:List (List UInt8)) (a b:List Int) (c:Int) (hN:Zi w v ns) (hx:ZS w ((va,vb,vc),⟨9,d,a,b,c⟩)) (hk:Zaw b ns.length) :
  Calls Tryz.prog 30 #[v,ndV ((va,vb,vc),⟨9,d,a,b,c⟩)] w fun e w'=>OkB (ZD ns ⟨9,d,a,b,c⟩=true) e/\Below w.heap.size w w':=by
 obtain⟨h1,h2,J⟩:=id hx;dsimp only at h1 h2 J;obtain⟨I,o,n,t,u⟩:=hd6 hN hx hk;obtain⟨j,p,rfl,_⟩:=h1;obtain⟨k,q,rfl,_,_,z⟩:=h2;have KL:=zh J.len;obtain⟨l,r,rfl,_⟩:=J;have R2:=zh z;unfold ndV at I o n t u⊢;dsimp only at I o n t u⊢;have f:=zh (Zcl w (Yd Yf 9) (.slice j d.length p) (.slice k a.length q) (.slice l b.length r) (Yd Yf c));have y:=Zcg w (Yd Yf 9) (.slice j d.length p) (.slice k a.length q) (.slice l b.length r) (Yd Yf c);have s:=zh y;obtain⟨⟨g0,g1,g2,g3,g4⟩,_⟩:=y;clear z hx hN hk;have WF:=zh (show ∀wr:Yh,Below w.heap.size w wr->Calls Tryz.prog 26 #[.agg #[Yd Yf 9,.slice j d.length p,.slice k a.length q,.slice l b.length r,Yd Yf c],Yd Yf 1,Yd Yf 1] wr fun e w'=>e=.returned (.bool (Zy ⟨9,d,a,b,c⟩ 1 1))/\Below wr.heap.size wr w' from fun wr A=>I.out wr A 1 1);generalize F:Zy ⟨9,d,a,b,c⟩ 1 1=W at WF;have QW:=zh F;clear F;have H:=zh (show ∀wr:Yh,Below w.heap.size w wr->Calls Tryz.prog 27 #[.agg #[Yd Yf 9,.slice j d.length p,.slice k a.length q,.slice l b.length r,Yd Yf c]] wr fun e w'=>e=.returned (.bool (Zai ⟨9,d,a,b,c⟩))/\Below wr.heap.size wr w' from fun wr A=>o.out wr A);generalize D:Zai ⟨9,d,a,b,c⟩=N at H;have QN:=zh D;clear D;by_cases qk:b.length=1
 ·have tk:((b.length:Int)==1)=true:=by rw[beq_iff_eq];omega
  have Z:=zh qk;clear qk;have EG:=zh (show ∀wr:Yh,Below w.heap.size w wr->Calls Tryz.prog 29 #[v,.agg #[Yd Yf 9,.slice j d.length p,.slice k a.length q,.slice l b.length r,Yd Yf c],Yd Yf 0] wr fun e w'=>e=.returned (Yd Yf (kdR ns ⟨9,d,a,b,c⟩ 0))/\Below wr.heap.size wr w' from fun wr A=>n.out wr A 0 (by have:=Z.out;omega));have Y:=zh (fun wr=>Zc5 wr (kdR ns ⟨9,d,a,b,c⟩ 0));generalize C:ZF (kdR ns ⟨9,d,a,b,c⟩ 0)=E at Y;have QE:=zh C;clear C;go_enter Tryz.func30,Tryz.ntmps30;go_upto_region 1 with fail;generalize(w.alloc (Yg #[Yd Yf 9,.slice j d.length p,.slice k a.length q,.slice l b.length r,Yd Yf c] 37))=V at *
  go_wp2_with (first
   |(go_at_call 26;(with_reducible refine(WF.out V (Za s.out)).mono ?_);rintro e2 X ⟨rfl,g⟩;have i:=zh (f.out _ _ g s.out);obtain⟨⟨K,L,M,O,P⟩,_⟩:=id i.out;clear g;cases W)
   |(go_at_call 27;(with_reducible refine(H.out X (Za i.out)).mono ?_);rintro e3 w3 ⟨rfl,h⟩;have m:=zh (f.out _ _ h i.out);obtain⟨⟨Q,R,S,T,U⟩,_⟩:=id m.out;clear h;cases N)
   |(go_at_call 29;(with_reducible refine(EG.out w3 (Za m.out)).mono ?_);rintro e4 w4 ⟨rfl,B⟩;have G:=zh (f.out _ _ B m.out);obtain⟨⟨ao,ap,aq,ar,au⟩,_⟩:=id G.out;clear B)
   |(go_at_call 28;(with_reducible refine(Y.out w4).mono ?_);rintro _ _ ⟨rfl,rfl⟩;cases E))
  all_goals go_ret
  all_goals first
   |exact⟨Zbc (ZrM QW.out QN.out Z.out QE.out),Za G.out⟩
   |exact⟨Zh,Za G.out⟩
   |exact⟨Zh,Za m.out⟩
   |exact⟨Zh,Za i.out⟩
   |exact⟨Zh,Za s.out⟩
 ·have tk:((b.length:Int)==1)=false:=by rw[beq_eq_false_iff_ne];omega
  go_enter Tryz.func30,Tryz.ntmps30;go_upto_region 1 with fail;generalize(w.alloc (Yg #[Yd Yf 9,.slice j d.length p,.slice k a.length q,.slice l b.length r,Yd Yf c] 37))=V at *
  go_wp2_with (first
   |(go_at_call 26;(with_reducible refine(WF.out V (Za s.out)).mono ?_);rintro e2 X ⟨rfl,g⟩;have i:=zh (f.out _ _ g s.out);obtain⟨⟨K,L,M,O,P⟩,_⟩:=id i.out;clear g;cases W)
   |(go_at_call 27;(with_reducible refine(H.out X (Za i.out)).mono ?_);rintro e3 w3 ⟨rfl,h⟩;have m:=zh (f.out _ _ h i.out);obtain⟨⟨Q,R,S,T,U⟩,_⟩:=id m.out;clear h;cases N))
  all_goals go_ret
  all_goals first
   |exact⟨Zh,Za m.out⟩
   |exact⟨Zh,Za i.out⟩
   |exact⟨Zh,Za s.out⟩
theorem ZlM (w:Yh) (v:Yi) (ns:List Nd) (P Q R:Yi) (d:List (List UInt8)) (a b:List Int) (c:Int) (O:Zi w v ns) (hx:ZS w ((P,Q,R),⟨10,d,a,b,c⟩)) (hk:Zaw b ns.length) :
  Calls Tryz.prog 30 #[v,ndV ((P,Q,R),⟨10,d,a,b,c⟩)] w fun e w'=>OkB (ZD ns ⟨10,d,a,b,c⟩=true) e/\Below w.heap.size w w':=by
 obtain⟨L,M,I⟩:=id hx;dsimp only at L M I;obtain⟨H,g,q,f,o⟩:=hd6 O hx hk;obtain⟨i,l,rfl,_⟩:=L;obtain⟨j,m,rfl,_,_,r⟩:=M;have KL:=zh I.len;obtain⟨k,n,rfl,_⟩:=I;have R2:=zh r;unfold ndV at H g q f o⊢;dsimp only at H g q f o⊢;have h:=zh (Zcl w (Yd Yf 10) (.slice i d.length l) (.slice j a.length m) (.slice k b.length n) (Yd Yf c));have p:=Zcg w (Yd Yf 10) (.slice i d.length l) (.slice j a.length m) (.slice k b.length n) (Yd Yf c);have F:=zh p;obtain⟨⟨g0,g1,g2,g3,g4⟩,_⟩:=p;clear r hx O hk;have WF:=zh (show ∀wr:Yh,Below w.heap.size w wr->Calls Tryz.prog 26 #[.agg #[Yd Yf 10,.slice i d.length l,.slice j a.length m,.slice k b.length n,Yd Yf c],Yd Yf 2,Yd Yf 2] wr fun e w'=>e=.returned (.bool (Zy ⟨10,d,a,b,c⟩ 2 2))/\Below wr.heap.size wr w' from fun wr s=>H.out wr s 2 2);generalize C:Zy ⟨10,d,a,b,c⟩ 2 2=W at WF;have U:=zh C;clear C;have K:=zh (show ∀wr:Yh,Below w.heap.size w wr->Calls Tryz.prog 27 #[.agg #[Yd Yf 10,.slice i d.length l,.slice j a.length m,.slice k b.length n,Yd Yf c]] wr fun e w'=>e=.returned (.bool (Zai ⟨10,d,a,b,c⟩))/\Below wr.heap.size wr w' from fun wr s=>g.out wr s);generalize A:Zai ⟨10,d,a,b,c⟩=N at K;have T:=zh A;clear A;have J:=zh (show ∀wr:Yh,Below w.heap.size w wr->Calls Tryz.prog 58 #[v,.agg #[Yd Yf 10,.slice i d.length l,.slice j a.length m,.slice k b.length n,Yd Yf c],Yd Yf 0,Yd Yf 2,Yd Yf 2] wr fun e w'=>e=.returned (.bool (Zbu ns ⟨10,d,a,b,c⟩ 0 2 2))/\Below wr.heap.size wr w' from fun wr s=>f.out wr s 0 2 2 (by omega) (by omega));generalize z:Zbu ns ⟨10,d,a,b,c⟩ 0 2 2=B at J;have S:=zh z;clear z;go_enter Tryz.func30,Tryz.ntmps30;go_upto_region 1 with fail;generalize(w.alloc (Yg #[Yd Yf 10,.slice i d.length l,.slice j a.length m,.slice k b.length n,Yd Yf c] 37))=w1 at *
 go_wp2_with (first
  |(go_at_call 26;(with_reducible refine(WF.out w1 (Za F.out)).mono ?_);rintro e2 w2 ⟨rfl,t⟩;have D:=zh (h.out _ _ t F.out);obtain⟨⟨V,X,Y,Z,aa⟩,_⟩:=id D.out;clear t;cases W)
  |(go_at_call 27;(with_reducible refine(K.out w2 (Za D.out)).mono ?_);rintro e3 w3 ⟨rfl,u⟩;have E:=zh (h.out _ _ u D.out);obtain⟨⟨ab,ac,ad,ae,af⟩,_⟩:=id E.out;clear u;cases N)
  |(go_at_call 58;(with_reducible refine(J.out w3 (Za E.out)).mono ?_);rintro e4 w4 ⟨rfl,y⟩;have G:=zh (h.out _ _ y E.out);obtain⟨⟨ag,ah,ai,aj,ak⟩,_⟩:=id G.out;clear y;cases B))
 all_goals go_ret
 all_goals first
  |exact⟨Zbc (ZqG U.out T.out S.out),Za G.out⟩
  |exact⟨Zh,Za G.out⟩
  |exact⟨Zh,Za E.out⟩
  |exact⟨Zh,Za D.out⟩
  |exact⟨Zh,Za F.out⟩
theorem ZlK (w:Yh) (v:Yi) (ns:List Nd) (P Q R:Yi) (d:List (List UInt8)) (a b:List Int) (c:Int) (O:Zi w v ns) (hx:ZS w ((P,Q,R),⟨12,d,a,b,c⟩)) (hk:Zaw b ns.length) :
  Calls Tryz.prog 30 #[v,ndV ((P,Q,R),⟨12,d,a,b,c⟩)] w fun e w'=>OkB (ZD ns ⟨12,d,a,b,c⟩=true) e/\Below w.heap.size w w':=by
 obtain⟨L,M,I⟩:=id hx;dsimp only at L M I;obtain⟨H,g,q,f,o⟩:=hd6 O hx hk;obtain⟨i,l,rfl,_⟩:=L;obtain⟨j,m,rfl,_,_,r⟩:=M;have KL:=zh I.len;obtain⟨k,n,rfl,_⟩:=I;have R2:=zh r;unfold ndV at H g q f o⊢;dsimp only at H g q f o⊢;have h:=zh (Zcl w (Yd Yf 12) (.slice i d.length l) (.slice j a.length m) (.slice k b.length n) (Yd Yf c));have p:=Zcg w (Yd Yf 12) (.slice i d.length l) (.slice j a.length m) (.slice k b.length n) (Yd Yf c);have F:=zh p;obtain⟨⟨g0,g1,g2,g3,g4⟩,_⟩:=p;clear r hx O hk;have WF:=zh (show ∀wr:Yh,Below w.heap.size w wr->Calls Tryz.prog 26 #[.agg #[Yd Yf 12,.slice i d.length l,.slice j a.length m,.slice k b.length n,Yd Yf c],Yd Yf 1,Yd Yf 1] wr fun e w'=>e=.returned (.bool (Zy ⟨12,d,a,b,c⟩ 1 1))/\Below wr.heap.size wr w' from fun wr s=>H.out wr s 1 1);generalize C:Zy ⟨12,d,a,b,c⟩ 1 1=W at WF;have U:=zh C;clear C;have K:=zh (show ∀wr:Yh,Below w.heap.size w wr->Calls Tryz.prog 27 #[.agg #[Yd Yf 12,.slice i d.length l,.slice j a.length m,.slice k b.length n,Yd Yf c]] wr fun e w'=>e=.returned (.bool (Zai ⟨12,d,a,b,c⟩))/\Below wr.heap.size wr w' from fun wr s=>g.out wr s);generalize A:Zai ⟨12,d,a,b,c⟩=N at K;have T:=zh A;clear A;have J:=zh (show ∀wr:Yh,Below w.heap.size w wr->Calls Tryz.prog 58 #[v,.agg #[Yd Yf 12,.slice i d.length l,.slice j a.length m,.slice k b.length n,Yd Yf c],Yd Yf 0,Yd Yf 1,Yd Yf 1] wr fun e w'=>e=.returned (.bool (Zbu ns ⟨12,d,a,b,c⟩ 0 1 1))/\Below wr.heap.size wr w' from fun wr s=>f.out wr s 0 1 1 (by omega) (by omega));generalize z:Zbu ns ⟨12,d,a,b,c⟩ 0 1 1=B at J;have S:=zh z;clear z;go_enter Tryz.func30,Tryz.ntmps30;go_upto_region 1 with fail;generalize(w.alloc (Yg #[Yd Yf 12,.slice i d.length l,.slice j a.length m,.slice k b.length n,Yd Yf c] 37))=w1 at *
 go_wp2_with (first
  |(go_at_call 26;(with_reducible refine(WF.out w1 (Za F.out)).mono ?_);rintro e2 w2 ⟨rfl,t⟩;have D:=zh (h.out _ _ t F.out);obtain⟨⟨V,X,Y,Z,aa⟩,_⟩:=id D.out;clear t;cases W)
  |(go_at_call 27;(with_reducible refine(K.out w2 (Za D.out)).mono ?_);rintro e3 w3 ⟨rfl,u⟩;have E:=zh (h.out _ _ u D.out);obtain⟨⟨ab,ac,ad,ae,af⟩,_⟩:=id E.out;clear u;cases N)
  |(go_at_call 58;(with_reducible refine(J.out w3 (Za E.out)).mono ?_);rintro e4 w4 ⟨rfl,y⟩;have G:=zh (h.out _ _ y E.out);obtain⟨⟨ag,ah,ai,aj,ak⟩,_⟩:=id G.out;clear y;cases B))
 all_goals go_ret
 all_goals first
  |exact⟨Zbc (ZqE U.out T.out S.out),Za G.out⟩
  |exact⟨Zh,Za G.out⟩
  |exact⟨Zh,Za E.out⟩
  |exact⟨Zh,Za D.out⟩
  |exact⟨Zh,Za F.out⟩
end
section
open Go.RowKit
theorem Zo8 (w:Yh) (v:Yi) (ns:List Nd) (va vb vc:Yi) (d:List (List UInt8)) (a b:List Int) (c:Int) (hN:Zi w v ns) (hx:ZS w ((va,vb,vc),⟨16,d,a,b,c⟩)) (hk:Zaw b ns.length) :
  Calls Tryz.prog 30 #[v,ndV ((va,vb,vc),⟨16,d,a,b,c⟩)] w fun e w'=>OkB (ZD ns ⟨16,d,a,b,c⟩=true) e/\Below w.heap.size w w':=by
 obtain⟨h1,h2,P⟩:=id hx;dsimp only at h1 h2 P;obtain⟨O,s,r,p,y⟩:=hd6 hN hx hk;obtain⟨j,m,rfl,_⟩:=h1;obtain⟨k,n,rfl,_,_,A⟩:=h2;have KL:=zh P.len;obtain⟨l,o,rfl,_⟩:=P;have R2:=zh A;unfold ndV at O s r p y⊢;dsimp only at O s r p y⊢;have f:=zh (Zcl w (Yd Yf 16) (.slice j d.length m) (.slice k a.length n) (.slice l b.length o) (Yd Yf c));have z:=Zcg w (Yd Yf 16) (.slice j d.length m) (.slice k a.length n) (.slice l b.length o) (Yd Yf c);have u:=zh z;obtain⟨⟨g0,g1,g2,g3,g4⟩,_⟩:=z;clear A hx hN hk;have WF:=zh (show ∀wr:Yh,Below w.heap.size w wr->Calls Tryz.prog 26 #[.agg #[Yd Yf 16,.slice j d.length m,.slice k a.length n,.slice l b.length o,Yd Yf c],Yd Yf 0,Yd Yf 0] wr fun e w'=>e=.returned (.bool (Zy ⟨16,d,a,b,c⟩ 0 0))/\Below wr.heap.size wr w' from fun wr t=>O.out wr t 0 0);generalize I:Zy ⟨16,d,a,b,c⟩ 0 0=W at WF;have QW:=zh I;clear I;have L:=zh (show ∀wr:Yh,Below w.heap.size w wr->Calls Tryz.prog 27 #[.agg #[Yd Yf 16,.slice j d.length m,.slice k a.length n,.slice l b.length o,Yd Yf c]] wr fun e w'=>e=.returned (.bool (Zai ⟨16,d,a,b,c⟩))/\Below wr.heap.size wr w' from fun wr t=>s.out wr t);generalize H:Zai ⟨16,d,a,b,c⟩=N at L;have QN:=zh H;clear H;by_cases qk:0<b.length
 ·have tk:(0:Int)<(b.length:Int):=by omega
  have M:=zh qk;have EG:=zh (show ∀wr:Yh,Below w.heap.size w wr->Calls Tryz.prog 29 #[v,.agg #[Yd Yf 16,.slice j d.length m,.slice k a.length n,.slice l b.length o,Yd Yf c],Yd Yf 0] wr fun e w'=>e=.returned (Yd Yf (kdR ns ⟨16,d,a,b,c⟩ 0))/\Below wr.heap.size wr w' from fun wr t=>r.out wr t 0 (by have:=M.out;omega));have EF:=zh (fun wr=>Zc5 wr (kdR ns ⟨16,d,a,b,c⟩ 0));generalize G:ZF (kdR ns ⟨16,d,a,b,c⟩ 0)=E at EF;have QE:=zh G;clear G;have BF:=zh (show ∀wr:Yh,Below w.heap.size w wr->Calls Tryz.prog 58 #[v,.agg #[Yd Yf 16,.slice j d.length m,.slice k a.length n,.slice l b.length o,Yd Yf c],Yd Yf 1,Yd Yf 1,Yd Yf 2] wr fun e w'=>e=.returned (.bool (Zbu ns ⟨16,d,a,b,c⟩ 1 1 2))/\Below wr.heap.size wr w' from fun wr t=>p.out wr t 1 1 2 (by have:=M.out;omega) (by omega));generalize F:Zbu ns ⟨16,d,a,b,c⟩ 1 1 2=B at BF;have QB:=zh F;clear F;go_enter Tryz.func30,Tryz.ntmps30;go_upto_region 1 with fail;generalize(w.alloc (Yg #[Yd Yf 16,.slice j d.length m,.slice k a.length n,.slice l b.length o,Yd Yf c] 37))=w1 at *
  go_wp2_with (first
   |(go_at_call 26;(with_reducible refine(WF.out w1 (Za u.out)).mono ?_);rintro e2 w2 ⟨rfl,g⟩;have i:=zh (f.out _ _ g u.out);obtain⟨⟨Q,R,S,T,U⟩,_⟩:=id i.out;clear g;cases W)
   |(go_at_call 27;(with_reducible refine(L.out w2 (Za i.out)).mono ?_);rintro e3 w3 ⟨rfl,h⟩;have q:=zh (f.out _ _ h i.out);obtain⟨⟨V,X,Y,Z,aa⟩,_⟩:=id q.out;clear h;cases N)
   |(go_at_call 29;(with_reducible refine(EG.out w3 (Za q.out)).mono ?_);rintro e4 w4 ⟨rfl,C⟩;have J:=zh (f.out _ _ C q.out);obtain⟨⟨aw,ax,ay,az,a1⟩,_⟩:=id J.out;clear C)
   |(go_at_call 28;(with_reducible refine(EF.out w4).mono ?_);rintro _ _ ⟨rfl,rfl⟩;cases E)
   |(go_at_call 58;(with_reducible refine(BF.out w4 (Za J.out)).mono ?_);rintro e5 w5 ⟨rfl,D⟩;have K:=zh (f.out _ _ D J.out);obtain⟨⟨a6,a7,a8,ba,bb⟩,_⟩:=id K.out;clear D;cases B))
  all_goals go_ret
  all_goals first
   |exact⟨Zbc (Zse QW.out QN.out M.out QE.out QB.out),Za K.out⟩
   |exact⟨Zh,Za K.out⟩
   |exact⟨Zh,Za J.out⟩
   |exact⟨Zh,Za q.out⟩
   |exact⟨Zh,Za i.out⟩
   |exact⟨Zh,Za u.out⟩
 ·have tk:¬(0:Int)<(b.length:Int):=by omega
  have bd:(b.length:Int)<=0:=by omega
  go_enter Tryz.func30,Tryz.ntmps30;go_upto_region 1 with fail;generalize(w.alloc (Yg #[Yd Yf 16,.slice j d.length m,.slice k a.length n,.slice l b.length o,Yd Yf c] 37))=w1 at *
  go_wp2_with (first
   |(go_at_call 26;(with_reducible refine(WF.out w1 (Za u.out)).mono ?_);rintro e2 w2 ⟨rfl,g⟩;have i:=zh (f.out _ _ g u.out);obtain⟨⟨Q,R,S,T,U⟩,_⟩:=id i.out;clear g;cases W)
   |(go_at_call 27;(with_reducible refine(L.out w2 (Za i.out)).mono ?_);rintro e3 w3 ⟨rfl,h⟩;have q:=zh (f.out _ _ h i.out);obtain⟨⟨V,X,Y,Z,aa⟩,_⟩:=id q.out;clear h;cases N))
  all_goals go_ret
  all_goals first
   |exact⟨Zh,Za q.out⟩
   |exact⟨Zh,Za i.out⟩
   |exact⟨Zh,Za u.out⟩
theorem ZkT (w:Yh) (v:Yi) (ns:List Nd) (va vb vc:Yi) (d:List (List UInt8)) (a b:List Int) (c:Int) (hN:Zi w v ns) (hx:ZS w ((va,vb,vc),⟨17,d,a,b,c⟩)) (hk:Zaw b ns.length) :
  Calls Tryz.prog 30 #[v,ndV ((va,vb,vc),⟨17,d,a,b,c⟩)] w fun e w'=>OkB (ZD ns ⟨17,d,a,b,c⟩=true) e/\Below w.heap.size w w':=by
 obtain⟨h1,h2,P⟩:=id hx;dsimp only at h1 h2 P;obtain⟨O,s,r,p,y⟩:=hd6 hN hx hk;obtain⟨j,m,rfl,_⟩:=h1;obtain⟨k,n,rfl,_,_,A⟩:=h2;have KL:=zh P.len;obtain⟨l,o,rfl,_⟩:=P;have R2:=zh A;unfold ndV at O s r p y⊢;dsimp only at O s r p y⊢;have f:=zh (Zcl w (Yd Yf 17) (.slice j d.length m) (.slice k a.length n) (.slice l b.length o) (Yd Yf c));have z:=Zcg w (Yd Yf 17) (.slice j d.length m) (.slice k a.length n) (.slice l b.length o) (Yd Yf c);have u:=zh z;obtain⟨⟨g0,g1,g2,g3,g4⟩,_⟩:=z;clear A hx hN hk;have WF:=zh (show ∀wr:Yh,Below w.heap.size w wr->Calls Tryz.prog 26 #[.agg #[Yd Yf 17,.slice j d.length m,.slice k a.length n,.slice l b.length o,Yd Yf c],Yd Yf 0,Yd Yf 0] wr fun e w'=>e=.returned (.bool (Zy ⟨17,d,a,b,c⟩ 0 0))/\Below wr.heap.size wr w' from fun wr t=>O.out wr t 0 0);generalize I:Zy ⟨17,d,a,b,c⟩ 0 0=W at WF;have QW:=zh I;clear I;have L:=zh (show ∀wr:Yh,Below w.heap.size w wr->Calls Tryz.prog 27 #[.agg #[Yd Yf 17,.slice j d.length m,.slice k a.length n,.slice l b.length o,Yd Yf c]] wr fun e w'=>e=.returned (.bool (Zai ⟨17,d,a,b,c⟩))/\Below wr.heap.size wr w' from fun wr t=>s.out wr t);generalize H:Zai ⟨17,d,a,b,c⟩=N at L;have QN:=zh H;clear H;by_cases qk:0<b.length
 ·have tk:(0:Int)<(b.length:Int):=by omega
  have M:=zh qk;have EG:=zh (show ∀wr:Yh,Below w.heap.size w wr->Calls Tryz.prog 29 #[v,.agg #[Yd Yf 17,.slice j d.length m,.slice k a.length n,.slice l b.length o,Yd Yf c],Yd Yf 0] wr fun e w'=>e=.returned (Yd Yf (kdR ns ⟨17,d,a,b,c⟩ 0))/\Below wr.heap.size wr w' from fun wr t=>r.out wr t 0 (by have:=M.out;omega));have EF:=zh (fun wr=>Zc5 wr (kdR ns ⟨17,d,a,b,c⟩ 0));generalize G:ZF (kdR ns ⟨17,d,a,b,c⟩ 0)=E at EF;have QE:=zh G;clear G;have BF:=zh (show ∀wr:Yh,Below w.heap.size w wr->Calls Tryz.prog 58 #[v,.agg #[Yd Yf 17,.slice j d.length m,.slice k a.length n,.slice l b.length o,Yd Yf c],Yd Yf 1,Yd Yf 1,Yd Yf 1] wr fun e w'=>e=.returned (.bool (Zbu ns ⟨17,d,a,b,c⟩ 1 1 1))/\Below wr.heap.size wr w' from fun wr t=>p.out wr t 1 1 1 (by have:=M.out;omega) (by omega));generalize F:Zbu ns ⟨17,d,a,b,c⟩ 1 1 1=B at BF;have QB:=zh F;clear F;go_enter Tryz.func30,Tryz.ntmps30;go_upto_region 1 with fail;generalize(w.alloc (Yg #[Yd Yf 17,.slice j d.length m,.slice k a.length n,.slice l b.length o,Yd Yf c] 37))=w1 at *
  go_wp2_with (first
   |(go_at_call 26;(with_reducible refine(WF.out w1 (Za u.out)).mono ?_);rintro e2 w2 ⟨rfl,g⟩;have i:=zh (f.out _ _ g u.out);obtain⟨⟨Q,R,S,T,U⟩,_⟩:=id i.out;clear g;cases W)
   |(go_at_call 27;(with_reducible refine(L.out w2 (Za i.out)).mono ?_);rintro e3 w3 ⟨rfl,h⟩;have q:=zh (f.out _ _ h i.out);obtain⟨⟨V,X,Y,Z,aa⟩,_⟩:=id q.out;clear h;cases N)
   |(go_at_call 29;(with_reducible refine(EG.out w3 (Za q.out)).mono ?_);rintro e4 w4 ⟨rfl,C⟩;have J:=zh (f.out _ _ C q.out);obtain⟨⟨aw,ax,ay,az,a1⟩,_⟩:=id J.out;clear C)
   |(go_at_call 28;(with_reducible refine(EF.out w4).mono ?_);rintro _ _ ⟨rfl,rfl⟩;cases E)
   |(go_at_call 58;(with_reducible refine(BF.out w4 (Za J.out)).mono ?_);rintro e5 w5 ⟨rfl,D⟩;have K:=zh (f.out _ _ D J.out);obtain⟨⟨a6,a7,a8,ba,bb⟩,_⟩:=id K.out;clear D;cases B))
  all_goals go_ret
  all_goals first
   |exact⟨Zbc (ZpF QW.out QN.out M.out QE.out QB.out),Za K.out⟩
   |exact⟨Zh,Za K.out⟩
   |exact⟨Zh,Za J.out⟩
   |exact⟨Zh,Za q.out⟩
   |exact⟨Zh,Za i.out⟩
   |exact⟨Zh,Za u.out⟩
 ·have tk:¬(0:Int)<(b.length:Int):=by omega
  have bd:(b.length:Int)<=0:=by omega
  go_enter Tryz.func30,Tryz.ntmps30;go_upto_region 1 with fail;generalize(w.alloc (Yg #[Yd Yf 17,.slice j d.length m,.slice k a.length n,.slice l b.length o,Yd Yf c] 37))=w1 at *
  go_wp2_with (first
   |(go_at_call 26;(with_reducible refine(WF.out w1 (Za u.out)).mono ?_);rintro e2 w2 ⟨rfl,g⟩;have i:=zh (f.out _ _ g u.out);obtain⟨⟨Q,R,S,T,U⟩,_⟩:=id i.out;clear g;cases W)
   |(go_at_call 27;(with_reducible refine(L.out w2 (Za i.out)).mono ?_);rintro e3 w3 ⟨rfl,h⟩;have q:=zh (f.out _ _ h i.out);obtain⟨⟨V,X,Y,Z,aa⟩,_⟩:=id q.out;clear h;cases N))
  all_goals go_ret
  all_goals first
   |exact⟨Zh,Za q.out⟩
   |exact⟨Zh,Za i.out⟩
   |exact⟨Zh,Za u.out⟩
theorem Zj8 (w:Yh) (v:Yi) (ns:List Nd) (va vb vc:Yi) (d:List (List UInt8)) (a b:List Int) (c:Int) (hN:Zi w v ns) (hx:ZS w ((va,vb,vc),⟨18,d,a,b,c⟩)) (hk:Zaw b ns.length) :
  Calls Tryz.prog 30 #[v,ndV ((va,vb,vc),⟨18,d,a,b,c⟩)] w fun e w'=>OkB (ZD ns ⟨18,d,a,b,c⟩=true) e/\Below w.heap.size w w':=by
 obtain⟨h1,h2,J⟩:=id hx;dsimp only at h1 h2 J;obtain⟨I,o,n,t,u⟩:=hd6 hN hx hk;obtain⟨j,p,rfl,_⟩:=h1;obtain⟨k,q,rfl,_,_,z⟩:=h2;have KL:=zh J.len;obtain⟨l,r,rfl,_⟩:=J;have R2:=zh z;unfold ndV at I o n t u⊢;dsimp only at I o n t u⊢;have f:=zh (Zcl w (Yd Yf 18) (.slice j d.length p) (.slice k a.length q) (.slice l b.length r) (Yd Yf c));have y:=Zcg w (Yd Yf 18) (.slice j d.length p) (.slice k a.length q) (.slice l b.length r) (Yd Yf c);have s:=zh y;obtain⟨⟨g0,g1,g2,g3,g4⟩,_⟩:=y;clear z hx hN hk;have WF:=zh (show ∀wr:Yh,Below w.heap.size w wr->Calls Tryz.prog 26 #[.agg #[Yd Yf 18,.slice j d.length p,.slice k a.length q,.slice l b.length r,Yd Yf c],Yd Yf 0,Yd Yf 0] wr fun e w'=>e=.returned (.bool (Zy ⟨18,d,a,b,c⟩ 0 0))/\Below wr.heap.size wr w' from fun wr A=>I.out wr A 0 0);generalize F:Zy ⟨18,d,a,b,c⟩ 0 0=W at WF;have QW:=zh F;clear F;have H:=zh (show ∀wr:Yh,Below w.heap.size w wr->Calls Tryz.prog 27 #[.agg #[Yd Yf 18,.slice j d.length p,.slice k a.length q,.slice l b.length r,Yd Yf c]] wr fun e w'=>e=.returned (.bool (Zai ⟨18,d,a,b,c⟩))/\Below wr.heap.size wr w' from fun wr A=>o.out wr A);generalize D:Zai ⟨18,d,a,b,c⟩=N at H;have QN:=zh D;clear D;by_cases qk:b.length=1
 ·have tk:((b.length:Int)==1)=true:=by rw[beq_iff_eq];omega
  have Z:=zh qk;clear qk;have EG:=zh (show ∀wr:Yh,Below w.heap.size w wr->Calls Tryz.prog 29 #[v,.agg #[Yd Yf 18,.slice j d.length p,.slice k a.length q,.slice l b.length r,Yd Yf c],Yd Yf 0] wr fun e w'=>e=.returned (Yd Yf (kdR ns ⟨18,d,a,b,c⟩ 0))/\Below wr.heap.size wr w' from fun wr A=>n.out wr A 0 (by have:=Z.out;omega));have Y:=zh (fun wr=>Zc5 wr (kdR ns ⟨18,d,a,b,c⟩ 0));generalize C:ZF (kdR ns ⟨18,d,a,b,c⟩ 0)=E at Y;have QE:=zh C;clear C;go_enter Tryz.func30,Tryz.ntmps30;go_upto_region 1 with fail;generalize(w.alloc (Yg #[Yd Yf 18,.slice j d.length p,.slice k a.length q,.slice l b.length r,Yd Yf c] 37))=V at *
  go_wp2_with (first
   |(go_at_call 26;(with_reducible refine(WF.out V (Za s.out)).mono ?_);rintro e2 X ⟨rfl,g⟩;have i:=zh (f.out _ _ g s.out);obtain⟨⟨K,L,M,O,P⟩,_⟩:=id i.out;clear g;cases W)
   |(go_at_call 27;(with_reducible refine(H.out X (Za i.out)).mono ?_);rintro e3 w3 ⟨rfl,h⟩;have m:=zh (f.out _ _ h i.out);obtain⟨⟨Q,R,S,T,U⟩,_⟩:=id m.out;clear h;cases N)
   |(go_at_call 29;(with_reducible refine(EG.out w3 (Za m.out)).mono ?_);rintro e4 w4 ⟨rfl,B⟩;have G:=zh (f.out _ _ B m.out);obtain⟨⟨ao,ap,aq,ar,au⟩,_⟩:=id G.out;clear B)
   |(go_at_call 28;(with_reducible refine(Y.out w4).mono ?_);rintro _ _ ⟨rfl,rfl⟩;cases E))
  all_goals go_ret
  all_goals first
   |exact⟨Zbc (ZnY QW.out QN.out Z.out QE.out),Za G.out⟩
   |exact⟨Zh,Za G.out⟩
   |exact⟨Zh,Za m.out⟩
   |exact⟨Zh,Za i.out⟩
   |exact⟨Zh,Za s.out⟩
 ·have tk:((b.length:Int)==1)=false:=by rw[beq_eq_false_iff_ne];omega
  go_enter Tryz.func30,Tryz.ntmps30;go_upto_region 1 with fail;generalize(w.alloc (Yg #[Yd Yf 18,.slice j d.length p,.slice k a.length q,.slice l b.length r,Yd Yf c] 37))=V at *
  go_wp2_with (first
   |(go_at_call 26;(with_reducible refine(WF.out V (Za s.out)).mono ?_);rintro e2 X ⟨rfl,g⟩;have i:=zh (f.out _ _ g s.out);obtain⟨⟨K,L,M,O,P⟩,_⟩:=id i.out;clear g;cases W)
   |(go_at_call 27;(with_reducible refine(H.out X (Za i.out)).mono ?_);rintro e3 w3 ⟨rfl,h⟩;have m:=zh (f.out _ _ h i.out);obtain⟨⟨Q,R,S,T,U⟩,_⟩:=id m.out;clear h;cases N))
  all_goals go_ret
  all_goals first
   |exact⟨Zh,Za m.out⟩
   |exact⟨Zh,Za i.out⟩
   |exact⟨Zh,Za s.out⟩
theorem ZlL (w:Yh) (v:Yi) (ns:List Nd) (Y Z vc:Yi) (d:List (List UInt8)) (a b:List Int) (c:Int) (V:Zi w v ns) (hx:ZS w ((Y,Z,vc),⟨19,d,a,b,c⟩)) (hk:Zaw b ns.length) :
  Calls Tryz.prog 30 #[v,ndV ((Y,Z,vc),⟨19,d,a,b,c⟩)] w fun e w'=>OkB (ZD ns ⟨19,d,a,b,c⟩=true) e/\Below w.heap.size w w':=by
 obtain⟨T,U,E⟩:=id hx;dsimp only at T U E;obtain⟨D,j,y,s,t⟩:=hd6 V hx hk;obtain⟨k,p,rfl,_⟩:=T;obtain⟨l,q,rfl,_,_,z⟩:=U;have KL:=zh E.len;obtain⟨m,r,rfl,_⟩:=E;have R2:=zh z;unfold ndV at D j y s t⊢;dsimp only at D j y s t⊢;have i:=zh (Zcl w (Yd Yf 19) (.slice k d.length p) (.slice l a.length q) (.slice m b.length r) (Yd Yf c));have u:=Zcg w (Yd Yf 19) (.slice k d.length p) (.slice l a.length q) (.slice m b.length r) (Yd Yf c);have n:=zh u;obtain⟨⟨g0,g1,g2,g3,g4⟩,_⟩:=u;clear z hx V hk;have WF:=zh (show ∀wr:Yh,Below w.heap.size w wr->Calls Tryz.prog 26 #[.agg #[Yd Yf 19,.slice k d.length p,.slice l a.length q,.slice m b.length r,Yd Yf c],Yd Yf 0,Yd Yf 0] wr fun e w'=>e=.returned (.bool (Zy ⟨19,d,a,b,c⟩ 0 0))/\Below wr.heap.size wr w' from fun wr F=>D.out wr F 0 0);generalize B:Zy ⟨19,d,a,b,c⟩ 0 0=W at WF;have QW:=zh B;clear B;have C:=zh (show ∀wr:Yh,Below w.heap.size w wr->Calls Tryz.prog 27 #[.agg #[Yd Yf 19,.slice k d.length p,.slice l a.length q,.slice m b.length r,Yd Yf c]] wr fun e w'=>e=.returned (.bool (Zai ⟨19,d,a,b,c⟩))/\Below wr.heap.size wr w' from fun wr F=>j.out wr F);generalize A:Zai ⟨19,d,a,b,c⟩=N at C;have QN:=zh A;clear A;by_cases X:b.length=0
 ·have tk:((b.length:Int)==0)=true:=by rw[beq_iff_eq];omega
  have QK:=zh X;clear X;go_enter Tryz.func30,Tryz.ntmps30;go_upto_region 1 with fail;generalize(w.alloc (Yg #[Yd Yf 19,.slice k d.length p,.slice l a.length q,.slice m b.length r,Yd Yf c] 37))=R at *
  go_wp2_with (first
   |(go_at_call 26;(with_reducible refine(WF.out R (Za n.out)).mono ?_);rintro e2 S ⟨rfl,f⟩;have h:=zh (i.out _ _ f n.out);obtain⟨⟨G,H,I,J,K⟩,_⟩:=id h.out;clear f;cases W)
   |(go_at_call 27;(with_reducible refine(C.out S (Za h.out)).mono ?_);rintro e3 w3 ⟨rfl,g⟩;have o:=zh (i.out _ _ g h.out);obtain⟨⟨L,M,O,P,Q⟩,_⟩:=id o.out;clear g;cases N))
  all_goals go_ret
  all_goals first
   |exact⟨Zbc (ZqF QW.out QN.out QK.out),Za o.out⟩
   |exact⟨Zh,Za o.out⟩
   |exact⟨Zh,Za h.out⟩
   |exact⟨Zh,Za n.out⟩
 ·have tk:((b.length:Int)==0)=false:=by rw[beq_eq_false_iff_ne];omega
  go_enter Tryz.func30,Tryz.ntmps30;go_upto_region 1 with fail;generalize(w.alloc (Yg #[Yd Yf 19,.slice k d.length p,.slice l a.length q,.slice m b.length r,Yd Yf c] 37))=R at *
  go_wp2_with (first
   |(go_at_call 26;(with_reducible refine(WF.out R (Za n.out)).mono ?_);rintro e2 S ⟨rfl,f⟩;have h:=zh (i.out _ _ f n.out);obtain⟨⟨G,H,I,J,K⟩,_⟩:=id h.out;clear f;cases W)
   |(go_at_call 27;(with_reducible refine(C.out S (Za h.out)).mono ?_);rintro e3 w3 ⟨rfl,g⟩;have o:=zh (i.out _ _ g h.out);obtain⟨⟨L,M,O,P,Q⟩,_⟩:=id o.out;clear g;cases N))
  all_goals go_ret
  all_goals first
   |exact⟨Zh,Za o.out⟩
   |exact⟨Zh,Za h.out⟩
   |exact⟨Zh,Za n.out⟩
end
section
open Go.RowKit
theorem ZkR (w:Yh) (v:Yi) (ns:List Nd) (va vb vc:Yi) (h:List (List UInt8)) (a b:List Int) (g:Int) (hN:Zi w v ns) (hx:ZS w ((va,vb,vc),⟨7,h,a,b,g⟩)) (hk:Zaw b ns.length) :
  Calls Tryz.prog 30 #[v,ndV ((va,vb,vc),⟨7,h,a,b,g⟩)] w fun e w'=>OkB (ZD ns ⟨7,h,a,b,g⟩=true) e/\Below w.heap.size w w':=by
 obtain⟨h1,h2,h3⟩:=id hx;dsimp only at h1 h2 h3;obtain⟨Y,p,o,B,C⟩:=hd6 hN hx hk;obtain⟨r,u,rfl,_⟩:=h1;obtain⟨s,y,rfl,_,_,E⟩:=h2;have KL:=zh h3.len;obtain⟨t,A,rfl,_⟩:=h3;have R2:=zh E;unfold ndV at Y p o B C⊢;dsimp only at Y p o B C⊢;have m:=zh (Zcl w (Yd Yf 7) (.slice r h.length u) (.slice s a.length y) (.slice t b.length A) (Yd Yf g));have D:=Zcg w (Yd Yf 7) (.slice r h.length u) (.slice s a.length y) (.slice t b.length A) (Yd Yf g);have j:=zh D;obtain⟨⟨g0,g1,g2,g3,g4⟩,_⟩:=D;clear E hx hN hk;go_enter Tryz.func30,Tryz.ntmps30;go_upto_region 1 with fail;generalize(w.alloc (Yg #[Yd Yf 7,.slice r h.length u,.slice s a.length y,.slice t b.length A,Yd Yf g] 37))=w1 at *;go_wp2_with fail;go_loopg [6] (b.length) (fun gk vi wr=>∃i:Nat,vi=Yd Yf i/\i<=b.length/\gk=b.length-i/\Zam ns (b.take i) ZcE=true/\(wr.cell? ⟨w.heap.size,0,Yb⟩=Ya (Yd Yf 7)/\wr.cell? ⟨w.heap.size,1,Yb⟩=Ya (.slice r h.length u)/\wr.cell? ⟨w.heap.size,2,Yb⟩=Ya (.slice s a.length y)/\wr.cell? ⟨w.heap.size,3,Yb⟩=Ya (.slice t b.length A)/\wr.cell? ⟨w.heap.size,4,Yb⟩=Ya (Yd Yf g))/\Below w.heap.size w wr)
 case atStart=>exact⟨0,rfl,Nat.zero_le _,rfl,rfl,j.out⟩
 case round=>
  clear j g0 g1 g2 g3 g4;obtain⟨i,rfl,hi,q,c,hS⟩:=hrel;have j:=zh hS;obtain⟨⟨g0,g1,g2,g3,g4⟩,_⟩:=hS;by_cases G:i=b.length
  ·have e:b.take i=b:=by rw[G];exact List.take_length
   rw[e]at c;have HA:=zh c;have ti:¬(i:Int)<(b.length:Int):=by omega
   clear e c q;have NF:=zh (show ∀wr:Yh,Below w.heap.size w wr->Calls Tryz.prog 27 #[.agg #[Yd Yf 7,.slice r h.length u,.slice s a.length y,.slice t b.length A,Yd Yf g]] wr fun e w'=>e=.returned (.bool (Zai ⟨7,h,a,b,g⟩))/\Below wr.heap.size wr w' from fun wr hb=>p.out wr hb);generalize H:Zai ⟨7,h,a,b,g⟩=N at NF;have QN:=zh H;clear H;have WF:=zh (show ∀wr:Yh,Below w.heap.size w wr->Calls Tryz.prog 26 #[.agg #[Yd Yf 7,.slice r h.length u,.slice s a.length y,.slice t b.length A,Yd Yf g],Yd Yf 0,Yd Yf 0] wr fun e w'=>e=.returned (.bool (Zy ⟨7,h,a,b,g⟩ 0 0))/\Below wr.heap.size wr w' from fun wr hb=>Y.out wr hb 0 0);generalize I:Zy ⟨7,h,a,b,g⟩ 0 0=W at WF;have QW:=zh I;clear I
   go_wp2_with (first
    |(go_at_call 27;(with_reducible refine(NF.out wr (Za j.out)).mono ?_);rintro e2 R ⟨rfl,d⟩;have l:=zh (m.out _ _ d j.out);obtain⟨⟨K,L,M,O,P⟩,_⟩:=id l.out;clear d;cases N)
    |(go_at_call 26;(with_reducible refine(WF.out R (Za l.out)).mono ?_);rintro e3 w3 ⟨rfl,F⟩;have T:=zh (m.out _ _ F l.out);obtain⟨⟨a1,a6,a7,a8,ba⟩,_⟩:=id T.out;clear F;cases W))
   all_goals go_ret
   all_goals first
    |exact⟨Zbc (ZpC HA.out QN.out QW.out),Za T.out⟩
    |exact⟨Zh,Za T.out⟩
    |exact⟨Zh,Za l.out⟩
    |exact⟨Zh,Za j.out⟩
  ·have n:i<b.length:=by omega
   obtain⟨z,J⟩:∃z,b[i]? = Ya z:=⟨_,Ym n⟩
   have Q:=Zcr (f:=fun k=>ZcE (Zp ns k)) J c;have kk:kdR ns ⟨7,h,a,b,g⟩ i=Zp ns z:=by unfold kdR;dsimp only;rw[Zb9 J]
   have U:=zh (fun(wz:Yh) (J:Below w.heap.size w wz)=>o.out wz J i n);rw[kk]at U;have ti:(i:Int)<(b.length:Int):=by omega
   have bc:(0:Int)<=(i:Int):=by omega
   have wk:IntKind.i64.wrap ((i:Int)+1)=(i:Int)+1:=IntWalk.i64_in _ (by have:=KL.out;unfold maxLen at this;omega);have S:=zh (zi n (zi q Q));clear q Q J c kk G n hi;generalize Zp ns z=Z at *;have V:=zh (fun wr=>Zpn wr Z);generalize hq:ZcE Z=X at V;have TZ:=zh hq;clear hq;cases X
   ·go_wp2_with (first
     |(go_at_call 29;(with_reducible refine(U.out wr (Za j.out)).mono ?_);rintro e2 R ⟨rfl,d⟩;have l:=zh (m.out _ _ d j.out);obtain⟨⟨K,L,M,O,P⟩,_⟩:=id l.out;clear d)
     |(go_at_call 57;(with_reducible refine(V.out R).mono ?_);rintro _ _ ⟨rfl,rfl⟩))
    go_ret;exact⟨Zh,Za l.out⟩
   ·go_wp2_with (first
     |(go_at_call 29;(with_reducible refine(U.out wr (Za j.out)).mono ?_);rintro e2 R ⟨rfl,d⟩;have l:=zh (m.out _ _ d j.out);obtain⟨⟨K,L,M,O,P⟩,_⟩:=id l.out;clear d)
     |(go_at_call 57;(with_reducible refine(V.out R).mono ?_);rintro _ _ ⟨rfl,rfl⟩))
    go_roundg (b.length-(i+1))
    case measure=>have:=S.out;omega
    case rel=>exact⟨i+1,by push_cast;rfl,by have:=S.out;omega,rfl,S.out.2.2.trans (TZ.out),l.out⟩
theorem Zo7 (w:Yh) (v:Yi) (ns:List Nd) (va vb vc:Yi) (h:List (List UInt8)) (a b:List Int) (g:Int) (hN:Zi w v ns) (hx:ZS w ((va,vb,vc),⟨11,h,a,b,g⟩)) (hk:Zaw b ns.length) :
  Calls Tryz.prog 30 #[v,ndV ((va,vb,vc),⟨11,h,a,b,g⟩)] w fun e w'=>OkB (ZD ns ⟨11,h,a,b,g⟩=true) e/\Below w.heap.size w w':=by
 obtain⟨h1,h2,V⟩:=id hx;dsimp only at h1 h2 V;obtain⟨U,p,o,B,C⟩:=hd6 hN hx hk;obtain⟨r,u,rfl,_⟩:=h1;obtain⟨s,y,rfl,_,_,E⟩:=h2;have KL:=zh V.len;obtain⟨t,A,rfl,_⟩:=V;have R2:=zh E;unfold ndV at U p o B C⊢;dsimp only at U p o B C⊢;have m:=zh (Zcl w (Yd Yf 11) (.slice r h.length u) (.slice s a.length y) (.slice t b.length A) (Yd Yf g));have D:=Zcg w (Yd Yf 11) (.slice r h.length u) (.slice s a.length y) (.slice t b.length A) (Yd Yf g);have j:=zh D;obtain⟨⟨g0,g1,g2,g3,g4⟩,_⟩:=D;clear E hx hN hk;go_enter Tryz.func30,Tryz.ntmps30;go_upto_region 1 with fail;generalize(w.alloc (Yg #[Yd Yf 11,.slice r h.length u,.slice s a.length y,.slice t b.length A,Yd Yf g] 37))=w1 at *;go_wp2_with fail;go_loopg [6] (b.length) (fun gk vi wr=>∃i:Nat,vi=Yd Yf i/\i<=b.length/\gk=b.length-i/\Zam ns (b.take i) (isB [12])=true/\(wr.cell? ⟨w.heap.size,0,Yb⟩=Ya (Yd Yf 11)/\wr.cell? ⟨w.heap.size,1,Yb⟩=Ya (.slice r h.length u)/\wr.cell? ⟨w.heap.size,2,Yb⟩=Ya (.slice s a.length y)/\wr.cell? ⟨w.heap.size,3,Yb⟩=Ya (.slice t b.length A)/\wr.cell? ⟨w.heap.size,4,Yb⟩=Ya (Yd Yf g))/\Below w.heap.size w wr)
 case atStart=>exact⟨0,rfl,Nat.zero_le _,rfl,rfl,j.out⟩
 case round=>
  clear j g0 g1 g2 g3 g4;obtain⟨i,rfl,hi,q,c,hS⟩:=hrel;have j:=zh hS;obtain⟨⟨g0,g1,g2,g3,g4⟩,_⟩:=hS;by_cases G:i=b.length
  ·have e:b.take i=b:=by rw[G];exact List.take_length
   rw[e]at c;have HA:=zh c;have ti:¬(i:Int)<(b.length:Int):=by omega
   clear e c q;have NF:=zh (show ∀wr:Yh,Below w.heap.size w wr->Calls Tryz.prog 27 #[.agg #[Yd Yf 11,.slice r h.length u,.slice s a.length y,.slice t b.length A,Yd Yf g]] wr fun e w'=>e=.returned (.bool (Zai ⟨11,h,a,b,g⟩))/\Below wr.heap.size wr w' from fun wr X=>p.out wr X);generalize H:Zai ⟨11,h,a,b,g⟩=N at NF;have QN:=zh H;clear H;have WF:=zh (show ∀wr:Yh,Below w.heap.size w wr->Calls Tryz.prog 26 #[.agg #[Yd Yf 11,.slice r h.length u,.slice s a.length y,.slice t b.length A,Yd Yf g],Yd Yf 2,Yd Yf 2] wr fun e w'=>e=.returned (.bool (Zy ⟨11,h,a,b,g⟩ 2 2))/\Below wr.heap.size wr w' from fun wr X=>U.out wr X 2 2);generalize I:Zy ⟨11,h,a,b,g⟩ 2 2=W at WF;have QW:=zh I;clear I
   go_wp2_with (first
    |(go_at_call 27;(with_reducible refine(NF.out wr (Za j.out)).mono ?_);rintro e2 w2 ⟨rfl,d⟩;have l:=zh (m.out _ _ d j.out);obtain⟨⟨K,L,M,O,P⟩,_⟩:=id l.out;clear d;cases N)
    |(go_at_call 26;(with_reducible refine(WF.out w2 (Za l.out)).mono ?_);rintro e3 w3 ⟨rfl,F⟩;have S:=zh (m.out _ _ F l.out);obtain⟨⟨az,a1,a6,a7,a8⟩,_⟩:=id S.out;clear F;cases W))
   all_goals go_ret
   all_goals first
    |exact⟨Zbc (Zsc HA.out QN.out QW.out),Za S.out⟩
    |exact⟨Zh,Za S.out⟩
    |exact⟨Zh,Za l.out⟩
    |exact⟨Zh,Za j.out⟩
  ·have n:i<b.length:=by omega
   obtain⟨z,J⟩:∃z,b[i]? = Ya z:=⟨_,Ym n⟩
   have Q:=Zcr (f:=fun k=>(isB [12]) (Zp ns k)) J c;have kk:kdR ns ⟨11,h,a,b,g⟩ i=Zp ns z:=by unfold kdR;dsimp only;rw[Zb9 J]
   have T:=zh (fun(wz:Yh) (J:Below w.heap.size w wz)=>o.out wz J i n);rw[kk]at T;have ti:(i:Int)<(b.length:Int):=by omega
   have bb:(0:Int)<=(i:Int):=by omega
   have wk:IntKind.i64.wrap ((i:Int)+1)=(i:Int)+1:=IntWalk.i64_in _ (by have:=KL.out;unfold maxLen at this;omega);have R:=zh (zi n (zi q Q));clear q Q J c kk G n hi;generalize Zp ns z=Z at *;cases z12:(Z==12)
   ·have Y:(Z != 12)=true:=by rw[bne,z12];rfl
    go_wp2_with (first
     |(go_at_call 29;(with_reducible refine(T.out wr (Za j.out)).mono ?_);rintro e2 w2 ⟨rfl,d⟩;have l:=zh (m.out _ _ d j.out);obtain⟨⟨K,L,M,O,P⟩,_⟩:=id l.out;clear d))
    go_ret;exact⟨Zh,Za l.out⟩
   ·have Y:(Z != 12)=false:=by rw[bne,z12];rfl
    have TZ:=zh (show isB [12] Z=true from by unfold isB;rw[List.contains_cons,z12];rfl)
    go_wp2_with (first
     |(go_at_call 29;(with_reducible refine(T.out wr (Za j.out)).mono ?_);rintro e2 w2 ⟨rfl,d⟩;have l:=zh (m.out _ _ d j.out);obtain⟨⟨K,L,M,O,P⟩,_⟩:=id l.out;clear d))
    go_roundg (b.length-(i+1))
    case measure=>have:=R.out;omega
    case rel=>exact⟨i+1,by push_cast;rfl,by have:=R.out;omega,rfl,R.out.2.2.trans (TZ.out),l.out⟩
end
end Go.Proofs.YtfbepcelkijgkaaGreatDoor
