import Derived.Test.YtaacbenikcbibabGreatDoorQBV
set_option maxRecDepth 100000
set_option maxHeartbeats 8000000
namespace Go.Proofs.YtaacbenikcbibabGreatDoor
section
open Go.RowKit
def szB (p:Pro):Bool:=
 decide (p.name.length<=140737488355328)&&decide (p.states.length<=80)&&decide (p.moves.length<=80)&&p.moves.all (fun m=>decide (m.outs.length<=80))&&p.states.all (fun s=>decide (s.name.length<=140737488355328))&&p.moves.all (fun m=>decide (m.op.length<=140737488355328)&&m.outs.all fun o=>decide (o.name.length<=140737488355328))
theorem Zig {p:Pro} (h:szB p=true):SzP p:=by
 unfold szB at h
 simp only [Bool.and_eq_true,decide_eq_true_eq,List.all_eq_true] at h
 obtain ⟨⟨⟨⟨⟨h1,h2⟩,h3⟩,h4⟩,h5⟩,h6⟩:=h
 exact ⟨h1,h2,h3,h4,h5,h6⟩
def ZeU (ns:List Nd) (j:Int):Bool:=
 (decide ((ZB ns j).kind≠2)||(decide (1<=(ZB ns j).words.length)&&decide (1<=(ZB ns j).nums.length)))&&(decide ((ZB ns j).kind≠3)||(decide (4<=(ZB ns j).words.length)&&decide ((ZB ns j).words.length % 2=0)&&decide ((ZB ns j).words.length<=1000)))
def inB (ks:List Int) (n:Nat):Bool:=ks.all fun k=>decide (0<=k)&&decide (k<(n:Int))
theorem Zic {ks:List Int} {n:Nat} (h:inB ks n=true):Zec ks n:=fun k hk=>by
 have:=List.all_eq_true.1 h k hk
 simpa using this
def ZeW (ns:List Nd) (n:Nd):Bool:=decide (1<=n.words.length)&&decide ((wdK n.words 0).length<=281474976710656)&&inB n.kids ns.length&&decide (n.kids.length<=1000)&&n.kids.all (ZeU ns)
theorem ZhY {ns:List Nd} {n:Nd} (h:ZeW ns n=true):ProtoOk ns n:=by
 unfold ZeW at h
 simp only [Bool.and_eq_true,decide_eq_true_eq,List.all_eq_true] at h
 obtain ⟨⟨⟨⟨h1,h2⟩,h3⟩,h4⟩,h5⟩:=h
 refine ⟨?_,Zic h3,h4,fun j hj hk=>?_,fun j hj hk=>?_⟩
 ·cases q:n.words with
  | nil=>rw [q] at h1;simp at h1
  | cons a r=>
   rw [q] at h2
   exact ⟨a,r,rfl,h2⟩
 ·have:=h5 j hj
  unfold ZeU at this
  simp only [Bool.and_eq_true,Bool.or_eq_true,decide_eq_true_eq] at this
  rcases this.1 with z | ⟨z1,z2⟩
  ·exact absurd hk z
  ·obtain ⟨a,r,e1⟩:=List.exists_cons_of_length_pos z1
   obtain ⟨b,q,e2⟩:=List.exists_cons_of_length_pos z2
   exact ⟨a,r,b,q,e1,e2⟩
 ·have:=h5 j hj
  unfold ZeU at this
  simp only [Bool.and_eq_true,Bool.or_eq_true,decide_eq_true_eq] at this
  rcases this.2 with z | ⟨⟨z1,z2⟩,z3⟩
  ·exact absurd hk z
  ·exact ⟨z1,z2,z3⟩
def Zgx (ns:List Nd):Bool:=
 ZbG ns&&decide (0<ns.length)&&inB (ZB ns 0).kids ns.length&&decide ((ZB ns 0).kids.length<=900)&&(ZB ns 0).kids.all fun j=>decide ((ZB ns j).kind≠1)||(ZeW ns (ZB ns j)&&szB (ZaM ns (ZB ns j)).pro)
theorem ZfO {ns:List Nd} (h:Zgx ns=true):TreeOk ns:=by
 unfold Zgx at h
 simp only [Bool.and_eq_true,decide_eq_true_eq,List.all_eq_true] at h
 obtain ⟨⟨⟨⟨h1,h2⟩,h3⟩,h4⟩,h5⟩:=h
 refine ⟨h1,h2,Zic h3,h4,fun j hj hk=>?_⟩
 have:=h5 j hj
 simp only [Bool.or_eq_true,Bool.and_eq_true,decide_eq_true_eq] at this
 rcases this with z | ⟨z1,z2⟩
 ·exact absurd hk z
 ·exact ⟨ZhY z1,Zig z2⟩
def exT:List Nd:=[⟨0,[],[],[1],0⟩,⟨1,[[80]],[],[2,3,4],0⟩,⟨2,[[65]],[0],[],0⟩,⟨2,[[90]],[1],[],0⟩,⟨3,[[101,110,100],[65],[111,107],[90]],[],[],0⟩]
theorem ZiW:TreeOk exT:=ZfO (by decide +kernel)
theorem ZcT:(Zap exT).ps.map (·.name)=[ZQ.name,Zw.name,ZS.name,[80]]/\(Zap exT).ds=[]:=by decide +kernel
end
section
open Go.RowKit
theorem ZfW (w:World) (B bk bm:Nat) (ps:List Pro) (al:List Nat) (h:BookS B w bk bm ps al) (h0:0<ps.length) (h1:ps.length<=1000) :
  Calls Tryz.prog 8 #[.pointer (some ⟨bk,0,none⟩)] w fun e w'=>∃ v,e=.returned v/\w'.ownsRow w.heap.size 9 1 v ps.length (ps.map fun p=>txt p.name)/\Below w.heap.size w w':=by
 obtain ⟨vn,k1,k2⟩:=h.box
 have CL:∃ (g cap:Nat),vn=.slice (some ⟨g,0,none⟩) ps.length cap/\Calls Tryz.prog 18 #[.slice (some ⟨g,0,none⟩) ps.length cap] w fun e w'=>∃ v',e=.returned v'/\w'.ownsRow w.heap.size 9 1 v' ps.length (((ps.map fun p=>(⟨p.name.toArray⟩:ByteArray)).take ps.length).map (Value.string))/\v'≠.slice none 0 0/\Below w.heap.size w w':=by
  obtain ⟨A,c,rfl⟩:=Zm k2
  obtain ⟨r1,r2,r3⟩:=Zab k2
  rcases k2.2 with ⟨q,z⟩ | ⟨g,cap,cur,q,_⟩
  ·omega
  ·injection q with q1 q2 q3
   subst q1 q3
   refine ⟨g,c,rfl,Tryz.slices_Clone_string g 0 ps.length c (ps.map fun p=>(⟨p.name.toArray⟩:ByteArray)) w (by simp) (by omega) fun j hj=>?_⟩
   obtain ⟨ad,ha,_,hc⟩:=r3.2 h0
   injection ha with ha
   subst ha
   have hj':j<ps.length:=by simpa using hj
   rw [show (ps.map fun p=>(⟨p.name.toArray⟩:ByteArray)).getD j ByteArray.empty=⟨ps[j].name.toArray⟩ from by simp [List.getD,hj']]
   have e:=hc j (txt ps[j].name) (by simp [hj'])
   rw [Addr.add_lit] at e
   exact e
 obtain ⟨g,cap,rfl,CL⟩:=CL
 have HC:=Lib.hid CL
 have c0:=k1.blk.cell 0
 simp only [List.getElem?_toArray,List.getElem?_cons_zero] at c0
 clear h k1 k2 CL
 go_enter Tryz.func8,Tryz.ntmps8
 go_wp2_with (go_at_call 18;(refine HC.out.mono ?_);rintro e w1 ⟨v',rfl,ho,_,hb⟩)
 refine bodyPost_ret (v:=v') (by simp [results,Tryz.results8,go_sem]) rfl ⟨v',rfl,?_,hb⟩
 rw [List.take_of_length_le (by simp),List.map_map] at ho
 exact ho
end
end Go.Proofs.YtaacbenikcbibabGreatDoor
