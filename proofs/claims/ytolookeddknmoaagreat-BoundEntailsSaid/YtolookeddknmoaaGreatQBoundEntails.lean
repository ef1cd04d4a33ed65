/-
  What is proved: the statement BoundEntails: which rows follow from others is as the document says, and a row that follows holds wherever these do, whatever the rows. It has no condition beside the row's own.
  (Template: by-name.py fills it; gen/plain.py writes it.)
-/
import Derived.Test.YtolookeddknmoaaGreatRows
import Derived.OpenShut
import Derived.LaidMore
import Derived.Stop.Joined
import Derived.Test.YtolookeddknmoaaGreatQBB
import Derived.Test.YtolookeddknmoaaGreatQBU
import Derived.Test.YtolookeddknmoaaGreatQCB
set_option maxRecDepth 100000
set_option maxHeartbeats 8000000
namespace Go.Proofs.YtolookeddknmoaaGreat
section
open Go.ChangeShapes Go.WideShapes Go.ChangeAt Go.RowKit Go.Joins
theorem boundentails_laidOut:laidOutB Tryz.prog=true:=by kernel_rfl
theorem boundentails_lifted (os:Os) (started:os.Started) (H:Type) (enc:TypeId×Value->H) :
  ReturnsInHanded {} Tryz.checked os 3 .any (Rows.boundEntailsSpec.pre6 enc Tryz.prog Tryz.f3 Rows.boundEntailsRow.domain false) (Rows.boundEntailsSpec.post enc Tryz.prog Tryz.f3 false true false false):=by
 refine returnsInHanded_of_change (C:=Tryz.checked) Tryz.own started (by kernel_rfl) Tryz.func3
  (ChangeSpec.witness6 (enc:=enc) (C:=Tryz.checked) false ⟨#[],#[.slice none 0 0,.agg #[.int .i64 0,.slice none 0 0,.int .i64 0,.int .i64 0]],[]⟩ 8 (by kernel_rfl) (by kernel_rfl) (by kernel_rfl) (by kernel_rfl)) ?_
 intro W base args ds gs before hval0 hW _ _
 have hval:∀ (j:Nat) t v,Tryz.f3.params[j]? = some t->args[j]? = some v->Value.okWide Tryz.prog W .any base t v:=hval0
 have hW':=hW
 obtain ⟨p,q,hA0,hV,rfl,_,_⟩:=hW
 have hA:DataW.TrodAll enc Tryz.prog W 0 (fun _=>true) true Tryz.f3.params.toList args.toList ds p:=hA0
 rw [Tryz.params3] at hA hval
 obtain ⟨v0,v1,d0,d1,p0,p1,rfl,rfl,rfl,h0,h1⟩:=trodAll_two hA
 obtain ⟨rfl,rfl⟩:=trodVars_none hV
 clear hA0 hval0
 simp only [List.append_nil] at hW'
 have g0:=h0
 obtain ⟨l0,r0,w0⟩:=Zop (hval 0 22 v0 rfl rfl) h0
 have g1:=h1
 obtain ⟨s1,r1,rfl,q1,w1⟩:=ZpG (hval 1 29 v1 rfl rfl) h1
 refine (ZkF Zme W v0 l0 r0 w0 s1 r1 q1 w1).mono fun r W' ⟨he,hb⟩=>?_
 subst he
 exact ⟨_,rfl,Zkk (pa:=p0++p1) (pv:=[]) hW' (fun _ _ _=>trodAll_mk1 (shut_bool Tryz.underlying4 _)) (fun sp hs=>trodAll_mk2 (WideElems.Trod_stays boundentails_laidOut (by kernel_rfl) (of_decide_eq_true (by kernel_rfl)) g0 (fun x hx=>hb.same (hW'.lt x (by simp [hx]))) (fun x hx=>hs x (by simp [hx]))) (WideElems.Trod_stays boundentails_laidOut (by kernel_rfl) (of_decide_eq_true (by kernel_rfl)) g1 (fun x hx=>hb.same (hW'.lt x (by simp [hx]))) (fun x hx=>hs x (by simp [hx])))) (fun _ _=>rfl) (by simp) hb (ok_one (by kernel_rfl) rfl (okWide_bool_mk Tryz.underlying4 _))⟩
theorem boundentails_holds:Rows.BoundEntailsSaid:=
 OpenClaim.holds_of_wide 3 Tryz.f3 rfl rfl rfl rfl rfl rfl rfl ⟨rfl,rfl,rfl,rfl,rfl⟩ rfl rfl rfl rfl rfl (by kernel_rfl) Tryz.func3 (by kernel_rfl)
  (of_decide_eq_true (by kernel_rfl)) (by unfold Func.isWrapper;first | (rw [if_pos (by decide +kernel)];kernel_rfl) | (rw [if_neg (by decide +kernel)];exact ⟨rfl,rfl⟩))
  (fun os started H enc _=>boundentails_lifted os started H enc)
#print axioms boundentails_holds
end
end Go.Proofs.YtolookeddknmoaaGreat
