import Derived.Test.YtkongcicmajolaaGreatDoorRows
import Derived.WalkKit
import Derived.WalkSpells
import Derived.WalkLawsBesides
import Derived.IntWalk
import Derived.Lib.Hide
import Derived.WalkSmall
import Derived.Deep.QuietTactic
import Derived.BigQuiet
import Derived.Deep.LoopGhost
import Derived.Lib.Strings
import Derived.Lib.LaidTab
import Derived.Laws.Rows
import Derived.Stop.LaidErr
import Derived.MakeChecks
import Derived.Shelf.Strings.Builder1
import Derived.Shelf.Strings.Builder2
import Derived.Shelf.Strings.OnBuilder
import Derived.Shelf.Strings.BuilderF
import Derived.Shelf.Strings.BuilderK
import Derived.Shelf.Strings.Builder2Cap
import Derived.Shelf.Strconv.Itoa0
import Derived.Shelf.Strconv.Itoa1
import Derived.Shelf.LaysM
import Derived.Shelf.Strconv.Itoa2
import Derived.Shelf.Strconv.AppendUint10
import Derived.Shelf.Strconv.AppendInt10
import Derived.Shelf.Strconv.AppendIntPublic10
import Derived.Shelf.Bits.Mul64
import Derived.Shelf.Strings.BuilderCap
import Derived.Shelf.Slices.Turned
import Derived.Test.YtkongcicmajolaaGreatDoorProg
import Derived.Lib.PathFns
import Derived.Lib.IndexBytes
import Derived.OneCell
import Derived.StillTailTactics
import Derived.BigRegion
import Derived.Deep.RegionHeld3
import Derived.Deep.Cut
import Derived.Test.YtkongcicmajolaaGreatDoorQAA
import Derived.Test.YtkongcicmajolaaGreatDoorQAB
set_option maxRecDepth 100000
set_option maxHeartbeats 8000000
namespace Go.Proofs.YtkongcicmajolaaGreatDoor
section
open Go.RowKit
theorem ZmJ {k:IntKind} {a b:Int} (h:a=b):Ending.returned (.int k a)=.returned (.int k b):=by rw [h]
theorem Zca {a b:Bool} (h:a=b):Ending.returned (.bool a)=.returned (.bool b):=by rw [h]
def ZeS (w:World) (v:Value) (e:Ending) (w':World):Prop:=e=.returned v/\w=w'
theorem byte_at {s:ByteArray} {k:Nat} (h:k<s.size):s.data.toList[k]? = some s[k]:=by
 rw [List.getElem?_eq_getElem (by simpa using h)]
 rfl
theorem Zig {s:ByteArray} {k:Nat} (h:s.size<=k):s.data.toList.drop k=[]:=List.drop_eq_nil_of_le (by simpa using h)
theorem Zdm (s:ByteArray):s.data.toList.length=s.size:=by simp
theorem Zi0 (n:Nat) (w:World) :
  Calls Tryz.prog 105 #[.int .u8 n] w (ZeS w (.bool (Zga n))):=by
 unfold Zga
 go_enter Tryz.func105,Tryz.ntmps105
 go_wp2_with fail
 all_goals
  go_ret
  exact ⟨Zca (by
   rw [Bool.eq_iff_iff]
   simp only [Bool.or_eq_true,Bool.and_eq_true,decide_eq_true_eq]
   first | omega | (simp;omega)),rfl⟩
theorem Zoq (n:Nat) (w:World) :
  Calls Tryz.prog 127 #[.int .u8 n] w (ZeS w (.bool (Zfy n))):=by
 unfold Zfy
 go_enter Tryz.func127,Tryz.ntmps127
 go_wp2_with fail
 all_goals
  go_ret
  exact ⟨Zca (by
   rw [Bool.eq_iff_iff]
   simp only [Bool.and_eq_true,decide_eq_true_eq]
   first | omega | (simp;omega)),rfl⟩
theorem Zfl (n:Nat) (w:World) :
  Calls Tryz.prog 44 #[.int .u8 n] w (ZeS w (.bool (Zga n))):=by
 unfold Zga
 go_enter Tryz.func44,Tryz.ntmps44
 go_wp2_with fail
 all_goals
  go_ret
  exact ⟨Zca (by
   rw [Bool.eq_iff_iff]
   simp only [Bool.or_eq_true,Bool.and_eq_true,decide_eq_true_eq]
   first | omega | (simp;omega)),rfl⟩
theorem Zec (n:Nat) (w:World) :
  Calls Tryz.prog 45 #[.int .u8 n] w (ZeS w (.bool (Zfy n))):=by
 unfold Zfy
 go_enter Tryz.func45,Tryz.ntmps45
 go_wp2_with fail
 all_goals
  go_ret
  exact ⟨Zca (by
   rw [Bool.eq_iff_iff]
   simp only [Bool.and_eq_true,decide_eq_true_eq]
   first | omega | (simp;omega)),rfl⟩
theorem Zse (n:Nat) (w:World) :
  Calls Tryz.prog 107 #[.int .u8 n] w (ZeS w (.bool (Zga n||Zfy n))):=by
 have la:=fun w=>Zi0 n w
 have da:=fun w=>Zoq n w
 generalize Zga n=L at *
 generalize Zfy n=D at *
 cases L
 all_goals
  go_enter Tryz.func107,Tryz.ntmps107
  go_wp2_with (first
   | (go_at_call 105;(with_reducible refine (la _).mono ?_);rintro e w1 ⟨rfl,rfl⟩)
   | (go_at_call 127;(with_reducible refine (da _).mono ?_);rintro e w1 ⟨rfl,rfl⟩))
  go_ret
  exact ⟨rfl,rfl⟩
theorem Zry (c:UInt8):(Zga c.toNat||Zfy c.toNat)=Za3 c:=rfl
theorem Ze7 (c:UInt8):Zfy c.toNat=ZaU c:=rfl
theorem Zf5 (c:UInt8):Zga c.toNat=ZbS c:=rfl
theorem Zmq (c d:UInt8):decide (c.toNat=d.toNat)=(c==d):=by
 rw [Bool.eq_iff_iff]
 simp [UInt8.toNat_inj]
theorem Zk5 {c:UInt8} (h:Za3 c=true):ZbS c=true\/(ZbS c=false/\ZaU c=true):=by
 have e:Za3 c=(ZbS c||ZaU c):=rfl
 rw [e] at h
 generalize ZbS c=a at *
 generalize ZaU c=b at *
 clear e
 revert h
 revert a b
 decide
theorem ZoR {c:UInt8} (h:Za3 c=false):ZbS c=false/\ZaU c=false:=by
 have e:Za3 c=(ZbS c||ZaU c):=rfl
 rw [e] at h
 generalize ZbS c=a at *
 generalize ZaU c=b at *
 clear e
 revert h
 revert a b
 decide
theorem ZrQ (s:ByteArray) (w:World) (hs:s.size<=maxLen) :
  Calls Tryz.prog 106 #[.string s,.func (.func 107) #[] #[]] w (ZeS w (.int .i64 (Zap Za3 s.data.toList))):=by
 unfold maxLen at hs
 obtain ⟨z,hz⟩:∃ z,z=Zap Za3 s.data.toList:=⟨_,rfl⟩
 rw [<- hz]
 have HZ:=zh hz
 clear hz
 go_enter Tryz.func106,Tryz.ntmps106
 go_wp2_with fail
 go_loopg [5] s.size (fun g v5 wr=>∃ k:Nat,v5=.int .i64 k/\k<=s.size/\g=s.size-k/\z=k+Zap Za3 (s.data.toList.drop k)/\wr=w)
 case atStart=>exact ⟨0,rfl,Nat.zero_le _,rfl,by rw [HZ.out];simp,rfl⟩
 case round=>
  obtain ⟨k,rfl,hk,hg,hall,rfl⟩:=hrel
  have HA:=zh hall
  clear hall
  by_cases hlt:k<s.size
  ·have ca:=fun w=>Zse s[k].toNat w
   have ce:=Zry s[k]
   have hb:=byte_at hlt
   have HN:=zh (fun hp=>Zgi (p:=Za3) hb hp)
   have HY:=zh (fun hp=>ZdE (p:=Za3) hb hp)
   rw [ce] at ca
   have i1:(k:Int)<(s.size:Int):=by omega
   have i2:(0:Int)<=(k:Int):=by omega
   have wk:IntKind.i64.wrap ((k:Int)+1)=(k:Int)+1:=IntWalk.i64_in _ (by omega)
   have CA:=zh ca
   have HK:=zh (zi hlt hg)
   clear ca ce hb hg
   generalize Za3 s[k]=R at *
   cases R
   ·go_wp2_with (go_at_call 107;(with_reducible refine (CA.out _).mono ?_);rintro e w1 ⟨rfl,rfl⟩)
    go_ret
    exact ⟨ZmJ (by have:=HA.out;rw [HN.out trivial] at this;omega),rfl⟩
   ·go_wp2_with (go_at_call 107;(with_reducible refine (CA.out _).mono ?_);rintro e w1 ⟨rfl,rfl⟩)
    go_roundg (s.size-(k+1))
    case measure=>have:=HK.out;omega
    case rel=>exact ⟨k+1,by push_cast;rfl,by have:=HK.out;omega,rfl,by have:=HA.out;rw [HY.out trivial] at this;omega,rfl⟩
  ·obtain rfl:k=s.size:=by omega
   have HO:=zh (Zft (p:=Za3) (Nat.le_of_eq (Zdm s)))
   clear hg hk hlt
   go_wp2_with fail
   go_ret
   exact ⟨ZmJ (by have:=HA.out;rw [HO.out] at this;omega),rfl⟩
def inL (n:Nat) (l:List UInt8):Bool:=l.any fun c=>decide (c.toNat=n)
theorem ZoI (n:Nat) (s:ByteArray) (w:World) (hs:s.size<=maxLen) :
  Calls Tryz.prog 43 #[.int .u8 n,.string s] w (ZeS w (.bool (inL n s.data.toList))):=by
 unfold maxLen at hs
 obtain ⟨z,hz⟩:∃ z,z=inL n s.data.toList:=⟨_,rfl⟩
 rw [<- hz]
 have HZ:=zh hz
 clear hz
 go_enter Tryz.func43,Tryz.ntmps43
 go_wp2_with fail
 go_loopg [5] s.size (fun g v5 wr=>∃ k:Nat,v5=.int .i64 k/\k<=s.size/\g=s.size-k/\z=inL n (s.data.toList.drop k)/\wr=w)
 case atStart=>exact ⟨0,rfl,Nat.zero_le _,rfl,by rw [HZ.out];simp,rfl⟩
 case round=>
  obtain ⟨k,rfl,hk,hg,hall,rfl⟩:=hrel
  by_cases hlt:k<s.size
  ·have hall:z=(decide (s[k].toNat=n)||inL n (s.data.toList.drop (k+1))):=by
    rw [hall,ZeE (byte_at hlt)]
    rfl
   have HA:=zh hall
   clear hall
   have i1:(k:Int)<(s.size:Int):=by omega
   have i2:(0:Int)<=(k:Int):=by omega
   have wk:IntKind.i64.wrap ((k:Int)+1)=(k:Int)+1:=IntWalk.i64_in _ (by omega)
   have HK:=zh (zi hlt hg)
   clear hg
   by_cases hc:s[k].toNat=n
   ·go_wp2_with fail
    go_ret
    exact ⟨Zca (by rw [HA.out,decide_eq_true hc];rfl),rfl⟩
   ·have hc':((s[k].toNat:Int)==(n:Int))=false:=by simpa using fun e=>hc (by omega)
    have HC:=zh hc
    clear hc
    go_wp2_with fail
    go_roundg (s.size-(k+1))
    case measure=>have:=HK.out;omega
    case rel=>exact ⟨k+1,by push_cast;rfl,by have:=HK.out;omega,rfl,by rw [HA.out,decide_eq_false HC.out];rfl,rfl⟩
  ·obtain rfl:k=s.size:=by omega
   rw [Zig (Nat.le_refl _)] at hall
   have HA:=zh hall
   clear hg hk hlt hall
   go_wp2_with fail
   go_ret
   exact ⟨Zca (by rw [HA.out];rfl),rfl⟩
end
section
open Go.RowKit
def ZjI {H:Type} (l:List (List UInt8)):DataW H:=.agg (l.map fun z=>.lit (.string z))
def Zay (w:World) (g:Nat) (l:List (List UInt8)):Prop:=∃ t fr,w.heap[g]? = some (.cells (l.map txt).toArray t fr)
theorem Zay.below {w w':World} {g:Nat} {l:List (List UInt8)} (h:Zay w g l) (hb:Below w.heap.size w w'):Zay w' g l:=by
 obtain ⟨t,fr,e⟩:=h
 have hg:g<w.heap.size:=by
  rcases Nat.lt_or_ge g w.heap.size with q | q
  ·exact q
  ·rw [Array.getElem?_eq_none q] at e;cases e
 exact ⟨t,fr,(hb.block g hg).trans e⟩
theorem Zkn {H:Type} {enc:TypeId×Value->H} {P:Program} {w:World} {base:Nat} {sp:Nat->Bool} {held:Bool} {fuel:Nat} {t e:TypeId} {n:Nat} {cs:List Value} {zs:List (List UInt8)} {p:List MemPlace}
  (ht:P.underlying t=some (.array n e)) (he:P.underlying e=some .string) (hce:P.cellsOf e=1) (hct:P.cellsOf t=n)
  (h:DataW.trod enc P w base sp held fuel t cs=some (ZjI zs,p)):cs=zs.map txt:=by
 cases fuel with
 | zero=>simp [DataW.trod] at h
 | succ fuel=>
  simp only [DataW.trod,ht,hce,hct,Nat.mul_one] at h
  split at h
  ·rename_i hl
   obtain ⟨xs,hm,hx⟩:=Option.map_eq_some_iff.1 h
   have hxs:xs.map (·.1)=zs.map fun z=>(DataW.lit (.string z):DataW H):=by
    have:=congrArg Prod.fst hx
    simpa [ZjI] using this
   have hxl:xs.length=n:=by simpa using Lib.mapM_length hm
   have hzl:zs.length=n:=by
    have:=congrArg List.length hxs
    simp at this
    omega
   apply List.ext_getElem?
   intro i
   by_cases hi:i<n
   ·obtain ⟨b,hb,hf⟩:=Lib.mapM_at hm i i (by simp [hi])
    obtain ⟨z,hc,rfl,_⟩:=DataW.trod_string he hf
    have h1:cs[i]? = some (.string z):=by
     have:=congrArg (·[0]?) hc
     simpa [List.getElem?_take,List.getElem?_drop] using this
    have h2:(xs.map (·.1))[i]? = some (DataW.lit (.string z.data.toList):DataW H):=by simp [hb]
    rw [hxs] at h2
    simp only [List.getElem?_map,Option.map_eq_some_iff,DataW.lit.injEq,Lit.string.injEq] at h2
    obtain ⟨z',hz',rfl⟩:=h2
    simp [h1,hz',txt]
   ·rw [List.getElem?_eq_none (by omega),List.getElem?_eq_none (by simp;omega)]
  ·cases h
theorem Ze3 {P:Program} {W:World} {name:String} {zs:List (List UInt8)} {rest:List (String×DataW Unit)} {g:Nat} {t e:TypeId} {n:Nat}
  (hg:P.globalNamed name=some g) (hty:(P.globals[g]?).map (·.type)=some t) (ht:P.underlying t=some (.array n e)) (he:P.underlying e=some .string) (hce:P.cellsOf e=1) (hct:P.cellsOf t=n)
  (h:laidMet P ((name,ZjI zs)::rest) W):Zay W g zs:=by
 obtain ⟨ps,⟨g',t',cs,fuel,p,q,hg',ht',hvar,hd,_,_⟩,_⟩:=h
 obtain rfl:=Option.some.inj (hg.symm.trans hg')
 obtain rfl:=Option.some.inj (hty.symm.trans ht')
 have hc:=Zkn ht he hce hct hd
 simp only [World.var?,hg,Option.bind_some] at hvar
 split at hvar
 ·rename_i c ty fr hh
  have hvar:=Option.some.inj hvar
  subst hvar
  exact ⟨ty,fr,by rw [hh,<- hc]⟩
 ·cases hvar
def ZG:List (List UInt8):=[[112,114,111,116,111],[115,116,97,116,101],[102,105,110,97,108],[111,112],[102,110],[108,101,97,115,116],[97,116],[116,111],[105,110],[108,101,116],[111,112,101,110],[101,108,115,101],[100,111],[115,112,108,105,116],[99,97,108,108],[105,102],[119,104,105,108,101],[114,101,116,117,114,110],[101,120,105,116],[117,110,105,113,117,101],[102,117,108,108],[115,104,97,114,101],[105,109,109],[112,117,114,101]]
theorem Tryz.gKeys:Tryz.prog.globalNamed "ballcock/lex.keywords"=some 3:=by kernel_rfl
theorem Tryz.gKeysType:(Tryz.prog.globals[3]?).map (·.type)=some 130:=by kernel_rfl
theorem Tryz.cellsS:Tryz.prog.cellsOf 9=1:=by kernel_rfl
end
end Go.Proofs.YtkongcicmajolaaGreatDoor
namespace Go.Proofs
open Go.Shelf
def Tryz.lays156_ren:Go.Shelf.Ren:=⟨fun | 156=>89 | 165=>116 | 166=>117 | 169=>118 | 240=>130 | 241=>131 | 276=>138 | 277=>139 | n=>n,fun | 31=>33 | 9=>9 | 3=>3 | 4=>4 | 0=>0 | 20=>20 | 72=>123 | 76=>126 | 70=>121 | 37=>43 | 75=>125 | 127=>133 | 164=>141 | 5=>5 | 80=>93 | n=>n,fun | n=>n⟩
theorem Tryz.lays156:Go.Proofs.Lays.n156 Tryz.prog Tryz.lays156_ren:={
 mixed:=by kernel_rfl
 f156:=Tryz.func89.trans (congrArg some (by kernel_rfl))
 f165:=Tryz.func116.trans (congrArg some (by kernel_rfl))
 f166:=Tryz.func117.trans (congrArg some (by kernel_rfl))
 f169:=Tryz.func118.trans (congrArg some (by kernel_rfl))
 f240:=Tryz.func130.trans (congrArg some (by kernel_rfl))
 f241:=Tryz.func131.trans (congrArg some (by kernel_rfl))
 f276:=Tryz.func138.trans (congrArg some (by kernel_rfl))
 f277:=Tryz.func139.trans (congrArg some (by kernel_rfl))
 t0:=Tryz.underlying0
 a0:=Tryz.isAgg0
 z0:=Tryz.sizeOf0
 v0:=Tryz.zeroValue0
 t3:=Tryz.underlying3
 a3:=Tryz.isAgg3
 z3:=Tryz.sizeOf3
 v3:=Tryz.zeroValue3
 t4:=Tryz.underlying4
 a4:=Tryz.isAgg4
 z4:=Tryz.sizeOf4
 v4:=Tryz.zeroValue4
 t9:=Tryz.underlying9
 a9:=Tryz.isAgg9
 z9:=Tryz.sizeOf9
 v9:=Tryz.zeroValue9
 t20:=Tryz.underlying20
 a20:=Tryz.isAgg20
 z20:=Tryz.sizeOf20
 v20:=Tryz.zeroValue20
 t31:=Tryz.underlying33
 a31:=Tryz.isAgg33
 z31:=Tryz.sizeOf33
 v31:=Tryz.zeroValue33
 t37:=Tryz.underlying43
 a37:=Tryz.isAgg43
 z37:=Tryz.sizeOf43
 v37:=Tryz.zeroValue43
 t70:=Tryz.underlying121
 a70:=Tryz.isAgg121
 z70:=Tryz.sizeOf121
 v70:=Tryz.zeroValue121
 t72:=Tryz.underlying123
 a72:=Tryz.isAgg123
 z72:=Tryz.sizeOf123
 v72:=Tryz.zeroValue123
 t75:=Tryz.underlying125
 a75:=Tryz.isAgg125
 z75:=Tryz.sizeOf125
 v75:=Tryz.zeroValue125
 t76:=Tryz.underlying126
 a76:=Tryz.isAgg126
 z76:=Tryz.sizeOf126
 v76:=Tryz.zeroValue126
 t127:=Tryz.underlying133
 a127:=Tryz.isAgg133
 z127:=Tryz.sizeOf133
 v127:=Tryz.zeroValue133
 t164:=Tryz.underlying141
 a164:=Tryz.isAgg141
 z164:=Tryz.sizeOf141
 v164:=Tryz.zeroValue141 }
theorem Tryz.Builder_Extra_156:Builder.Extra Tryz.prog Tryz.lays156_ren:={
 sizeBuilder:=by kernel_rfl
 liesBuilder:=by kernel_rfl
 t5:=Tryz.underlying5
 a5:=Tryz.isAgg5
 z5:=Tryz.sizeOf5
 v5:=Tryz.zeroValue5
 infoByte:=by kernel_rfl
 cellsByte:=by kernel_rfl
 sizeByte:=by kernel_rfl
 neB5:=by decide }
open Go.RowKit in
theorem Tryz.strings_Join (bk o c:Nat) (xs:List ByteArray) (sep:ByteArray) (w:World) (hcells:∀ (j:Nat) x,xs[j]? = some x->w.cell? ⟨bk,o+j,none⟩=some (.string x)) (hbk:bk<w.heap.size) (hN:xs.length<=140737488355328) (hcap:xs.length<=c) (hlen:(Lib.join (xs.map (·.data.toList)) sep.data.toList).length<=140737488355328) :
  Calls Tryz.prog 89 #[.slice (some ⟨bk,o,none⟩) xs.length c,.string sep] w fun e w'=>e=.returned (.string ⟨(Lib.join (xs.map (·.data.toList)) sep.data.toList).toArray⟩)/\Below w.heap.size w w':=Any.strings_Join Tryz.lays156 Tryz.Builder_Extra_156 bk o c xs sep w hcells hbk hN hcap hlen
def Tryz.laysM176_ren:Go.Shelf.Ren:=⟨fun | 176=>77 | 249=>102 | 288=>126 | 283=>134 | 284=>135 | 285=>136 | 286=>137 | 129=>142 | 317=>141 | 318=>143 | 319=>144 | 320=>145 | 337=>147 | 338=>148 | n=>n,fun | 37=>43 | 2=>2 | 3=>3 | 53=>112 | 4=>4 | 9=>9 | 171=>136 | 0=>0 | 173=>139 | 212=>146 | 51=>109 | 5=>5 | 20=>20 | 213=>147 | 46=>95 | 232=>150 | 233=>151 | n=>n,fun | 17=>4 | 18=>6 | 19=>7 | n=>n⟩
theorem Tryz.laysM176:Go.Proofs.LaysM.n176 Tryz.prog Tryz.laysM176_ren:={
 mixed:=by kernel_rfl
 f129:=Tryz.func142.trans (congrArg some (by kernel_rfl))
 f176:=Tryz.func77.trans (congrArg some (by kernel_rfl))
 f249:=Tryz.func102.trans (congrArg some (by kernel_rfl))
 f283:=Tryz.func134.trans (congrArg some (by kernel_rfl))
 f284:=Tryz.func135.trans (congrArg some (by kernel_rfl))
 f285:=Tryz.func136.trans (congrArg some (by kernel_rfl))
 f286:=Tryz.func137.trans (congrArg some (by kernel_rfl))
 f288:=Tryz.func126.trans (congrArg some (by kernel_rfl))
 f317:=Tryz.func141.trans (congrArg some (by kernel_rfl))
 f318:=Tryz.func143.trans (congrArg some (by kernel_rfl))
 f319:=Tryz.func144.trans (congrArg some (by kernel_rfl))
 f320:=Tryz.func145.trans (congrArg some (by kernel_rfl))
 f337:=Tryz.func147.trans (congrArg some (by kernel_rfl))
 f338:=Tryz.func148.trans (congrArg some (by kernel_rfl))
 t0:=Tryz.underlying0
 a0:=Tryz.isAgg0
 z0:=Tryz.sizeOf0
 v0:=Tryz.zeroValue0
 t2:=Tryz.underlying2
 a2:=Tryz.isAgg2
 z2:=Tryz.sizeOf2
 v2:=Tryz.zeroValue2
 t3:=Tryz.underlying3
 a3:=Tryz.isAgg3
 z3:=Tryz.sizeOf3
 v3:=Tryz.zeroValue3
 t4:=Tryz.underlying4
 a4:=Tryz.isAgg4
 z4:=Tryz.sizeOf4
 v4:=Tryz.zeroValue4
 t5:=Tryz.underlying5
 a5:=Tryz.isAgg5
 z5:=Tryz.sizeOf5
 v5:=Tryz.zeroValue5
 t9:=Tryz.underlying9
 a9:=Tryz.isAgg9
 z9:=Tryz.sizeOf9
 v9:=Tryz.zeroValue9
 t20:=Tryz.underlying20
 a20:=Tryz.isAgg20
 z20:=Tryz.sizeOf20
 v20:=Tryz.zeroValue20
 t37:=Tryz.underlying43
 a37:=Tryz.isAgg43
 z37:=Tryz.sizeOf43
 v37:=Tryz.zeroValue43
 t46:=Tryz.underlying95
 a46:=Tryz.isAgg95
 z46:=Tryz.sizeOf95
 v46:=Tryz.zeroValue95
 t51:=Tryz.underlying109
 a51:=Tryz.isAgg109
 z51:=Tryz.sizeOf109
 v51:=Tryz.zeroValue109
 t53:=Tryz.underlying112
 a53:=Tryz.isAgg112
 z53:=Tryz.sizeOf112
 v53:=Tryz.zeroValue112
 t171:=Tryz.underlying136
 a171:=Tryz.isAgg136
 z171:=Tryz.sizeOf136
 v171:=Tryz.zeroValue136
 t173:=Tryz.underlying139
 a173:=Tryz.isAgg139
 z173:=Tryz.sizeOf139
 v173:=Tryz.zeroValue139
 t212:=Tryz.underlying146
 a212:=Tryz.isAgg146
 z212:=Tryz.sizeOf146
 v212:=Tryz.zeroValue146
 t213:=Tryz.underlying147
 a213:=Tryz.isAgg147
 z213:=Tryz.sizeOf147
 t232:=Tryz.underlying150
 a232:=Tryz.isAgg150
 z232:=Tryz.sizeOf150
 v232:=Tryz.zeroValue150
 t233:=Tryz.underlying151
 a233:=Tryz.isAgg151
 z233:=Tryz.sizeOf151
 v233:=Tryz.zeroValue151
 g17:=by kernel_rfl
 g18:=by kernel_rfl
 g19:=by kernel_rfl
 i0:=by kernel_rfl
 i2:=by kernel_rfl
 i3:=by kernel_rfl
 i4:=by kernel_rfl
 i5:=by kernel_rfl
 i9:=by kernel_rfl
 i20:=by kernel_rfl
 i37:=by kernel_rfl
 i46:=by kernel_rfl
 i51:=by kernel_rfl
 i53:=by kernel_rfl
 i171:=by kernel_rfl
 i173:=by kernel_rfl
 i212:=by kernel_rfl
 i232:=by kernel_rfl
 i233:=by kernel_rfl
 m17:=by kernel_rfl
 m18:=by kernel_rfl
 m19:=by kernel_rfl }
open Go.RowKit Go.Sort Go.Lib in
theorem Tryz.strconv_AppendInt_10 (B n:Nat) (i:Int) (h0:-9223372036854775808<=i) (h1:i<=9223372036854775807) (sv:Value) (xs:List Value) (w:World) (hown:w.ownsRow B 5 1 sv n xs) (hBw:B<=w.heap.size) (hlim:n+21<=140737488355328) (htab:Lib.TabBelow Tryz.prog B w "internal/strconv.uint64pow10" .u64 Lib.pow10Tab) :
  Calls Tryz.prog 77 #[sv,.int .i64 i,.int .i64 10] w fun e w'=>∃ v',e=.returned v'/\w'.ownsRow B 5 1 v' (n+(Lib.itoa i).length) (xs++Lib.byteCells (Lib.itoa i))/\Below B w w'/\Lib.OthersKept 5 none w w':=Any.strconv_AppendInt_10 Tryz.laysM176 B n i h0 h1 sv xs w hown hBw hlim htab
def Tryz.lays212_ren:Go.Shelf.Ren:=⟨fun | 212=>78 | 263=>103 | 264=>104 | n=>n,fun | 46=>95 | 51=>109 | 146=>110 | 53=>112 | 148=>113 | n=>n,fun | n=>n⟩
theorem Tryz.lays212:Go.Proofs.Lays.n212 Tryz.prog Tryz.lays212_ren:={
 mixed:=by kernel_rfl
 f212:=Tryz.func78.trans (congrArg some (by kernel_rfl))
 f263:=Tryz.func103.trans (congrArg some (by kernel_rfl))
 f264:=Tryz.func104.trans (congrArg some (by kernel_rfl))
 t46:=Tryz.underlying95
 a46:=Tryz.isAgg95
 z46:=Tryz.sizeOf95
 v46:=Tryz.zeroValue95
 t51:=Tryz.underlying109
 a51:=Tryz.isAgg109
 z51:=Tryz.sizeOf109
 v51:=Tryz.zeroValue109
 t53:=Tryz.underlying112
 a53:=Tryz.isAgg112
 z53:=Tryz.sizeOf112
 v53:=Tryz.zeroValue112
 t146:=Tryz.underlying110
 a146:=Tryz.isAgg110
 z146:=Tryz.sizeOf110
 v146:=Tryz.zeroValue110
 t148:=Tryz.underlying113
 a148:=Tryz.isAgg113
 z148:=Tryz.sizeOf113
 v148:=Tryz.zeroValue113 }
open Go.RowKit Go.Lib in
theorem Tryz.bits_Mul (x y:Nat) (hx:x<18446744073709551616) (hy:y<18446744073709551616) (w:World) :
  Calls Tryz.prog 78 #[.int .u64 x,.int .u64 y] w fun e w'=>e=.returned (.tuple #[.int .u64 ((x*y / 18446744073709551616:Nat):Int),.int .u64 ((x*y % 18446744073709551616:Nat):Int)])/\w'=w:=Any.bits_Mul Tryz.lays212 x y hx hy w
end Go.Proofs
namespace Go.Proofs.YtkongcicmajolaaGreatDoor
section
open Go.RowKit
theorem Zo2 {s:ByteArray} {c:UInt8} {r:List UInt8} (h:s.data.toList=c::r):s.toList.isEmpty=false:=by
 rw [Lib.toList_data,h]
 rfl
theorem Zmo {s:ByteArray} {c:UInt8} {r:List UInt8} (h:s.data.toList=c::r) (h0:0<s.size):s[0]=c:=by
 have:=byte_at h0
 rw [h] at this
 simpa using this.symm
end
section
open Go.RowKit
theorem Zay.grown {w w':World} {g:Nat} {l:List (List UInt8)} {row:Option Nat} (h:Zay w g l) (hg:w.grownBy w' row) (hne:row≠some g):Zay w' g l:=by
 obtain ⟨t,fr,e⟩:=h
 exact ⟨t,fr,(hg.block g (lt_of_block e) (fun q=>hne q.symm)).trans e⟩
theorem ZlL {a b c:World} {row:Option Nat} (h:a.grownBy b row) (k:b.grownBy c row):a.grownBy c row:=
 ⟨k.os.trans h.os,k.tape.trans h.tape,k.output.trans h.output,Nat.le_trans h.size k.size,fun i hi hne=>(k.block i (Nat.lt_of_lt_of_le hi h.size) hne).trans (h.block i hi hne)⟩
end
end Go.Proofs.YtkongcicmajolaaGreatDoor
