import Derived.Lib.LaidTab
import Derived.Laws.Rows
import Derived.Stop.LaidErr
import Derived.MakeChecks
import Derived.Shelf.Strconv.Itoa0
import Derived.Shelf.Strconv.Itoa1
import Derived.Shelf.LaysM
import Derived.Shelf.Strconv.Itoa2
import Derived.Shelf.Strconv.Itoa3
import Derived.Shelf.Strconv.ParseIntEmpty
import Derived.Shelf.Strconv.Clone
import Derived.Shelf.Strconv.SyntaxError
import Derived.Shelf.LaysC
import Derived.Shelf.Strconv.ToError
import Derived.Shelf.Strconv.Lower
import Derived.Shelf.Strconv.ParseUint10
import Derived.Shelf.Strconv.ParseUint10Empty
import Derived.Shelf.Strconv.ParseUint10Any
import Derived.Shelf.Strconv.ParseInt10
import Derived.Shelf.Strconv.RangeError
import Derived.Shelf.Strconv.ToErrorRange
import Derived.Shelf.Strconv.ParseUintEmpty
import Derived.Shelf.Strconv.ParseUint10b64
import Derived.Shelf.Strconv.ParseUint10b32
import Derived.Shelf.Strconv.ParseUint10b16
import Derived.Shelf.Strconv.ParseUint10b8
import Derived.Shelf.Strconv.ParseUint10At
import Derived.Shelf.Strconv.ParseInt10At64
import Derived.Shelf.Strconv.ParseInt10At32
import Derived.Shelf.Strconv.ParseInt10At16
import Derived.Shelf.Strconv.ParseInt10At8
import Derived.Shelf.Strconv.ParseInt10All
import Derived.Shelf.Strconv.ParseIntPublic10
import Derived.Shelf.Strconv.ErrVarParseInt
import Derived.Shelf.Strings.Prefix
import Derived.Test.YtfdgeijnkkdplaaDoorProg
import Derived.Lib.PathFns
import Derived.Lib.IndexBytes
import Derived.Test.YtfdgeijnkkdplaaDoorQAB
set_option maxRecDepth 100000
set_option maxHeartbeats 8000000
namespace Go.Proofs.YtfdgeijnkkdplaaDoor
section
open Go.RowKit
def Ze3 {H:Type} (l:List (List UInt8)):DataW H:=.agg (l.map fun z=>.lit (.string z))
def Zaf (w:World) (g:Nat) (l:List (List UInt8)):Prop:=∃ t fr,w.heap[g]? = some (.cells (l.map txt).toArray t fr)
theorem Zaf.below {w w':World} {g:Nat} {l:List (List UInt8)} (h:Zaf w g l) (hb:Below w.heap.size w w'):Zaf w' g l:=by
 obtain ⟨t,fr,e⟩:=h
 have hg:g<w.heap.size:=by
  rcases Nat.lt_or_ge g w.heap.size with q | q
  ·exact q
  ·rw [Array.getElem?_eq_none q] at e;cases e
 exact ⟨t,fr,(hb.block g hg).trans e⟩
theorem ZfC {H:Type} {enc:TypeId×Value->H} {P:Program} {w:World} {base:Nat} {sp:Nat->Bool} {held:Bool} {fuel:Nat} {t e:TypeId} {n:Nat} {cs:List Value} {zs:List (List UInt8)} {p:List MemPlace}
  (ht:P.underlying t=some (.array n e)) (he:P.underlying e=some .string) (hce:P.cellsOf e=1) (hct:P.cellsOf t=n)
  (h:DataW.trod enc P w base sp held fuel t cs=some (Ze3 zs,p)):cs=zs.map txt:=by
 cases fuel with
 | zero=>simp [DataW.trod] at h
 | succ fuel=>
  simp only [DataW.trod,ht,hce,hct,Nat.mul_one] at h
  split at h
  ·rename_i hl
   obtain ⟨xs,hm,hx⟩:=Option.map_eq_some_iff.1 h
   have hxs:xs.map (·.1)=zs.map fun z=>(DataW.lit (.string z):DataW H):=by
    have:=congrArg Prod.fst hx
    simpa [Ze3] using this
   have hxl:xs.length=n:=by simpa using Lib.mapM_length hm
   have hzl:zs.length=n:=by
    have:=congrArg List.length hxs
    simp at this
    omega
   apply List.ext_getElem?
   intro i
   by_cases hi:i<n
   ·obtain ⟨b,hb,hf⟩:=Lib.mapM_at hm i i (by simp [hi])
    obtain ⟨z,hc,rfl,_⟩:=DataW.trod_string he hf
    have h1:cs[i]? = some (.string z):=by
     have:=congrArg (·[0]?) hc
     simpa [List.getElem?_take,List.getElem?_drop] using this
    have h2:(xs.map (·.1))[i]? = some (DataW.lit (.string z.data.toList):DataW H):=by simp [hb]
    rw [hxs] at h2
    simp only [List.getElem?_map,Option.map_eq_some_iff,DataW.lit.injEq,Lit.string.injEq] at h2
    obtain ⟨z',hz',rfl⟩:=h2
    simp [h1,hz',txt]
   ·rw [List.getElem?_eq_none (by omega),List.getElem?_eq_none (by simp;omega)]
  ·cases h
theorem Zb2 {P:Program} {W:World} {name:String} {zs:List (List UInt8)} {rest:List (String×DataW Unit)} {g:Nat} {t e:TypeId} {n:Nat}
  (hg:P.globalNamed name=some g) (hty:(P.globals[g]?).map (·.type)=some t) (ht:P.underlying t=some (.array n e)) (he:P.underlying e=some .string) (hce:P.cellsOf e=1) (hct:P.cellsOf t=n)
  (h:laidMet P ((name,Ze3 zs)::rest) W):Zaf W g zs:=by
 obtain ⟨ps,⟨g',t',cs,fuel,p,q,hg',ht',hvar,hd,_,_⟩,_⟩:=h
 obtain rfl:=Option.some.inj (hg.symm.trans hg')
 obtain rfl:=Option.some.inj (hty.symm.trans ht')
 have hc:=ZfC ht he hce hct hd
 simp only [World.var?,hg,Option.bind_some] at hvar
 split at hvar
 ·rename_i c ty fr hh
  have hvar:=Option.some.inj hvar
  subst hvar
  exact ⟨ty,fr,by rw [hh,<- hc]⟩
 ·cases hvar
def Zs:List (List UInt8):=[[112,114,111,116,111],[115,116,97,116,101],[102,105,110,97,108],[111,112],[102,110],[108,101,97,115,116],[97,116],[116,111],[105,110],[108,101,116],[111,112,101,110],[101,108,115,101],[100,111],[115,112,108,105,116],[99,97,108,108],[105,102],[119,104,105,108,101],[114,101,116,117,114,110],[101,120,105,116],[117,110,105,113,117,101],[102,117,108,108],[115,104,97,114,101],[105,109,109],[112,117,114,101]]
def Zk3 (w:World):Prop:=Zaf w 0 Zp/\Zaf w 3 Zs
theorem Zk3.below {w w':World} (h:Zk3 w) (hb:Below w.heap.size w w'):Zk3 w':=⟨h.1.below hb,h.2.below hb⟩
theorem Tryd.gSigns:Tryd.prog.globalNamed "ballcock/lex.signs"=some 0:=by kernel_rfl
theorem Tryd.gKeys:Tryd.prog.globalNamed "ballcock/lex.keywords"=some 3:=by kernel_rfl
theorem Tryd.gSignsType:(Tryd.prog.globals[0]?).map (·.type)=some 70:=by kernel_rfl
theorem Tryd.gKeysType:(Tryd.prog.globals[3]?).map (·.type)=some 87:=by kernel_rfl
theorem Tryd.cellsS:Tryd.prog.cellsOf 9=1:=by kernel_rfl
end
end Go.Proofs.YtfdgeijnkkdplaaDoor
namespace Go.Proofs
open Go.Shelf
def Tryd.laysM316_ren:Go.Shelf.Ren:=⟨fun | 316=>18 | n=>n,fun | 9=>9 | 3=>3 | 4=>4 | 37=>72 | 0=>0 | 127=>73 | 5=>5 | n=>n,fun | n=>n⟩
theorem Tryd.laysM316:Go.Proofs.LaysM.n316 Tryd.prog Tryd.laysM316_ren:={
 mixed:=by kernel_rfl
 f316:=Tryd.func18.trans (congrArg some (by kernel_rfl))
 t0:=Tryd.underlying0
 a0:=Tryd.isAgg0
 z0:=Tryd.sizeOf0
 v0:=Tryd.zeroValue0
 t3:=Tryd.underlying3
 a3:=Tryd.isAgg3
 z3:=Tryd.sizeOf3
 v3:=Tryd.zeroValue3
 t4:=Tryd.underlying4
 a4:=Tryd.isAgg4
 z4:=Tryd.sizeOf4
 v4:=Tryd.zeroValue4
 t9:=Tryd.underlying9
 a9:=Tryd.isAgg9
 z9:=Tryd.sizeOf9
 v9:=Tryd.zeroValue9
 t37:=Tryd.underlying72
 a37:=Tryd.isAgg72
 z37:=Tryd.sizeOf72
 v37:=Tryd.zeroValue72
 t127:=Tryd.underlying73
 a127:=Tryd.isAgg73
 z127:=Tryd.sizeOf73
 v127:=Tryd.zeroValue73
 t5:=Tryd.underlying5
 a5:=Tryd.isAgg5
 z5:=Tryd.sizeOf5
 v5:=Tryd.zeroValue5
 i0:=by kernel_rfl
 i3:=by kernel_rfl
 i4:=by kernel_rfl
 i5:=by kernel_rfl
 i9:=by kernel_rfl
 i37:=by kernel_rfl
 i127:=by kernel_rfl }
open Go.RowKit in
theorem Tryd.stringslite_Clone (s:ByteArray) (w:World) (hlim:s.size<=281474976710656) :
  Calls Tryd.prog 18 #[.string s] w fun e w'=>e=.returned (.string s)/\Below w.heap.size w w':=Any.stringslite_Clone Tryd.laysM316 s w hlim
def Tryd.laysC174_ren:Go.Shelf.Ren:=⟨fun | 174=>63 | 247=>71 | 245=>72 | 287=>75 | 279=>76 | 280=>77 | 281=>78 | 282=>79 | 321=>81 | 322=>82 | 316=>18 | 171=>84 | 205=>83 | 243=>87 | 246=>88 | 283=>89 | 284=>90 | 285=>91 | 286=>92 | 129=>94 | 317=>93 | 318=>95 | 319=>96 | 320=>97 | 337=>98 | 338=>99 | n=>n,fun | 9=>9 | 3=>3 | 2=>2 | 75=>89 | 85=>90 | 4=>4 | 167=>98 | 5=>5 | 53=>99 | 175=>100 | 46=>102 | 168=>103 | 37=>72 | 0=>0 | 210=>108 | 21=>21 | 127=>73 | 145=>113 | 143=>111 | 171=>115 | 173=>118 | 212=>122 | 51=>123 | 20=>20 | 213=>124 | 232=>128 | 233=>129 | 80=>75 | n=>n,fun | 15=>5 | 16=>6 | 17=>7 | 18=>8 | 19=>9 | n=>n⟩
theorem Tryd.laysC174:Go.Proofs.LaysC.n174 Tryd.prog Tryd.laysC174_ren:={
 mixed:=by kernel_rfl
 f129:=Tryd.func94.trans (congrArg some (by kernel_rfl))
 f171:=Tryd.func84.trans (congrArg some (by kernel_rfl))
 f174:=Tryd.func63.trans (congrArg some (by kernel_rfl))
 f205:=Tryd.func83.trans (congrArg some (by kernel_rfl))
 f243:=Tryd.func87.trans (congrArg some (by kernel_rfl))
 f245:=Tryd.func72.trans (congrArg some (by kernel_rfl))
 f246:=Tryd.func88.trans (congrArg some (by kernel_rfl))
 f247:=Tryd.func71.trans (congrArg some (by kernel_rfl))
 f279:=Tryd.func76.trans (congrArg some (by kernel_rfl))
 f280:=Tryd.func77.trans (congrArg some (by kernel_rfl))
 f281:=Tryd.func78.trans (congrArg some (by kernel_rfl))
 f282:=Tryd.func79.trans (congrArg some (by kernel_rfl))
 f283:=Tryd.func89.trans (congrArg some (by kernel_rfl))
 f284:=Tryd.func90.trans (congrArg some (by kernel_rfl))
 f285:=Tryd.func91.trans (congrArg some (by kernel_rfl))
 f286:=Tryd.func92.trans (congrArg some (by kernel_rfl))
 f287:=Tryd.func75.trans (congrArg some (by kernel_rfl))
 f316:=Tryd.func18.trans (congrArg some (by kernel_rfl))
 f317:=Tryd.func93.trans (congrArg some (by kernel_rfl))
 f318:=Tryd.func95.trans (congrArg some (by kernel_rfl))
 f319:=Tryd.func96.trans (congrArg some (by kernel_rfl))
 f320:=Tryd.func97.trans (congrArg some (by kernel_rfl))
 f321:=Tryd.func81.trans (congrArg some (by kernel_rfl))
 f322:=Tryd.func82.trans (congrArg some (by kernel_rfl))
 f337:=Tryd.func98.trans (congrArg some (by kernel_rfl))
 f338:=Tryd.func99.trans (congrArg some (by kernel_rfl))
 t0:=Tryd.underlying0
 a0:=Tryd.isAgg0
 z0:=Tryd.sizeOf0
 v0:=Tryd.zeroValue0
 t2:=Tryd.underlying2
 a2:=Tryd.isAgg2
 z2:=Tryd.sizeOf2
 v2:=Tryd.zeroValue2
 t3:=Tryd.underlying3
 a3:=Tryd.isAgg3
 z3:=Tryd.sizeOf3
 v3:=Tryd.zeroValue3
 t4:=Tryd.underlying4
 a4:=Tryd.isAgg4
 z4:=Tryd.sizeOf4
 v4:=Tryd.zeroValue4
 t5:=Tryd.underlying5
 a5:=Tryd.isAgg5
 z5:=Tryd.sizeOf5
 v5:=Tryd.zeroValue5
 t9:=Tryd.underlying9
 a9:=Tryd.isAgg9
 z9:=Tryd.sizeOf9
 v9:=Tryd.zeroValue9
 t20:=Tryd.underlying20
 a20:=Tryd.isAgg20
 z20:=Tryd.sizeOf20
 v20:=Tryd.zeroValue20
 t21:=Tryd.underlying21
 a21:=Tryd.isAgg21
 z21:=Tryd.sizeOf21
 v21:=Tryd.zeroValue21
 t37:=Tryd.underlying72
 a37:=Tryd.isAgg72
 z37:=Tryd.sizeOf72
 v37:=Tryd.zeroValue72
 t46:=Tryd.underlying102
 a46:=Tryd.isAgg102
 z46:=Tryd.sizeOf102
 v46:=Tryd.zeroValue102
 t51:=Tryd.underlying123
 a51:=Tryd.isAgg123
 z51:=Tryd.sizeOf123
 v51:=Tryd.zeroValue123
 t53:=Tryd.underlying99
 a53:=Tryd.isAgg99
 z53:=Tryd.sizeOf99
 v53:=Tryd.zeroValue99
 t75:=Tryd.underlying89
 a75:=Tryd.isAgg89
 z75:=Tryd.sizeOf89
 v75:=Tryd.zeroValue89
 t85:=Tryd.underlying90
 a85:=Tryd.isAgg90
 z85:=Tryd.sizeOf90
 v85:=Tryd.zeroValue90
 t127:=Tryd.underlying73
 a127:=Tryd.isAgg73
 z127:=Tryd.sizeOf73
 v127:=Tryd.zeroValue73
 t143:=Tryd.underlying111
 a143:=Tryd.isAgg111
 z143:=Tryd.sizeOf111
 v143:=Tryd.zeroValue111
 t145:=Tryd.underlying113
 a145:=Tryd.isAgg113
 z145:=Tryd.sizeOf113
 v145:=Tryd.zeroValue113
 t167:=Tryd.underlying98
 a167:=Tryd.isAgg98
 z167:=Tryd.sizeOf98
 v167:=Tryd.zeroValue98
 t168:=Tryd.underlying103
 a168:=Tryd.isAgg103
 z168:=Tryd.sizeOf103
 v168:=Tryd.zeroValue103
 t171:=Tryd.underlying115
 a171:=Tryd.isAgg115
 z171:=Tryd.sizeOf115
 v171:=Tryd.zeroValue115
 t173:=Tryd.underlying118
 a173:=Tryd.isAgg118
 z173:=Tryd.sizeOf118
 v173:=Tryd.zeroValue118
 t175:=Tryd.underlying100
 a175:=Tryd.isAgg100
 z175:=Tryd.sizeOf100
 v175:=Tryd.zeroValue100
 t210:=Tryd.underlying108
 a210:=Tryd.isAgg108
 z210:=Tryd.sizeOf108
 v210:=Tryd.zeroValue108
 t212:=Tryd.underlying122
 a212:=Tryd.isAgg122
 z212:=Tryd.sizeOf122
 v212:=Tryd.zeroValue122
 t213:=Tryd.underlying124
 a213:=Tryd.isAgg124
 z213:=Tryd.sizeOf124
 t232:=Tryd.underlying128
 a232:=Tryd.isAgg128
 z232:=Tryd.sizeOf128
 v232:=Tryd.zeroValue128
 t233:=Tryd.underlying129
 a233:=Tryd.isAgg129
 z233:=Tryd.sizeOf129
 v233:=Tryd.zeroValue129
 g15:=by kernel_rfl
 g16:=by kernel_rfl
 g17:=by kernel_rfl
 g18:=by kernel_rfl
 g19:=by kernel_rfl
 t80:=Tryd.underlying75
 a80:=Tryd.isAgg75
 z80:=Tryd.sizeOf75
 v80:=Tryd.zeroValue75
 i0:=by kernel_rfl
 i2:=by kernel_rfl
 i3:=by kernel_rfl
 i4:=by kernel_rfl
 i5:=by kernel_rfl
 i9:=by kernel_rfl
 i20:=by kernel_rfl
 i21:=by kernel_rfl
 i37:=by kernel_rfl
 i46:=by kernel_rfl
 i51:=by kernel_rfl
 i53:=by kernel_rfl
 i75:=by kernel_rfl
 i80:=by kernel_rfl
 i85:=by kernel_rfl
 i127:=by kernel_rfl
 i143:=by kernel_rfl
 i145:=by kernel_rfl
 i167:=by kernel_rfl
 i168:=by kernel_rfl
 i171:=by kernel_rfl
 i173:=by kernel_rfl
 i175:=by kernel_rfl
 i210:=by kernel_rfl
 i212:=by kernel_rfl
 i232:=by kernel_rfl
 i233:=by kernel_rfl
 m15:=by kernel_rfl
 m16:=by kernel_rfl
 m17:=by kernel_rfl
 m18:=by kernel_rfl
 m19:=by kernel_rfl
 c0:=by kernel_rfl
 c2:=by kernel_rfl
 c3:=by kernel_rfl
 c4:=by kernel_rfl
 c5:=by kernel_rfl
 c9:=by kernel_rfl
 c20:=by kernel_rfl
 c21:=by kernel_rfl
 c37:=by kernel_rfl
 c46:=by kernel_rfl
 c51:=by kernel_rfl
 c53:=by kernel_rfl
 c75:=by kernel_rfl
 c80:=by kernel_rfl
 c85:=by kernel_rfl
 c127:=by kernel_rfl
 c143:=by kernel_rfl
 c145:=by kernel_rfl
 c167:=by kernel_rfl
 c168:=by kernel_rfl
 c171:=by kernel_rfl
 c173:=by kernel_rfl
 c175:=by kernel_rfl
 c210:=by kernel_rfl
 c212:=by kernel_rfl
 c213:=by kernel_rfl
 c232:=by kernel_rfl
 c233:=by kernel_rfl }
open Go.RowKit in
theorem Tryd.strconv_ParseInt_10_at64_ok (s:ByteArray) (hmax:s.size<=9223372036854775806) (v:Int) (h:Lib.parseIntB 64 s.data.toList=.ok v) (w:World) :
  Calls Tryd.prog 63 #[.string s,.int .i64 10,.int .i64 64] w fun e w'=>e=.returned (.tuple #[.int .i64 v,.nilIface])/\(w'=w\/∃ t,w'=Lib.bytesWorld w 5 t):=Any.strconv_ParseInt_10_at64_ok Tryd.laysC174 s hmax v h w
open Go.RowKit in
theorem Tryd.strconv_ParseInt_10_at64_syntax_var (s:ByteArray) (hlim:s.size<=281474976710656) (h:Lib.parseIntB 64 s.data.toList=Lib.NumEnd.syntax) (tp:TypeId) (p:Value) (w:World) (hvar:w.var? Tryd.prog "strconv.ErrSyntax"=some #[.iface tp p]) :
  Calls Tryd.prog 63 #[.string s,.int .i64 10,.int .i64 64] w fun e w'=>∃ N,e=.returned (.tuple #[.int .i64 (0),.iface 103 (.pointer (some ⟨N,0,none⟩))])/\w.heap.size<=N/\w'.heap[N]? = some (.cells #[.string ⟨#[80,97,114,115,101,73,110,116]⟩,.string s,.iface tp p] 108 (0,0))/\Below w.heap.size w w':=Any.strconv_ParseInt_10_at64_syntax_var Tryd.laysC174 s hlim h tp p w hvar
def Tryd.lays99_ren:Go.Shelf.Ren:=⟨fun | 99=>30 | 206=>41 | n=>n,fun | 9=>9 | 4=>4 | 3=>3 | n=>n,fun | n=>n⟩
theorem Tryd.lays99:Go.Proofs.Lays.n99 Tryd.prog Tryd.lays99_ren:={
 mixed:=by kernel_rfl
 f99:=Tryd.func30.trans (congrArg some (by kernel_rfl))
 f206:=Tryd.func41.trans (congrArg some (by kernel_rfl))
 t3:=Tryd.underlying3
 a3:=Tryd.isAgg3
 z3:=Tryd.sizeOf3
 v3:=Tryd.zeroValue3
 t4:=Tryd.underlying4
 a4:=Tryd.isAgg4
 z4:=Tryd.sizeOf4
 v4:=Tryd.zeroValue4
 t9:=Tryd.underlying9
 a9:=Tryd.isAgg9
 z9:=Tryd.sizeOf9
 v9:=Tryd.zeroValue9 }
open Go.RowKit Go.Lib in
theorem Tryd.strings_HasPrefix (s p:ByteArray) (w:World) :
  Calls Tryd.prog 30 #[.string s,.string p] w fun e w'=>e=.returned (.bool (Lib.hasPrefix s.data.toList p.data.toList))/\w'=w:=Any.strings_HasPrefix Tryd.lays99 s p w
end Go.Proofs
namespace Go.Proofs.YtfdgeijnkkdplaaDoor
section
open Go.RowKit
theorem ZhP (s:ByteArray) (w:World) (hs:s.size<=maxLen) :
  Calls Tryd.prog 16 #[.string s] w (Zbx w (.int .i64 (Zt s.data.toList))):=by
 obtain ⟨z,hz⟩:∃ z,z=Zt s.data.toList:=⟨_,rfl⟩
 rw [<- hz]
 have HZ:=zh hz
 have HS:=zh hs
 unfold maxLen at hs
 clear hz
 go_enter Tryd.func16,Tryd.ntmps16
 go_wp2_with fail
 go_loopg [3] s.size (fun g v3 wr=>∃ k:Nat,v3=.int .i64 k/\k<=s.size/\g=s.size-k/\z=k+Zt (s.data.toList.drop k)/\wr=w)
 case atStart=>exact ⟨0,rfl,Nat.zero_le _,rfl,by rw [HZ.out];simp,rfl⟩
 case round=>
  obtain ⟨k,rfl,hk,hg,hall,rfl⟩:=hrel
  by_cases hlt:k<s.size
  ·have hb:=byte_at hlt
   rw [ZdH hb] at hall
   have i1:(k:Int)<(s.size:Int):=by omega
   have i2:(0:Int)<=(k:Int):=by omega
   have wk:IntKind.i64.wrap ((k:Int)+1)=(k:Int)+1:=IntWalk.i64_in _ (by omega)
   by_cases hbl:ZcD s[k]=true
   ·rw [Zd7 hbl] at hall
    have HA:=zh hall
    have HK:=zh (zi hlt hg)
    unfold ZcD at hbl
    simp only [Bool.or_eq_true,beq_iff_eq] at hbl
    clear hall hb hg
    rcases hbl with ((e | e) | e) | e
    all_goals
     have m:=congrArg UInt8.toNat e
     clear e
     go_wp2_with fail
     go_roundg (s.size-(k+1))
     case measure=>have:=HK.out;omega
     case rel=>exact ⟨k+1,by push_cast;rfl,by have:=HK.out;omega,rfl,by have:=HA.out;omega,rfl⟩
   ·have hbl:ZcD s[k]=false:=by simpa using hbl
    have hne:∀ d:UInt8,ZcD d=true->((s[k].toNat:Int)==(d.toNat:Int))=false:=fun d hd=>by
     have:s[k].toNat≠d.toNat:=fun q=>by rw [UInt8.toNat_inj.1 q,hd] at hbl;cases hbl
     simpa using fun q=>this (by omega)
    have n1:((s[k].toNat:Int)==32)=false:=hne 32 rfl
    have n2:((s[k].toNat:Int)==9)=false:=hne 9 rfl
    have n3:((s[k].toNat:Int)==10)=false:=hne 10 rfl
    have n4:((s[k].toNat:Int)==13)=false:=hne 13 rfl
    by_cases h35:s[k]=35
    ·have e1:Zac Zbj (s.data.toList.drop k)=Zac Zbj (s.data.toList.drop (k+1))+1:=Zc6 hb (by rw [h35];rfl)
     rw [h35,Zhc,List.drop_drop] at hall
     have le:=ZcT Zbj (s.data.toList.drop (k+1))
     rw [List.length_drop,Zbi] at le
     have sn:=fun w=>Zme (s.extract k s.size) w (by
      have:=HS.out
      rw [ByteArray.size_extract]
      omega)
     rw [Lib.extract_to_end,e1] at sn
     have m:=congrArg UInt8.toNat h35
     have n5:((s[k].toNat:Int)==35)=true:=by rw [m];rfl
     generalize Zac Zbj (s.data.toList.drop (k+1))=q0 at *
     obtain ⟨q,hq⟩:∃ q,q=q0+1:=⟨_,rfl⟩
     rw [<- hq] at sn
     have wq:IntKind.i64.wrap ((k:Int)+(q:Int))=(k:Int)+(q:Int):=IntWalk.i64_in _ (by omega)
     have HA:=zh hall
     have HK:=zh (zi hlt (zi hg (zi le hq)))
     have SN:=zh sn
     clear hall hb hg hbl hne h35 sn e1 le m hq
     go_wp2_with (go_at_call 25;(with_reducible refine (SN.out _).mono ?_);rintro e w1 ⟨rfl,rfl⟩)
     go_roundg (s.size-(k+q))
     case measure=>have:=HK.out;omega
     case rel=>exact ⟨k+q,by push_cast;rfl,by have:=HK.out;omega,rfl,by have:=HA.out;rw [show k+q=k+1+q0 by have:=HK.out;omega];omega,rfl⟩
    ·have n5:((s[k].toNat:Int)==35)=false:=by
      have:s[k].toNat≠(35:UInt8).toNat:=fun q=>h35 (UInt8.toNat_inj.1 q)
      simpa using fun q=>this (by show s[k].toNat=35;omega)
     rw [ZhO hbl (by simpa using h35)] at hall
     have HA:=zh hall
     clear hall hb hg hbl hne h35
     go_wp2_with fail
     go_ret
     exact ⟨Zce (by have:=HA.out;omega),rfl⟩
  ·obtain rfl:k=s.size:=by omega
   rw [Zk5 (Nat.le_refl _),Zd8] at hall
   have HA:=zh hall
   clear hg hk hlt hall
   go_wp2_with fail
   go_ret
   exact ⟨Zce (by have:=HA.out;omega),rfl⟩
end
end Go.Proofs.YtfdgeijnkkdplaaDoor
