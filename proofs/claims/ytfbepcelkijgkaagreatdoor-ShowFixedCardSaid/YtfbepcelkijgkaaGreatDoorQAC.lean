import Derived.Test.YtfbepcelkijgkaaGreatDoorRows
import Derived.WalkKit
import Derived.WalkSpells
import Derived.WalkLawsBesides
import Derived.IntWalk
import Derived.Lib.Hide
import Derived.WalkSmall
import Derived.Deep.QuietTactic
import Derived.BigQuiet
import Derived.Deep.LoopGhost
import Derived.Lib.Strings
import Derived.Lib.LaidTab
import Derived.Laws.Rows
import Derived.Stop.LaidErr
import Derived.MakeChecks
import Derived.Shelf.Strings.Builder1
import Derived.Shelf.Strings.Builder2
import Derived.Shelf.Strings.OnBuilder
import Derived.Shelf.Strings.BuilderF
import Derived.Shelf.Strings.BuilderK
import Derived.Shelf.Strings.Builder2Cap
import Derived.Shelf.Strconv.Itoa0
import Derived.Shelf.Strconv.Itoa1
import Derived.Shelf.LaysM
import Derived.Shelf.Strconv.Itoa2
import Derived.Shelf.Strconv.AppendUint10
import Derived.Shelf.Strconv.AppendInt10
import Derived.Shelf.Strconv.AppendIntPublic10
import Derived.Shelf.Bits.Mul64
import Derived.Shelf.Strings.BuilderCap
import Derived.Shelf.Slices.Turned
import Derived.Test.YtfbepcelkijgkaaGreatDoorProg
import Derived.Lib.PathFns
import Derived.Lib.IndexBytes
import Derived.Test.YtfbepcelkijgkaaGreatDoorQAA
import Derived.Test.YtfbepcelkijgkaaGreatDoorQAB
set_option maxRecDepth 100000
set_option maxHeartbeats 8000000
open Option renaming some → Ya
open Go.Value renaming int → Yd
open Go renaming World → Yh
namespace Go.Proofs.YtfbepcelkijgkaaGreatDoor
section
open Go.RowKit
theorem ZmJ {k:IntKind} {a b:Int} (h:a=b):Ending.returned (.int k a)=.returned (.int k b):=by rw[h]
theorem Zb6 {a b:Bool} (h:a=b):Ending.returned (.bool a)=.returned (.bool b):=by rw[h]
def ZeP (w:Yh) (v:Value) (e:Ending) (w':Yh):Prop:=e=.returned v/\w=w'
theorem byte_at {s:ByteArray} {k:Nat} (h:k<s.size):s.data.toList[k]? = Ya s[k]:=by rw[Ym (by simpa using h)];rfl
theorem Zig {s:ByteArray} {k:Nat} (h:s.size<=k):s.data.toList.drop k=[]:=List.drop_eq_nil_of_le (by simpa using h)
theorem Zdj (s:ByteArray):s.data.toList.length=s.size:=by simp
theorem Zi0 (n:Nat) (w:Yh) :
  Calls Tryz.prog 105 #[.int .u8 n] w (ZeP w (.bool (Zf8 n))):=by
 unfold Zf8;go_enter Tryz.func105,Tryz.ntmps105;go_wp2_with fail
 all_goals
  go_ret
  exact⟨Zb6 (by
   rw[Bool.eq_iff_iff];simp only[Bool.or_eq_true,Bool.and_eq_true,decide_eq_true_eq]
   first|omega|(simp;omega)),rfl⟩
theorem Zoq (n:Nat) (w:Yh) :
  Calls Tryz.prog 127 #[.int .u8 n] w (ZeP w (.bool (Zfx n))):=by
 unfold Zfx;go_enter Tryz.func127,Tryz.ntmps127;go_wp2_with fail
 all_goals
  go_ret
  exact⟨Zb6 (by
   rw[Bool.eq_iff_iff];simp only[Bool.and_eq_true,decide_eq_true_eq]
   first|omega|(simp;omega)),rfl⟩
theorem Zfj (n:Nat) (w:Yh) :
  Calls Tryz.prog 44 #[.int .u8 n] w (ZeP w (.bool (Zf8 n))):=by
 unfold Zf8;go_enter Tryz.func44,Tryz.ntmps44;go_wp2_with fail
 all_goals
  go_ret
  exact⟨Zb6 (by
   rw[Bool.eq_iff_iff];simp only[Bool.or_eq_true,Bool.and_eq_true,decide_eq_true_eq]
   first|omega|(simp;omega)),rfl⟩
theorem Zea (n:Nat) (w:Yh) :
  Calls Tryz.prog 45 #[.int .u8 n] w (ZeP w (.bool (Zfx n))):=by
 unfold Zfx;go_enter Tryz.func45,Tryz.ntmps45;go_wp2_with fail
 all_goals
  go_ret
  exact⟨Zb6 (by
   rw[Bool.eq_iff_iff];simp only[Bool.and_eq_true,decide_eq_true_eq]
   first|omega|(simp;omega)),rfl⟩
theorem Zsb (n:Nat) (w:Yh) :
  Calls Tryz.prog 107 #[.int .u8 n] w (ZeP w (.bool (Zf8 n||Zfx n))):=by
 have b:=fun w=>Zi0 n w;have a:=fun w=>Zoq n w;generalize Zf8 n=L at *;generalize Zfx n=D at *;cases L
 all_goals
  go_enter Tryz.func107,Tryz.ntmps107
  go_wp2_with (first
   |(go_at_call 105;(with_reducible refine(b _).mono ?_);rintro e c ⟨rfl,rfl⟩)
   |(go_at_call 127;(with_reducible refine(a _).mono ?_);rintro e c ⟨rfl,rfl⟩))
  go_ret;exact⟨rfl,rfl⟩
theorem Zrv (c:UInt8):(Zf8 c.toNat||Zfx c.toNat)=Za2 c:=rfl
theorem Ze5 (c:UInt8):Zfx c.toNat=ZaU c:=rfl
theorem Zf3 (c:UInt8):Zf8 c.toNat=ZbP c:=rfl
theorem Zmq (c d:UInt8):decide (c.toNat=d.toNat)=(c==d):=by rw[Bool.eq_iff_iff];simp[UInt8.toNat_inj]
theorem Zk5 {c:UInt8} (h:Za2 c=true):ZbP c=true\/(ZbP c=false/\ZaU c=true):=by have e:Za2 c=(ZbP c||ZaU c):=rfl;rw[e]at h;generalize ZbP c=a at *;generalize ZaU c=b at *;clear e;revert h;revert a b;decide
theorem ZoO {c:UInt8} (h:Za2 c=false):ZbP c=false/\ZaU c=false:=by have e:Za2 c=(ZbP c||ZaU c):=rfl;rw[e]at h;generalize ZbP c=a at *;generalize ZaU c=b at *;clear e;revert h;revert a b;decide
theorem ZrN (s:ByteArray) (w:Yh) (hs:s.size<=maxLen) :
  Calls Tryz.prog 106 #[.string s,.func (.func 107) #[] #[]] w (ZeP w (Yd .i64 (Zao Za2 s.data.toList))):=by
 unfold maxLen at hs;obtain⟨z,j⟩:∃z,z=Zao Za2 s.data.toList:=⟨_,rfl⟩
 rw[<-j];have t:=zh j;clear j;go_enter Tryz.func106,Tryz.ntmps106;go_wp2_with fail;go_loopg [5] s.size (fun g v5 wr=>∃k:Nat,v5=Yd .i64 k/\k<=s.size/\g=s.size-k/\z=k+Zao Za2 (s.data.toList.drop k)/\wr=w)
 case atStart=>exact⟨0,rfl,Nat.zero_le _,rfl,by rw[t.out];simp,rfl⟩
 case round=>
  obtain⟨k,rfl,hk,h,a,rfl⟩:=hrel;have c:=zh a;clear a;by_cases b:k<s.size
  ·have d:=fun w=>Zsb s[k].toNat w;have n:=Zrv s[k];have f:=byte_at b;have o:=zh (fun i=>Zgg (p:=Za2) f i);have r:=zh (fun i=>ZdC (p:=Za2) f i);rw[n]at d;have v:(k:Int)<(s.size:Int):=by omega
   have i2:(0:Int)<=(k:Int):=by omega
   have y:IntKind.i64.wrap ((k:Int)+1)=(k:Int)+1:=IntWalk.i64_in _ (by omega);have l:=zh d;have m:=zh (zi b h);clear d n f h;generalize Za2 s[k]=R at *;cases R
   ·go_wp2_with (go_at_call 107;(with_reducible refine(l.out _).mono ?_);rintro e u ⟨rfl,rfl⟩);go_ret;exact⟨ZmJ (by have:=c.out;rw[o.out trivial]at this;omega),rfl⟩
   ·go_wp2_with (go_at_call 107;(with_reducible refine(l.out _).mono ?_);rintro e u ⟨rfl,rfl⟩);go_roundg (s.size-(k+1))
    case measure=>have:=m.out;omega
    case rel=>exact⟨k+1,by push_cast;rfl,by have:=m.out;omega,rfl,by have:=c.out;rw[r.out trivial]at this;omega,rfl⟩
  ·obtain rfl:k=s.size:=by omega
   have q:=zh (Zfs (p:=Za2) (Nat.le_of_eq (Zdj s)));clear h hk b;go_wp2_with fail;go_ret;exact⟨ZmJ (by have:=c.out;rw[q.out]at this;omega),rfl⟩
def inL (n:Nat) (l:List UInt8):Bool:=l.any fun c=>decide (c.toNat=n)
theorem ZoF (n:Nat) (s:ByteArray) (w:Yh) (hs:s.size<=maxLen) :
  Calls Tryz.prog 43 #[.int .u8 n,.string s] w (ZeP w (.bool (inL n s.data.toList))):=by
 unfold maxLen at hs;obtain⟨z,f⟩:∃z,z=inL n s.data.toList:=⟨_,rfl⟩
 rw[<-f];have j:=zh f;clear f;go_enter Tryz.func43,Tryz.ntmps43;go_wp2_with fail;go_loopg [5] s.size (fun g v5 wr=>∃k:Nat,v5=Yd .i64 k/\k<=s.size/\g=s.size-k/\z=inL n (s.data.toList.drop k)/\wr=w)
 case atStart=>exact⟨0,rfl,Nat.zero_le _,rfl,by rw[j.out];simp,rfl⟩
 case round=>
  obtain⟨k,rfl,hk,d,a,rfl⟩:=hrel;by_cases b:k<s.size
  ·have a:z=(decide (s[k].toNat=n)||inL n (s.data.toList.drop (k+1))):=by rw[a,ZeC (byte_at b)];rfl
   have c:=zh a;clear a;have m:(k:Int)<(s.size:Int):=by omega
   have i2:(0:Int)<=(k:Int):=by omega
   have o:IntKind.i64.wrap ((k:Int)+1)=(k:Int)+1:=IntWalk.i64_in _ (by omega);have h:=zh (zi b d);clear d;by_cases hc:s[k].toNat=n
   ·go_wp2_with fail;go_ret;exact⟨Zb6 (by rw[c.out,decide_eq_true hc];rfl),rfl⟩
   ·have l:((s[k].toNat:Int)==(n:Int))=false:=by simpa using fun e=>hc (by omega)
    have i:=zh hc;clear hc;go_wp2_with fail;go_roundg (s.size-(k+1))
    case measure=>have:=h.out;omega
    case rel=>exact⟨k+1,by push_cast;rfl,by have:=h.out;omega,rfl,by rw[c.out,decide_eq_false i.out];rfl,rfl⟩
  ·obtain rfl:k=s.size:=by omega
   rw[Zig (Nat.le_refl _)]at a;have c:=zh a;clear d hk b a;go_wp2_with fail;go_ret;exact⟨Zb6 (by rw[c.out];rfl),rfl⟩
end
section
open Go.RowKit
def ZjI {H:Type} (l:List (List UInt8)):DataW H:=.agg (l.map fun z=>.lit (.string z))
def ZaI (w:Yh) (g:Nat) (l:List (List UInt8)):Prop:=∃t a,w.heap[g]? = Ya (.cells (l.map txt).toArray t a)
theorem ZaI.below {w w':Yh} {g:Nat} {l:List (List UInt8)} (h:ZaI w g l) (b:Below w.heap.size w w'):ZaI w' g l:=by
 obtain⟨t,a,e⟩:=h;have c:g<w.heap.size:=by
  rcases Nat.lt_or_ge g w.heap.size with q|q
  ·exact q
  ·rw[Array.getElem?_eq_none q]at e;cases e
 exact⟨t,a,(b.block g c).trans e⟩
theorem Zkn {H:Type} {enc:TypeId×Value->H} {P:Program} {w:Yh} {c:Nat} {B:Nat->Bool} {d:Bool} {a:Nat} {t e:TypeId} {n:Nat} {cs:List Value} {zs:List (List UInt8)} {p:List MemPlace}
  (v:P.underlying t=Ya (.array n e)) (r:P.underlying e=Ya .string) (j:P.cellsOf e=1) (k:P.cellsOf t=n)
  (h:DataW.trod enc P w c B d a t cs=Ya (ZjI zs,p)):cs=zs.map txt:=by
 cases a with
 |zero=>simp[DataW.trod]at h
 |succ a=>
  simp only[DataW.trod,v,j,k,Nat.mul_one]at h
  split at h
  ·rename_i C
   obtain⟨m,hm,hx⟩:=Option.map_eq_some_iff.1 h;have f:m.map (·.1)=zs.map fun z=>(DataW.lit (.string z):DataW H):=by have:=congrArg Prod.fst hx;simpa[ZjI]using this
   have y:m.length=n:=by simpa using Lib.mapM_length hm
   have A:zs.length=n:=by have:=congrArg List.length f;simp at this;omega
   apply List.ext_getElem?;intro i;by_cases u:i<n
   ·obtain⟨b,q,s⟩:=Lib.mapM_at hm i i (by simp[u]);obtain⟨z,hc,rfl,_⟩:=DataW.trod_string r s;have o:cs[i]? = Ya (.string z):=by have:=congrArg (·[0]?) hc;simpa[List.getElem?_take,List.getElem?_drop]using this
    have g:(m.map (·.1))[i]? = Ya (DataW.lit (.string z.data.toList):DataW H):=by simp[q]
    rw[f]at g;simp only[List.getElem?_map,Option.map_eq_some_iff,DataW.lit.injEq,Lit.string.injEq]at g;obtain⟨D,l,rfl⟩:=g;simp[o,l,txt]
   ·rw[List.getElem?_eq_none (by omega),List.getElem?_eq_none (by simp;omega)]
  ·cases h
theorem Ze1 {P:Program} {W:Yh} {b:String} {zs:List (List UInt8)} {rest:List (String×DataW Unit)} {g:Nat} {t e:TypeId} {n:Nat}
  (m:P.globalNamed b=Ya g) (k:(P.globals[g]?).map (·.type)=Ya t) (u:P.underlying t=Ya (.array n e)) (r:P.underlying e=Ya .string) (d:P.cellsOf e=1) (f:P.cellsOf t=n)
  (h:laidMet P ((b,ZjI zs)::rest) W):ZaI W g zs:=by
 obtain⟨z,⟨y,A,w,l,p,q,i,j,a,hd,_,_⟩,_⟩:=h;obtain rfl:=Option.some.inj (m.symm.trans i);obtain rfl:=Option.some.inj (k.symm.trans j);have hc:=Zkn u r d f hd;simp only[World.var?,m,Option.bind_some]at a
 split at a
 ·rename_i c v o s
  have a:=Option.some.inj a;subst a;exact⟨v,o,by rw[s,<-hc]⟩
 ·cases a
def ZG:List (List UInt8):=[[112,114,111,116,111],[115,116,97,116,101],[102,105,110,97,108],[111,112],[102,110],[108,101,97,115,116],[97,116],[116,111],[105,110],[108,101,116],[111,112,101,110],[101,108,115,101],[100,111],[115,112,108,105,116],[99,97,108,108],[105,102],[119,104,105,108,101],[114,101,116,117,114,110],[101,120,105,116],[117,110,105,113,117,101],[102,117,108,108],[115,104,97,114,101],[105,109,109],[112,117,114,101]]
theorem Tryz.gKeys:Tryz.prog.globalNamed "ballcock/lex.keywords"=Ya 3:=by kernel_rfl
theorem Tryz.gKeysType:(Tryz.prog.globals[3]?).map (·.type)=Ya 130:=by kernel_rfl
theorem Tryz.cellsS:Tryz.prog.cellsOf 9=1:=by kernel_rfl
end
end Go.Proofs.YtfbepcelkijgkaaGreatDoor
namespace Go.Proofs
open Go.Shelf
def Tryz.lays156_ren:Go.Shelf.Ren:=⟨fun|156=>89|165=>116|166=>117|169=>118|240=>130|241=>131|276=>138|277=>139|n=>n,fun|31=>33|9=>9|3=>3|4=>4|0=>0|20=>20|72=>123|76=>126|70=>121|37=>43|75=>125|127=>133|164=>141|5=>5|80=>93|n=>n,fun|n=>n⟩
theorem Tryz.lays156:Go.Proofs.Lays.n156 Tryz.prog Tryz.lays156_ren:={
 mixed:=by kernel_rfl
 f156:=Tryz.func89.trans (congrArg Ya (by kernel_rfl))
 f165:=Tryz.func116.trans (congrArg Ya (by kernel_rfl))
 f166:=Tryz.func117.trans (congrArg Ya (by kernel_rfl))
 f169:=Tryz.func118.trans (congrArg Ya (by kernel_rfl))
 f240:=Tryz.func130.trans (congrArg Ya (by kernel_rfl))
 f241:=Tryz.func131.trans (congrArg Ya (by kernel_rfl))
 f276:=Tryz.func138.trans (congrArg Ya (by kernel_rfl))
 f277:=Tryz.func139.trans (congrArg Ya (by kernel_rfl))
 t0:=Tryz.underlying0
 a0:=Tryz.isAgg0
 z0:=Tryz.sizeOf0
 v0:=Tryz.zeroValue0
 t3:=Tryz.underlying3
 a3:=Tryz.isAgg3
 z3:=Tryz.sizeOf3
 v3:=Tryz.zeroValue3
 t4:=Tryz.underlying4
 a4:=Tryz.isAgg4
 z4:=Tryz.sizeOf4
 v4:=Tryz.zeroValue4
 t9:=Tryz.underlying9
 a9:=Tryz.isAgg9
 z9:=Tryz.sizeOf9
 v9:=Tryz.zeroValue9
 t20:=Tryz.underlying20
 a20:=Tryz.isAgg20
 z20:=Tryz.sizeOf20
 v20:=Tryz.zeroValue20
 t31:=Tryz.underlying33
 a31:=Tryz.isAgg33
 z31:=Tryz.sizeOf33
 v31:=Tryz.zeroValue33
 t37:=Tryz.underlying43
 a37:=Tryz.isAgg43
 z37:=Tryz.sizeOf43
 v37:=Tryz.zeroValue43
 t70:=Tryz.underlying121
 a70:=Tryz.isAgg121
 z70:=Tryz.sizeOf121
 v70:=Tryz.zeroValue121
 t72:=Tryz.underlying123
 a72:=Tryz.isAgg123
 z72:=Tryz.sizeOf123
 v72:=Tryz.zeroValue123
 t75:=Tryz.underlying125
 a75:=Tryz.isAgg125
 z75:=Tryz.sizeOf125
 v75:=Tryz.zeroValue125
 t76:=Tryz.underlying126
 a76:=Tryz.isAgg126
 z76:=Tryz.sizeOf126
 v76:=Tryz.zeroValue126
 t127:=Tryz.underlying133
 a127:=Tryz.isAgg133
 z127:=Tryz.sizeOf133
 v127:=Tryz.zeroValue133
 t164:=Tryz.underlying141
 a164:=Tryz.isAgg141
 z164:=Tryz.sizeOf141
 v164:=Tryz.zeroValue141 }
theorem Tryz.Builder_Extra_156:Builder.Extra Tryz.prog Tryz.lays156_ren:={
 sizeBuilder:=by kernel_rfl
 liesBuilder:=by kernel_rfl
 t5:=Tryz.underlying5
 a5:=Tryz.isAgg5
 z5:=Tryz.sizeOf5
 v5:=Tryz.zeroValue5
 infoByte:=by kernel_rfl
 cellsByte:=by kernel_rfl
 sizeByte:=by kernel_rfl
 neB5:=by decide }
open Go.RowKit in
theorem Tryz.strings_Join (h o c:Nat) (d:List ByteArray) (b:ByteArray) (w:Yh) (a:∀(j:Nat) x,d[j]? = Ya x->w.cell? ⟨h,o+j,none⟩=Ya (.string x)) (i:h<w.heap.size) (k:d.length<=140737488355328) (f:d.length<=c) (g:(Lib.join (d.map (·.data.toList)) b.data.toList).length<=140737488355328) :
  Calls Tryz.prog 89 #[.slice (Ya ⟨h,o,none⟩) d.length c,.string b] w fun e w'=>e=.returned (.string ⟨(Lib.join (d.map (·.data.toList)) b.data.toList).toArray⟩)/\Below w.heap.size w w':=Any.strings_Join Tryz.lays156 Tryz.Builder_Extra_156 h o c d b w a i k f g
def Tryz.laysM176_ren:Go.Shelf.Ren:=⟨fun|176=>77|249=>102|288=>126|283=>134|284=>135|285=>136|286=>137|129=>142|317=>141|318=>143|319=>144|320=>145|337=>147|338=>148|n=>n,fun|37=>43|2=>2|3=>3|53=>112|4=>4|9=>9|171=>136|0=>0|173=>139|212=>146|51=>109|5=>5|20=>20|213=>147|46=>95|232=>150|233=>151|n=>n,fun|17=>4|18=>6|19=>7|n=>n⟩
theorem Tryz.laysM176:Go.Proofs.LaysM.n176 Tryz.prog Tryz.laysM176_ren:={
 mixed:=by kernel_rfl
 f129:=Tryz.func142.trans (congrArg Ya (by kernel_rfl))
 f176:=Tryz.func77.trans (congrArg Ya (by kernel_rfl))
 f249:=Tryz.func102.trans (congrArg Ya (by kernel_rfl))
 f283:=Tryz.func134.trans (congrArg Ya (by kernel_rfl))
 f284:=Tryz.func135.trans (congrArg Ya (by kernel_rfl))
 f285:=Tryz.func136.trans (congrArg Ya (by kernel_rfl))
 f286:=Tryz.func137.trans (congrArg Ya (by kernel_rfl))
 f288:=Tryz.func126.trans (congrArg Ya (by kernel_rfl))
 f317:=Tryz.func141.trans (congrArg Ya (by kernel_rfl))
 f318:=Tryz.func143.trans (congrArg Ya (by kernel_rfl))
 f319:=Tryz.func144.trans (congrArg Ya (by kernel_rfl))
 f320:=Tryz.func145.trans (congrArg Ya (by kernel_rfl))
 f337:=Tryz.func147.trans (congrArg Ya (by kernel_rfl))
 f338:=Tryz.func148.trans (congrArg Ya (by kernel_rfl))
 t0:=Tryz.underlying0
 a0:=Tryz.isAgg0
 z0:=Tryz.sizeOf0
 v0:=Tryz.zeroValue0
 t2:=Tryz.underlying2
 a2:=Tryz.isAgg2
 z2:=Tryz.sizeOf2
 v2:=Tryz.zeroValue2
 t3:=Tryz.underlying3
 a3:=Tryz.isAgg3
 z3:=Tryz.sizeOf3
 v3:=Tryz.zeroValue3
 t4:=Tryz.underlying4
 a4:=Tryz.isAgg4
 z4:=Tryz.sizeOf4
 v4:=Tryz.zeroValue4
 t5:=Tryz.underlying5
 a5:=Tryz.isAgg5
 z5:=Tryz.sizeOf5
 v5:=Tryz.zeroValue5
 t9:=Tryz.underlying9
 a9:=Tryz.isAgg9
 z9:=Tryz.sizeOf9
 v9:=Tryz.zeroValue9
 t20:=Tryz.underlying20
 a20:=Tryz.isAgg20
 z20:=Tryz.sizeOf20
 v20:=Tryz.zeroValue20
 t37:=Tryz.underlying43
 a37:=Tryz.isAgg43
 z37:=Tryz.sizeOf43
 v37:=Tryz.zeroValue43
 t46:=Tryz.underlying95
 a46:=Tryz.isAgg95
 z46:=Tryz.sizeOf95
 v46:=Tryz.zeroValue95
 t51:=Tryz.underlying109
 a51:=Tryz.isAgg109
 z51:=Tryz.sizeOf109
 v51:=Tryz.zeroValue109
 t53:=Tryz.underlying112
 a53:=Tryz.isAgg112
 z53:=Tryz.sizeOf112
 v53:=Tryz.zeroValue112
 t171:=Tryz.underlying136
 a171:=Tryz.isAgg136
 z171:=Tryz.sizeOf136
 v171:=Tryz.zeroValue136
 t173:=Tryz.underlying139
 a173:=Tryz.isAgg139
 z173:=Tryz.sizeOf139
 v173:=Tryz.zeroValue139
 t212:=Tryz.underlying146
 a212:=Tryz.isAgg146
 z212:=Tryz.sizeOf146
 v212:=Tryz.zeroValue146
 t213:=Tryz.underlying147
 a213:=Tryz.isAgg147
 z213:=Tryz.sizeOf147
 t232:=Tryz.underlying150
 a232:=Tryz.isAgg150
 z232:=Tryz.sizeOf150
 v232:=Tryz.zeroValue150
 t233:=Tryz.underlying151
 a233:=Tryz.isAgg151
 z233:=Tryz.sizeOf151
 v233:=Tryz.zeroValue151
 g17:=by kernel_rfl
 g18:=by kernel_rfl
 g19:=by kernel_rfl
 i0:=by kernel_rfl
 i2:=by kernel_rfl
 i3:=by kernel_rfl
 i4:=by kernel_rfl
 i5:=by kernel_rfl
 i9:=by kernel_rfl
 i20:=by kernel_rfl
 i37:=by kernel_rfl
 i46:=by kernel_rfl
 i51:=by kernel_rfl
 i53:=by kernel_rfl
 i171:=by kernel_rfl
 i173:=by kernel_rfl
 i212:=by kernel_rfl
 i232:=by kernel_rfl
 i233:=by kernel_rfl
 m17:=by kernel_rfl
 m18:=by kernel_rfl
 m19:=by kernel_rfl }
open Go.RowKit Go.Sort Go.Lib in
theorem Tryz.strconv_AppendInt_10 (B n:Nat) (i:Int) (j:-9223372036854775808<=i) (k:i<=9223372036854775807) (f:Value) (g:List Value) (w:Yh) (b:w.ownsRow B 5 1 f n g) (d:B<=w.heap.size) (a:n+21<=140737488355328) (c:Lib.TabBelow Tryz.prog B w "internal/strconv.uint64pow10" .u64 Lib.pow10Tab) :
  Calls Tryz.prog 77 #[f,Yd .i64 i,Yd .i64 10] w fun e w'=>∃h,e=.returned h/\w'.ownsRow B 5 1 h (n+(Lib.itoa i).length) (g++Lib.byteCells (Lib.itoa i))/\Below B w w'/\Lib.OthersKept 5 none w w':=Any.strconv_AppendInt_10 Tryz.laysM176 B n i j k f g w b d a c
def Tryz.lays212_ren:Go.Shelf.Ren:=⟨fun|212=>78|263=>103|264=>104|n=>n,fun|46=>95|51=>109|146=>110|53=>112|148=>113|n=>n,fun|n=>n⟩
theorem Tryz.lays212:Go.Proofs.Lays.n212 Tryz.prog Tryz.lays212_ren:={
 mixed:=by kernel_rfl
 f212:=Tryz.func78.trans (congrArg Ya (by kernel_rfl))
 f263:=Tryz.func103.trans (congrArg Ya (by kernel_rfl))
 f264:=Tryz.func104.trans (congrArg Ya (by kernel_rfl))
 t46:=Tryz.underlying95
 a46:=Tryz.isAgg95
 z46:=Tryz.sizeOf95
 v46:=Tryz.zeroValue95
 t51:=Tryz.underlying109
 a51:=Tryz.isAgg109
 z51:=Tryz.sizeOf109
 v51:=Tryz.zeroValue109
 t53:=Tryz.underlying112
 a53:=Tryz.isAgg112
 z53:=Tryz.sizeOf112
 v53:=Tryz.zeroValue112
 t146:=Tryz.underlying110
 a146:=Tryz.isAgg110
 z146:=Tryz.sizeOf110
 v146:=Tryz.zeroValue110
 t148:=Tryz.underlying113
 a148:=Tryz.isAgg113
 z148:=Tryz.sizeOf113
 v148:=Tryz.zeroValue113 }
open Go.RowKit Go.Lib in
theorem Tryz.bits_Mul (x y:Nat) (hx:x<18446744073709551616) (a:y<18446744073709551616) (w:Yh) :
  Calls Tryz.prog 78 #[.int .u64 x,.int .u64 y] w fun e w'=>e=.returned (.tuple #[.int .u64 ((x*y / 18446744073709551616:Nat):Int),.int .u64 ((x*y % 18446744073709551616:Nat):Int)])/\w'=w:=Any.bits_Mul Tryz.lays212 x y hx a w
end Go.Proofs
namespace Go.Proofs.YtfbepcelkijgkaaGreatDoor
section
open Go.RowKit
theorem ZoZ {s:ByteArray} {c:UInt8} {r:List UInt8} (h:s.data.toList=c::r):s.toList.isEmpty=false:=by rw[Lib.toList_data,h];rfl
theorem Zmo {s:ByteArray} {c:UInt8} {r:List UInt8} (h:s.data.toList=c::r) (a:0<s.size):s[0]=c:=by have:=byte_at a;rw[h]at this;simpa using this.symm
end
end Go.Proofs.YtfbepcelkijgkaaGreatDoor
