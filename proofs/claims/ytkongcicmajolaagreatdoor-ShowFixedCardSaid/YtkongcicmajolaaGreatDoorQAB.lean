
set_option maxRecDepth 100000
set_option maxHeartbeats 8000000
namespace Go.Proofs.YtkongcicmajolaaGreatDoor
section
def Zga (n:Nat):Bool:=(decide (65<=n)&&decide (n<=90))||(decide (97<=n)&&decide (n<=122))||decide (n=95)
def Zfy (n:Nat):Bool:=decide (48<=n)&&decide (n<=57)
def ZbS (c:UInt8):Bool:=Zga c.toNat
def ZaU (c:UInt8):Bool:=Zfy c.toNat
def Za3 (c:UInt8):Bool:=Zga c.toNat||Zfy c.toNat
def ZdZ (c:UInt8):Bool:=c==32||c==9||c==10||c==13
def Zc9 (c:UInt8):Bool:=!(c==10)
def Zap (p:UInt8->Bool) (l:List UInt8):Nat:=(l.takeWhile p).length
theorem ZpB (p:UInt8->Bool):Zap p []=0:=rfl
theorem ZcH (p:UInt8->Bool) (c:UInt8) (r:List UInt8):Zap p (c::r)=if p c then Zap p r+1 else 0:=by
 unfold Zap
 rw [List.takeWhile_cons]
 split<;>simp
theorem Zfb (p:UInt8->Bool):∀ l:List UInt8,Zap p l<=l.length
 | []=>Nat.le_refl _
 | c::r=>by
  have:=Zfb p r
  rw [ZcH,List.length_cons]
  split<;>omega
theorem ZeE {l:List UInt8} {k:Nat} {c:UInt8} (h:l[k]? = some c):l.drop k=c::l.drop (k+1):=by
 obtain ⟨hk,rfl⟩:=List.getElem?_eq_some_iff.1 h
 exact List.drop_eq_getElem_cons hk
theorem ZdE {p:UInt8->Bool} {l:List UInt8} {k:Nat} {c:UInt8} (h:l[k]? = some c) (hp:p c=true):Zap p (l.drop k)=Zap p (l.drop (k+1))+1:=by
 rw [ZeE h,ZcH,if_pos hp]
theorem Zgi {p:UInt8->Bool} {l:List UInt8} {k:Nat} {c:UInt8} (h:l[k]? = some c) (hp:p c=false):Zap p (l.drop k)=0:=by
 rw [ZeE h,ZcH,if_neg (by simp [hp])]
theorem Zft {p:UInt8->Bool} {l:List UInt8} {k:Nat} (h:l.length<=k):Zap p (l.drop k)=0:=by
 rw [List.drop_eq_nil_of_le h]
 rfl
def ZO:List UInt8->Nat
 | []=>0
 | c::r=>if ZdZ c then ZO r+1 else if c==35 then 1+Zap Zc9 r+ZO (r.drop (Zap Zc9 r)) else 0
termination_by l=>l.length
decreasing_by all_goals (simp only [List.length_drop,List.length_cons];omega)
theorem ZlF:ZO []=0:=by rw [ZO]
theorem ZlD {c:UInt8} {r:List UInt8} (h:ZdZ c=true):ZO (c::r)=ZO r+1:=by
 rw [ZO,if_pos h]
theorem ZlE {r:List UInt8}:ZO (35::r)=1+Zap Zc9 r+ZO (r.drop (Zap Zc9 r)):=by
 rw [ZO,if_neg (by decide),if_pos (by decide)]
theorem ZgO {c:UInt8} {r:List UInt8} (h:ZdZ c=false) (h2:(c==35)=false):ZO (c::r)=0:=by
 rw [ZO,if_neg (by simp [h]),if_neg (by simp [h2])]
theorem ZfG (l:List UInt8):ZO l<=l.length:=by
 fun_induction ZO l with
 | case1=>exact Nat.le_refl _
 | case2 c r h ih=>rw [List.length_cons];omega
 | case3 c r h h2 ih=>rw [List.length_drop] at ih;have:=Zfb Zc9 r;rw [List.length_cons];omega
 | case4 c r h h2=>exact Nat.zero_le _
def Zls:List (List UInt8):=[[61,61],[45,62],[123],[125],[40],[41],[59],[44],[46],[58],[61],[60],[43],[45],[42],[47],[124],[38]]
def Zcc:List UInt8:=[123,125,40,41,59,44,46,58,61,60,43,45,42,47,124,38]
def ZfO (l:List UInt8):Option Nat:=(Zls.find? fun g=>g.isPrefixOf l).map (·.length)
def ZaJ:List UInt8->Nat×Nat×Bool
 | []=>(3,0,true)
 | c::r=>
  if ZbS c then (0,Zap Za3 (c::r),true)
  else if ZaU c then (1,Zap ZaU (c::r),decide (Zap ZaU (c::r)<=18))
  else match ZfO (c::r) with
   | some n=>(2,n,true)
   | none=>(0,0,false)
theorem ZbT (c:UInt8) (r:List UInt8):ZaJ (c::r)=if ZbS c then (0,Zap Za3 (c::r),true) else if ZaU c then (1,Zap ZaU (c::r),decide (Zap ZaU (c::r)<=18)) else match ZfO (c::r) with
   | some n=>(2,n,true)
   | none=>(0,0,false):=rfl
theorem Zpy:∀ g∈Zls,1<=g.length/\g.length<=2:=by decide
theorem Zpx {l:List UInt8} {n:Nat} (h:ZfO l=some n):1<=n/\n<=l.length:=by
 unfold ZfO at h
 obtain ⟨g,hg,rfl⟩:=Option.map_eq_some_iff.1 h
 refine ⟨(Zpy g (List.mem_of_find?_eq_some hg)).1,?_⟩
 have:=List.find?_some hg
 exact (List.isPrefixOf_iff_prefix.1 this).length_le
theorem Zk6 {c:UInt8} (h:ZbS c=true):Za3 c=true:=by unfold ZbS at h;unfold Za3;rw [h];rfl
theorem ZgY {c:UInt8} {r:List UInt8} (h:(ZaJ (c::r)).2.2=true):1<=(ZaJ (c::r)).2.1:=by
 rw [ZbT] at h ⊢
 split
 ·rename_i g
  show 1<=Zap Za3 (c::r)
  rw [ZcH,if_pos (Zk6 g)]
  omega
 ·split
  ·rename_i g
   show 1<=Zap ZaU (c::r)
   rw [ZcH,if_pos g]
   omega
  ·rename_i g1 g2
   rw [if_neg g1,if_neg g2] at h
   split
   ·rename_i n hn
    exact (Zpx hn).1
   ·rename_i hn
    rw [hn] at h
    cases h
abbrev Tok:=Nat×List UInt8×Nat
inductive LexAns where
 | bad (at_:Nat)
 | ok (l:List Tok)
def LexAns.push (t:Tok):LexAns->LexAns
 | .bad a=>.bad a
 | .ok l=>.ok (t::l)
def LexAns.pre (ts:List Tok):LexAns->LexAns
 | .bad a=>.bad a
 | .ok l=>.ok (ts++l)
theorem LexAns.pre_nil (x:LexAns):x.pre []=x:=by cases x<;>rfl
theorem LexAns.pre_push (ts:List Tok) (t:Tok) (x:LexAns):(x.push t).pre ts=x.pre (ts++[t]):=by
 cases x<;>simp [LexAns.pre,LexAns.push]
def Zbx (l:List UInt8) (a:Nat):LexAns:=
 if _h:ZO l<l.length then
  if _h2:(ZaJ (l.drop (ZO l))).2.2=true then
   (Zbx ((l.drop (ZO l)).drop (ZaJ (l.drop (ZO l))).2.1) (a+ZO l+(ZaJ (l.drop (ZO l))).2.1)).push ((ZaJ (l.drop (ZO l))).1,(l.drop (ZO l)).take (ZaJ (l.drop (ZO l))).2.1,a+ZO l)
  else .bad (a+ZO l)
 else .ok [(3,[],a+l.length)]
termination_by l.length
decreasing_by
 have e:1<=(ZaJ (l.drop (ZO l))).2.1:=by
  cases q:l.drop (ZO l) with
  | nil=>have:=List.length_drop (i:=ZO l) (l:=l);rw [q] at this;simp at this;omega
  | cons c r=>rw [q] at _h2;exact ZgY _h2
 rw [List.length_drop,List.length_drop]
 omega
theorem Zgc {l:List UInt8} {a:Nat} (h:ZO l=l.length):Zbx l a=.ok [(3,[],a+l.length)]:=by
 rw [Zbx,dif_neg (by omega)]
theorem Zg2 (a:Nat):Zbx [] a=.ok [(3,[],a)]:=by
 rw [Zgc (by rw [ZlF];rfl)]
 rfl
theorem Ze8 {l:List UInt8} {a:Nat} {c:UInt8} {r:List UInt8} (h:l.drop (ZO l)=c::r) (h2:(ZaJ (c::r)).2.2=true) :
  Zbx l a=(Zbx ((c::r).drop (ZaJ (c::r)).2.1) (a+ZO l+(ZaJ (c::r)).2.1)).push ((ZaJ (c::r)).1,(c::r).take (ZaJ (c::r)).2.1,a+ZO l):=by
 have hl:ZO l<l.length:=by
  have:=List.length_drop (i:=ZO l) (l:=l)
  rw [h,List.length_cons] at this
  omega
 rw [Zbx,dif_pos hl,h,dif_pos h2]
theorem Zgb {l:List UInt8} {a:Nat} {c:UInt8} {r:List UInt8} (h:l.drop (ZO l)=c::r) (h2:(ZaJ (c::r)).2.2=false):Zbx l a=.bad (a+ZO l):=by
 have hl:ZO l<l.length:=by
  have:=List.length_drop (i:=ZO l) (l:=l)
  rw [h,List.length_cons] at this
  omega
 rw [Zbx,dif_pos hl,h,dif_neg (by simp [h2])]
theorem ZjU {l m:List UInt8} {a k:Nat} (hd:l.drop k=m) (hk:k<=l.length) (hb:ZO l=k+ZO m):Zbx l a=Zbx m (a+k):=by
 have e:l.drop (ZO l)=m.drop (ZO m):=by rw [hb,<- hd,List.drop_drop]
 have hlen:m.length=l.length-k:=by rw [<- hd,List.length_drop]
 have le:=ZfG l
 cases q:m.drop (ZO m) with
 | nil=>
  have h1:ZO m=m.length:=by
   have:=List.length_drop (i:=ZO m) (l:=m)
   have:=ZfG m
   rw [q] at *
   simp at *
   omega
  rw [Zgc (l:=m) h1,Zgc (l:=l) (by omega)]
  congr 4
  omega
 | cons c r=>
  have q':l.drop (ZO l)=c::r:=e.trans q
  cases f:(ZaJ (c::r)).2.2 with
  | true=>
   rw [Ze8 q' f,Ze8 q f,hb]
   simp only [Nat.add_assoc]
  | false=>
   rw [Zgb q' f,Zgb q f,hb]
   simp only [Nat.add_assoc]
theorem Zk7 {c:UInt8} {r:List UInt8} {a:Nat} (h:ZdZ c=true):Zbx (c::r) a=Zbx r (a+1):=
 ZjU rfl (by simp) (by rw [ZlD h];omega)
theorem Zql {r:List UInt8} {a:Nat}:Zbx (35::r) a=Zbx (r.drop (Zap Zc9 r)) (a+(Zap Zc9 r+1)):=by
 refine ZjU (by rw [List.drop_succ_cons]) (by have:=Zfb Zc9 r;simp;omega) ?_
 rw [ZlE]
 omega
theorem ZoU {c:UInt8} {r:List UInt8} {a:Nat} (h:ZdZ c=false) (h35:(c==35)=false) (h2:(ZaJ (c::r)).2.2=true) :
  Zbx (c::r) a=(Zbx ((c::r).drop (ZaJ (c::r)).2.1) (a+(ZaJ (c::r)).2.1)).push ((ZaJ (c::r)).1,(c::r).take (ZaJ (c::r)).2.1,a):=by
 have e:=ZgO (r:=r) h h35
 have:=Ze8 (l:=c::r) (a:=a) (by rw [e];rfl) h2
 rw [e] at this
 simpa using this
theorem Znu {c:UInt8} {r:List UInt8} {a:Nat} (h:ZdZ c=false) (h35:(c==35)=false) (h2:(ZaJ (c::r)).2.2=false):Zbx (c::r) a=.bad a:=by
 have e:=ZgO (r:=r) h h35
 have:=Zgb (l:=c::r) (a:=a) (by rw [e];rfl) h2
 rw [e] at this
 simpa using this
theorem Zez (c:UInt8) (r:List UInt8):ZfO (c::r)=if (c=61/\r.head? = some 61)\/(c=45/\r.head? = some 62) then some 2 else if c∈Zcc then some 1 else none:=by
 have one:∀ x:UInt8,List.isPrefixOf [x] (c::r)=(x==c):=fun x=>by simp [List.isPrefixOf]
 have two:∀ x y:UInt8,List.isPrefixOf [x,y] (c::r)=(x==c&&r.head? == some y):=fun x y=>by
  cases r with
  | nil=>simp [List.isPrefixOf]
  | cons z r=>simp [List.isPrefixOf,Bool.beq_eq_decide_eq,eq_comm]
 unfold ZfO Zls
 simp only [List.find?_cons,one,two,List.find?_nil]
 by_cases h:(c=61/\r.head? = some 61)\/(c=45/\r.head? = some 62)
 ·rw [if_pos h]
  rcases h with ⟨rfl,h⟩ | ⟨rfl,h⟩<;>simp [h]
 ·rw [if_neg h]
  by_cases hm:c∈Zcc
  ·rw [if_pos hm]
   simp only [Zcc,List.mem_cons,List.not_mem_nil,or_false] at hm
   rcases hm with rfl | rfl | rfl | rfl | rfl | rfl | rfl | rfl | rfl | rfl | rfl | rfl | rfl | rfl | rfl | rfl<;>simp at h ⊢<;>rw [beq_eq_false_iff_ne.2 h]<;>simp
  ·rw [if_neg hm]
   simp only [Zcc,List.mem_cons,List.not_mem_nil,or_false,not_or] at hm
   have:∀ x:UInt8,¬ c=x->(x==c)=false:=fun x hx=>by simpa using fun e=>hx e.symm
   obtain ⟨g1,g2,g3,g4,g5,g6,g7,g8,g9,g10,g11,g12,g13,g14,g15,g16⟩:=hm
   simp [this _ g1,this _ g2,this _ g3,this _ g4,this _ g5,this _ g6,this _ g7,this _ g8,this _ g9,this _ g10,this _ g11,this _ g12,this _ g13,this _ g14,this _ g15,this _ g16]
end
section
theorem ZhO {p:UInt8->Bool} {c:UInt8} (h:p c=false) (b:List UInt8):∀ m:List UInt8,Zap p (m++c::b)=Zap p m
 | []=>by rw [List.nil_append,ZcH,if_neg (by simp [h]),ZpB]
 | d::r=>by rw [List.cons_append,ZcH,ZcH,ZhO h b r]
def LexAns.join (y:LexAns):LexAns->LexAns
 | .bad a=>.bad a
 | .ok l=>y.pre l.dropLast
end
section
theorem Znk {x:UInt8} (h1:Za3 x=false) (h2:ZaU x=false) (h3:x≠61) (h4:x≠62) (b:List UInt8) (c:UInt8) (r:List UInt8):ZaJ (c::r++x::b)=ZaJ (c::r):=by
 have e:c::r++x::b=c::(r++x::b):=rfl
 have s1:Zap Za3 (c::(r++x::b))=Zap Za3 (c::r):=by rw [<- e];exact ZhO h1 b (c::r)
 have s2:Zap ZaU (c::(r++x::b))=Zap ZaU (c::r):=by rw [<- e];exact ZhO h2 b (c::r)
 have s3:ZfO (c::(r++x::b))=ZfO (c::r):=by
  rw [Zez,Zez]
  cases r with
  | nil=>simp [h3,h4]
  | cons d r=>rfl
 rw [e,ZbT,ZbT,s1,s2,s3]
theorem Zn5 {c:UInt8} (r:List UInt8) (h1:c≠61) (h2:c≠45) (h3:c ∉ Zcc):ZfO (c::r)=none:=by
 rw [Zez,if_neg (by simp [h1,h2]),if_neg h3]
theorem ZoA {c:UInt8} (r:List UInt8) (h1:ZbS c=false) (h2:ZaU c=false) (h3:c ∉ Zcc) (h4:c≠61) (h5:c≠45):(ZaJ (c::r)).2.2=false:=by
 rw [ZbT,if_neg (by simp [h1]),if_neg (by simp [h2]),Zn5 r h4 h5 h3]
theorem ZkP {c:UInt8} {r:List UInt8} (h:(ZaJ (c::r)).2.2=true):ZdZ c=false/\(c==35)=false:=by
 have no:∀ d:UInt8,ZbS d=false->ZaU d=false->d ∉ Zcc->d≠61->d≠45->c≠d:=fun d a1 a2 a3 a4 a5 e=>by
  subst e
  rw [ZoA r a1 a2 a3 a4 a5] at h
  cases h
 have n1:=no 32 (by decide) (by decide) (by decide) (by decide) (by decide)
 have n2:=no 9 (by decide) (by decide) (by decide) (by decide) (by decide)
 have n3:=no 10 (by decide) (by decide) (by decide) (by decide) (by decide)
 have n4:=no 13 (by decide) (by decide) (by decide) (by decide) (by decide)
 have n5:=no 35 (by decide) (by decide) (by decide) (by decide) (by decide)
 refine ⟨?_,by simpa using n5⟩
 unfold ZdZ
 simp [n1,n2,n3,n4]
end
end Go.Proofs.YtkongcicmajolaaGreatDoor
