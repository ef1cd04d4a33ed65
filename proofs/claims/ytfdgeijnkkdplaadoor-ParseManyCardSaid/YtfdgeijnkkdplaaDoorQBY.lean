import Derived.Test.YtfdgeijnkkdplaaDoorQAI
import Derived.Test.YtfdgeijnkkdplaaDoorQAJ
import Derived.Test.YtfdgeijnkkdplaaDoorQBA
import Derived.Test.YtfdgeijnkkdplaaDoorQBW
import Derived.Test.YtfdgeijnkkdplaaDoorQBX
set_option maxRecDepth 100000
set_option maxHeartbeats 8000000
namespace Go.Proofs.YtfdgeijnkkdplaaDoor
section
section
variable {L:List Tok}
def isT (k:Nat) (w x:Txt):Bool:=decide (w=x)&&(decide (k=2)||decide (k=0)&&isKey x)
theorem ZaF {k:Nat} {t:Tok} {r:List Tok} (h:L.drop k=t::r):Zx L k=t/\L.drop (k+1)=r:=by
 refine ⟨?_,?_⟩
 ·have e:L[k]? = some t:=by
   have:=congrArg (fun l=>l[0]?) h
   simpa using this
  unfold Zx
  rw [e]
  rfl
 ·have:=congrArg (List.drop 1) h
  rw [List.drop_drop] at this
  simpa using this
theorem ZcR {s:PS} {t:Tok} {r:List Tok} (he:s.err=0) (h:L.drop s.at_=t::r):Zak L s=t:=by
 unfold Zak
 rw [if_neg (by simp [he])]
 exact (ZaF h).1
theorem Zcm {s:PS} {t:Tok} {r:List Tok} (x:Txt) (he:s.err=0) (h:L.drop s.at_=t::r):isM L x s=isT t.1 t.2.1 x:=by
 unfold isM isT
 rw [ZcR he h,decide_eq_true he,Bool.and_true]
theorem Zcy {s:PS} {t:Tok} {r:List Tok} {x:Txt} (he:s.err=0) (h:L.drop s.at_=t::r) (ht:isT t.1 t.2.1 x=true):Zd L x s=Zb s:=by
 unfold Zd
 rw [Zcm x he h,if_pos ht]
theorem ZeE {s:PS} {t:Tok} {r:List Tok} (he:s.err=0) (h:L.drop s.at_=t::r):ZaO L s=(decide (t.1=0)&&Zbn t.2.1):=by
 unfold ZaO
 rw [ZcR he h,decide_eq_true he,Bool.and_true]
theorem Zkx {s:PS} {t:Tok} {r:List Tok} (he:s.err=0) (h:L.drop s.at_=t::r) (ht:(decide (t.1=0)&&Zbn t.2.1)=true):Za L s=(t.2.1,Zb s):=by
 unfold Za
 rw [ZeE he h,if_pos ht,ZcR he h]
theorem ZhW {ex:PS->Tr×PS} {f p q:Nat} {s:PS} {r:List Tok} (he:s.err=0) (h:L.drop s.at_=(0,[101,120,105,116],p)::(2,[59],q)::r):Zh L ex (f+1) s=(.mk 19 [] [] (Zj L s) [],Zb (Zb s)):=by
 have e:∀ x,isM L x s=isT 0 [101,120,105,116] x:=fun x=>Zcm x he h
 have h2:L.drop (Zb s).at_=(2,[59],q)::r:=(ZaF h).2
 unfold Zh
 dsimp only
 rw [e,if_neg (show ¬ isT 0 [101,120,105,116] [108,101,116]=true by decide),ZeE he h,if_neg (show ¬ (decide ((0:Nat)=0)&&Zbn [101,120,105,116])=true by decide),
  e,if_neg (show ¬ isT 0 [101,120,105,116] [111,112,101,110]=true by decide),e,if_neg (show ¬ isT 0 [101,120,105,116] [100,111]=true by decide),
  e,if_neg (show ¬ isT 0 [101,120,105,116] [115,112,108,105,116]=true by decide),e,if_neg (show ¬ isT 0 [101,120,105,116] [99,97,108,108]=true by decide)]
 unfold ZbM
 rw [e,if_neg (show ¬ isT 0 [101,120,105,116] [105,102]=true by decide),e,if_neg (show ¬ isT 0 [101,120,105,116] [119,104,105,108,101]=true by decide),
  e,if_neg (show ¬ isT 0 [101,120,105,116] [114,101,116,117,114,110]=true by decide)]
 rw [Zcy he h (show isT 0 [101,120,105,116] [101,120,105,116]=true by decide),Zcy (s:=Zb s) he h2 (show isT 2 [59] [59]=true by decide)]
def ZhH (t:Tr):Prop:=∃ p,t=.mk 19 [] [] p []
def ZhI (b:Nat) (t:Tr):Prop:=∃ ws p q es,t=.mk 4 ws [] p [.mk 7 [] [] q es]/\es.length=b/\∀ e∈es,ZhH e
def goS (s:PS) (n:Nat):PS:={ s with at_:=s.at_+n }
theorem ZeB {ex:PS->Tr×PS} {f0 q:Nat} {r:List Tok}:∀ (b f p:Nat) (l:List Tr) (s:PS),b<f->s.err=0->L.drop s.at_=exK b p ((2,[125],q)::r)->∃ es,ZC L (Zh L ex (f0+1)) [125] f l s=(l++es,goS s (2*b+1))/\es.length=b/\∀ e∈es,ZhH e
 | 0,f+1,p,l,s,hf,he,h=>by
  refine ⟨[],?_,rfl,fun e he=>by cases he⟩
  unfold ZC
  rw [if_pos he,Zcm [125] he h,if_pos (show isT 2 [125] [125]=true by decide),List.append_nil]
  rfl
 | b+1,f+1,p,l,s,hf,he,h=>by
  have h':L.drop s.at_=(0,[101,120,105,116],p)::(2,[59],p+4)::exK b (p+5) ((2,[125],q)::r):=h
  have h2:L.drop (Zb (Zb s)).at_=exK b (p+5) ((2,[125],q)::r):=(ZaF (ZaF h').2).2
  obtain ⟨es,e1,e2,e3⟩:=ZeB (ex:=ex) (f0:=f0) b f (p+5) (l++[.mk 19 [] [] (Zj L s) []]) (Zb (Zb s)) (by omega) he h2
  refine ⟨.mk 19 [] [] (Zj L s) []::es,?_,by rw [List.length_cons,e2],fun e h=>?_⟩
  ·unfold ZC
   rw [if_pos he,Zcm [125] he h',if_neg (show ¬ isT 0 [101,120,105,116] [125]=true by decide),ZhW he h']
   dsimp only
   rw [e1,List.append_assoc]
   refine congrArg (Prod.mk _) ?_
   unfold goS Zb
   dsimp only
   rw [show s.at_+1+1+(2*b+1)=s.at_+(2*(b+1)+1) by omega]
  ·rcases List.mem_cons.1 h with rfl | h
   ·exact ⟨_,rfl⟩
   ·exact e3 e h
 | 0,0,_,_,_,hf,_,_=>by omega
 | b+1,0,_,_,_,hf,_,_=>by omega
theorem Zk7 {ex:PS->Tr×PS} {f0 b p:Nat} {r:List Tok} {s:PS} (hl:b<L.length+1) (he:s.err=0) (hd:s.deep=0) (h:L.drop s.at_=fnK b p r):ZhI b (fnM L ex (Zh L ex (f0+1)) s).1/\(fnM L ex (Zh L ex (f0+1)) s).2=goS s (6+2*b):=by
 have h0:L.drop s.at_=(0,[102,110],p)::(0,[102],p+3)::(2,[40],p+4)::(2,[41],p+5)::(2,[123],p+6)::exK b (p+7) ((2,[125],p+7+5*b)::r):=h
 have h1:L.drop (Zb s).at_=_:=(ZaF h0).2
 have h2:L.drop (Zb (Zb s)).at_=_:=(ZaF h1).2
 have h3:L.drop (Zb (Zb (Zb s))).at_=_:=(ZaF h2).2
 have h4:L.drop (Zb (Zb (Zb (Zb s)))).at_=_:=(ZaF h3).2
 have h5:L.drop (Zb (Zb (Zb (Zb (Zb s))))).at_=exK b (p+7) ((2,[125],p+7+5*b)::r):=(ZaF h4).2
 have c4:Zr L (ZP L) (L.length+1) true [] (Zb (Zb (Zb s)))=([],Zb (Zb (Zb (Zb s)))):=by
  unfold Zr
  rw [if_pos (show (Zb (Zb (Zb s))).err=0 from he),Zcm [41] (s:=Zb (Zb (Zb s))) he h3,if_pos (show isT 2 [41] [41]=true by decide)]
 have hin:inM L (Zb (Zb (Zb (Zb (Zb s)))))={ Zb (Zb (Zb (Zb (Zb s)))) with deep:=1 }:=by
  unfold inM
  have:(Zb (Zb (Zb (Zb (Zb s))))).deep=0:=hd
  rw [this,if_neg (by decide)]
  rfl
 obtain ⟨es,e1,e2,e3⟩:=ZeB (ex:=ex) (f0:=f0) b (L.length+1) (p+7) [] { Zb (Zb (Zb (Zb (Zb s)))) with deep:=1 } hl he h5
 have hb:Zm L (Zh L ex (f0+1)) (Zb (Zb (Zb (Zb s))))=(.mk 7 [] [] (Zj L (Zb (Zb (Zb (Zb s))))) es,goS s (6+2*b)):=by
  unfold Zm
  rw [Zcy (s:=Zb (Zb (Zb (Zb s)))) he h4 (show isT 2 [123] [123]=true by decide),hin,e1]
  refine congrArg (Prod.mk _) ?_
  unfold Zaq goS Zb
  dsimp only
  rw [hd,show s.at_+1+1+1+1+1+(2*b+1)=s.at_+(6+2*b) by omega]
  rfl
 have hf:fnM L ex (Zh L ex (f0+1)) s=(.mk 4 [[102]] [] (Zj L s) [.mk 7 [] [] (Zj L (Zb (Zb (Zb (Zb s))))) es],goS s (6+2*b)):=by
  unfold fnM
  dsimp only
  rw [Zcy he h0 (show isT 0 [102,110] [102,110]=true by decide),Zkx (s:=Zb s) he h1 (show (decide ((0:Nat)=0)&&Zbn [102])=true by decide)]
  dsimp only
  rw [Zcy (s:=Zb (Zb s)) he h2 (show isT 2 [40] [40]=true by decide),c4]
  dsimp only
  rw [hb]
  rfl
 rw [hf]
 exact ⟨⟨_,_,_,es,rfl,e2,e3⟩,rfl⟩
theorem Zhv {r:List Tok}:∀ (b p k:Nat),L.drop k=exK b p r->L.drop (k+2*b)=r
 | 0,_,k,h=>h
 | b+1,p,k,h=>by
  have h':L.drop k=(0,[101,120,105,116],p)::(2,[59],p+4)::exK b (p+5) r:=h
  have:=Zhv b (p+5) (k+1+1) (ZaF (ZaF h').2).2
  rw [show k+2*(b+1)=k+1+1+2*b by omega]
  exact this
theorem ZlP {r:List Tok} {b p k:Nat} (h:L.drop k=fnK b p r):L.drop (k+(6+2*b))=r:=by
 have h0:L.drop k=(0,[102,110],p)::(0,[102],p+3)::(2,[40],p+4)::(2,[41],p+5)::(2,[123],p+6)::exK b (p+7) ((2,[125],p+7+5*b)::r):=h
 have h1:=Zhv b (p+7) (k+1+1+1+1+1) (ZaF (ZaF (ZaF (ZaF (ZaF h0).2).2).2).2).2
 have h2:=(ZaF h1).2
 rw [show k+(6+2*b)=k+1+1+1+1+1+2*b+1 by omega]
 exact h2
theorem Zfi {ex:PS->Tr×PS} {f0 b:Nat} (hl:b<L.length+1):∀ (a g p:Nat) (l:List Tr) (s:PS),a<g->s.err=0->s.deep=0->L.drop s.at_=Za5 a b p->∃ ts,(Zae L ex (Zh L ex (f0+1)) g l s).1=l++ts/\(Zae L ex (Zh L ex (f0+1)) g l s).2.err=0/\ts.length=a/\∀ t∈ts,ZhI b t
 | 0,g+1,p,l,s,hg,he,hd,h=>by
  have h':L.drop s.at_=(3,[],p)::[]:=h
  refine ⟨[],?_⟩
  unfold Zae
  rw [ZcR he h',if_neg (by simp)]
  exact ⟨by simp,he,rfl,fun t ht=>by cases ht⟩
 | a+1,g+1,p,l,s,hg,he,hd,h=>by
  have h':L.drop s.at_=fnK b p (Za5 a b (p+8+5*b)):=h
  have h0:L.drop s.at_=(0,[102,110],p)::(0,[102],p+3)::(2,[40],p+4)::(2,[41],p+5)::(2,[123],p+6)::exK b (p+7) ((2,[125],p+7+5*b)::Za5 a b (p+8+5*b)):=h'
  obtain ⟨f1,f2⟩:=Zk7 (ex:=ex) (f0:=f0) hl he hd h'
  obtain ⟨ts,g1,g2,g3,g4⟩:=Zfi hl a g (p+8+5*b) (l++[(fnM L ex (Zh L ex (f0+1)) s).1]) (goS s (6+2*b)) (by omega) he hd (ZlP h')
  refine ⟨(fnM L ex (Zh L ex (f0+1)) s).1::ts,?_⟩
  unfold Zae
  rw [if_pos ⟨he,by rw [ZcR he h0];exact (by decide:(0:Nat)≠3)⟩,Zcm [112,114,111,116,111] he h0,if_neg (show ¬ isT 0 [102,110] [112,114,111,116,111]=true by decide),Zcm [102,110] he h0,if_pos (show isT 0 [102,110] [102,110]=true by decide)]
  dsimp only
  rw [f2]
  exact ⟨by rw [g1,List.append_assoc];rfl,g2,by rw [List.length_cons,g3],fun t ht=>by
   rcases List.mem_cons.1 ht with rfl | ht
   ·exact f1
   ·exact g4 t ht⟩
 | a,0,_,_,_,hg,_,_,_=>by omega
end
end
section
theorem Zmf:∀ (t:Tr) (out:List Nd) (n:Nat),n<out.length->(Zb6 t out)[n]? = out[n]?
 | .mk k ws us p ks,out,n,hn=>by
  rw [Zb6,ZbO,if_neg (by omega),Zev ks _ n (by simp;omega),List.getElem?_append_left hn]
theorem Zev:∀ (l:List Tr) (out:List Nd) (n:Nat),n<out.length->(Zaw l out).2[n]? = out[n]?
 | [],out,n,hn=>by rw [Zaw]
 | t::r,out,n,hn=>by
  rw [Zaw]
  dsimp only
  rw [Zev r (Zb6 t out) n (by rw [Zcs,Zcn];omega),Zmf t out n hn]
end
theorem ZmC (k:Int) (ws:List Txt) (us:List Int) (p:Int) (ks:List Tr) (out:List Nd):(Zb6 (.mk k ws us p ks) out)[out.length]? = some ⟨k,ws,us,(Zaw ks (out++[⟨k,ws,us,[],p⟩])).1,p⟩:=by
 rw [Zb6,ZbO,if_pos rfl,Zev ks _ out.length (by simp),List.getElem?_append_right (Nat.le_refl _),Nat.sub_self]
 rfl
section
variable {L:List Tok} {K:Nat}
end
end
section
theorem ZlG:∀ (es:List Tr),(∀ e∈es,ZhH e)->ZI es=es.length
 | [],_=>rfl
 | e::r,h=>by
  obtain ⟨p,rfl⟩:=h e (List.mem_cons_self ..)
  rw [ZI,szT,ZI,ZlG r (fun x hx=>h x (List.mem_cons_of_mem _ hx)),List.length_cons]
  omega
theorem Zkp {b:Nat}:∀ (ts:List Tr),(∀ t∈ts,ZhI b t)->ZI ts=ts.length*(2+b)
 | [],_=>by simp [ZI]
 | t::r,h=>by
  obtain ⟨ws,p,q,es,rfl,h2,h3⟩:=h t (List.mem_cons_self ..)
  rw [ZI,szT,ZI,szT,ZI,ZlG es h3,Zkp r (fun x hx=>h x (List.mem_cons_of_mem _ hx)),List.length_cons,h2,Nat.add_mul]
  omega
theorem Zkk (f:Int×Int) (a:Int) (ha:a<=24):∀ (es:List Tr),(∀ e∈es,ZhH e)->ZaW es a f=f
 | [],_=>by rw [ZaW]
 | e::r,h=>by
  obtain ⟨p,rfl⟩:=h e (List.mem_cons_self ..)
  rw [ZaW,Zci,ZaW,if_neg (by omega)]
  exact Zkk f a ha r (fun x hx=>h x (List.mem_cons_of_mem _ hx))
theorem Zko {b:Nat} (f:Int×Int):∀ (ts:List Tr),(∀ t∈ts,ZhI b t)->ZaW ts 2 f=f
 | [],_=>by rw [ZaW]
 | t::r,h=>by
  obtain ⟨ws,p,q,es,rfl,h2,h3⟩:=h t (List.mem_cons_self ..)
  rw [ZaW,Zci,if_neg (by omega),ZaW,Zci,if_neg (by omega),Zkk f _ (by decide) es h3,ZaW]
  exact Zko f r (fun x hx=>h x (List.mem_cons_of_mem _ hx))
theorem Zhw:∀ (b p:Nat) (r:List Tok),(exK b p r).length=2*b+r.length
 | 0,_,r=>by simp [exK]
 | b+1,p,r=>by rw [exK];simp only [List.length_cons,Zhw b];omega
theorem Zfg:∀ (a b p:Nat),(Za5 a b p).length=a*(6+2*b)+1
 | 0,_,_=>by simp [Za5]
 | a+1,b,p=>by
  rw [Za5,fnK]
  simp only [List.length_cons,Zhw,Zfg a b]
  rw [Nat.add_mul]
  omega
theorem Zih (a b:Nat) (h1:1<=a) (ha:a<=30) (hb:b<=29):(Zbd (ZaB a b)).2=(0,0)/\(Zbd (ZaB a b)).1.length=1+a*(2+b)/\((Zbd (ZaB a b)).1[0]?).map (·.kids.length)=some a:=by
 have hlen:a*(8+5*b)<=30*(8+5*29):=Nat.mul_le_mul ha (by omega)
 have hsz:a*(2+b)<=30*31:=Nat.mul_le_mul ha (by omega)
 have hres:Zb4 (ZaB a b)=(Za5 a b 0,0,0):=Zfu (by rw [Zc0];omega) (Zf8 a b 0)
 have hk:=Zfg a b 0
 have hk2:a*1<=a*(6+2*b):=Nat.mul_le_mul (Nat.le_refl _) (by omega)
 have hk3:1*(6+2*b)<=a*(6+2*b):=Nat.mul_le_mul h1 (Nat.le_refl _)
 obtain ⟨ts,g1,g2,g3,g4⟩:=Zfi (L:=Za5 a b 0) (ex:=exP (Za5 a b 0)) (f0:=199) (b:=b) (by omega) a ((Za5 a b 0).length+1) 0 [] s0P (by omega) rfl rfl rfl
 rw [List.nil_append] at g1
 have e1:(ZaK (Za5 a b 0)).1=ts:=g1
 have e2:(ZaK (Za5 a b 0)).2.err=0:=g2
 have eR:Zau (Za5 a b 0)=.mk 0 [] [] (Zj (Za5 a b 0) s0P) ts:=by show Tr.mk 0 [] [] (Zj (Za5 a b 0) s0P) (ZaK (Za5 a b 0)).1=_;rw [e1]
 have eL:(ZbS (Zau (Za5 a b 0)) []).length=1+a*(2+b):=by
  rw [Zcn,eR,szT,Zkp ts g4,g3]
  simp
  omega
 have eF:ZaN (Zau (Za5 a b 0))=(0,0):=by
  unfold ZaN
  rw [if_neg (by omega),eR,Zci,if_neg (by decide)]
  exact Zko (0,0) ts g4
 have eP:Zbd (ZaB a b)=(ZbS (Zau (Za5 a b 0)) [],0,0):=by
  unfold Zbd
  rw [hres]
  dsimp only
  rw [if_neg (by simp),if_neg (by simpa using e2),eF]
  rfl
 rw [eP]
 refine ⟨rfl,eL,?_⟩
 dsimp only
 rw [eR,<- Zcs]
 have:=ZmC 0 [] [] (Zj (Za5 a b 0) s0P) ts []
 rw [List.length_nil] at this
 rw [this]
 dsimp only [Option.map]
 rw [(ZcV _ _).2,g3]
end
end Go.Proofs.YtfdgeijnkkdplaaDoor
