import Derived.Lib.ItoaLen
import Derived.Test.YtkongcicmajolaaGreatDoorQAQ
set_option maxRecDepth 100000
set_option maxHeartbeats 8000000
namespace Go.Proofs.YtkongcicmajolaaGreatDoor
section
open Go.RowKit
def szN (ns:List Nd):Nat->Nd->Nat
 | 0,_=>1
 | g+1,n=>1+(n.kids.map fun k=>szN ns g (Za ns k)).sum
theorem Zlw (ns:List Nd):∀ g n,1<=szN ns g n
 | 0,_=>Nat.le_refl _
 | g+1,n=>by rw [szN];omega
theorem ZpF (ns:List Nd):∀ g k,(Zd4 ns g k).length=szN ns g (Za ns k)
 | 0,k=>by rw [Zd4,szN];rfl
 | g+1,k=>by
  rw [Zd4,szN,List.length_cons,List.length_flatMap]
  have e:((Za ns k).kids.map fun a=>(Zd4 ns g a).length)=(Za ns k).kids.map fun k=>szN ns g (Za ns k):=List.map_congr_left fun a _=>ZpF ns g a
  rw [e]
  omega
theorem Zek:∀ (ks:List Int) (F G:Int->Nat) (C:Nat),(∀ k∈ks,F k<=C*G k)->(ks.map F).sum<=C*(ks.map G).sum
 | [],_,_,C,_=>by simp
 | k::r,F,G,C,h=>by
  have h1:=h k (by simp)
  have h2:=Zek r F G C fun x hx=>h x (by simp [hx])
  simp only [List.map_cons,List.sum_cons,Nat.mul_add]
  omega
theorem Zkl (ls:List Txt) (s c:Nat) (h:∀ x∈ls,x.length<=c):(ls.map fun x=>x.length+s).sum<=ls.length*(c+s):=by
 induction ls with
 | nil=>simp
 | cons x r ih=>
  have h1:=h x (by simp)
  have h2:=ih fun y hy=>h y (by simp [hy])
  simp only [List.map_cons,List.sum_cons,List.length_cons,Nat.add_mul]
  omega
theorem Zmy (d:Nat):(Zdi d).length=2*d:=by unfold Zdi;rw [List.length_replicate]
theorem ZjX (d:Nat) (ls:List Txt):(Zbq d ls).length=(ls.map fun x=>2*d+x.length+1).sum:=by
 unfold Zbq
 rw [List.length_flatten,List.map_map]
 congr 1
 refine List.map_congr_left fun x _=>?_
 simp only [Function.comp,List.length_append,Zmy,List.length_cons,List.length_nil]
theorem ZgR (d:Nat) (ls:List Txt):(ZI d ls).length<=(ls.map fun x=>2*(d+1)+x.length+1).sum+2*d+4:=by
 unfold ZI
 split
 ·simp
 ·simp only [List.length_append,ZjX,Zmy,List.length_cons,List.length_nil]
  omega
theorem Ze9 (s:Txt):∀ (ls:List Txt),(Zal s ls).length<=(ls.map fun x=>x.length+s.length).sum
 | []=>by simp [Zal]
 | [x]=>by simp [Zal]
 | x::y::r=>by
  have:=Ze9 s (y::r)
  rw [Zal]
  simp only [List.length_append,List.map_cons,List.sum_cons] at this ⊢
  omega
def WF (n:Nd):Prop:=(∀ w∈n.words,w.length<=16)/\n.words.length<=1000/\∀ x∈n.nums,ZaI x
theorem ZkX (k:Int):(Zax k).length<=6:=by unfold Zax;repeat' split<;>try decide
theorem ZqG (k:Int):(Zbi k).length<=4:=by unfold Zbi;repeat' split<;>try decide
theorem Zqc (k:Int):(Zc0 k).length<=4:=by unfold Zc0;repeat' split<;>try decide
theorem Zj1:∀ (l:List Txt),(∀ w∈l,w.length<=16)->(Za9 l).length<=l.length/\∀ x∈Za9 l,x.length<=33
 | [],_=>⟨by simp [Za9],fun x hx=>by simp [Za9] at hx⟩
 | [a],_=>⟨by simp [Za9],fun x hx=>by simp [Za9] at hx⟩
 | a::b::r,h=>by
  obtain ⟨i1,i2⟩:=Zj1 r fun w hw=>h w (by simp [hw])
  have ha:=h a (by simp)
  have hb:=h b (by simp)
  rw [Za9]
  refine ⟨by simp only [List.length_cons];omega,fun x hx=>?_⟩
  rcases List.mem_cons.1 hx with rfl | hx
  ·simp only [List.length_append,List.length_cons,List.length_nil];omega
  ·exact i2 x hx
section
variable {ns:List Nd} (hw:∀ k,WF (Za ns k))
include hw
end
end
section
open Go.RowKit
def WF2 (n:Nd):Prop:=(∀ w∈n.words,w.length<=16)/\n.words.length<=20000/\∀ x∈n.nums,ZaI x
theorem Zr3:WF2 nd0:=⟨(fun w hw=>nomatch hw),by decide,(fun w hw=>nomatch hw)⟩
theorem Zdb {n:Nd} (h:WF2 n) (k:Nat):(word n k).length<=16:=by
 unfold word
 cases e:n.words[k]? with
 | none=>simp
 | some w=>exact h.1 w (List.mem_of_getElem? e)
theorem Zif {n:Nd} (h:WF2 n) (k:Nat):(ZbP (num n k)).length<=21:=by
 have:ZaI (num n k):=by
  unfold num
  cases e:n.nums[k]? with
  | none=>exact ⟨by decide,by decide⟩
  | some x=>exact h.2.2 x (List.mem_of_getElem? e)
 unfold ZaI at this
 exact Lib.itoa_length_le _ (by omega) (by omega)
theorem ZnB {n:Nd} (h:WF2 n):(ZaT n).length<=340004:=by
 unfold ZaT
 have h1:=Zqc (num n 0)
 have h2:(Zal [124] n.words).length<=(n.words.map fun x:Txt=>x.length+1).sum:=Ze9 [124] n.words
 have h3:(n.words.map fun x:Txt=>x.length+1).sum<=n.words.length*(16+1):=Zkl n.words 1 16 h.1
 have:=h.2.1
 simp only [List.length_append]
 have:n.words.length*(16+1)<=340000:=by omega
 omega
theorem ZjR {n:Nd} (h:WF2 n) (i j:Nat):(Zdk (num n i) (num n j)).length<=43:=by
 unfold Zdk
 have h1:=Zif h i
 have h2:=Zif h j
 simp only [List.length_append,List.length_cons,List.length_nil]
 omega
theorem Zo9 {n:Nd} (h:WF2 n):(ZbZ n).length<=800000:=by
 have w0:=Zdb h 0
 have w1:=Zdb h 1
 obtain ⟨p1,p2⟩:=Zj1 (n.words.drop 2) fun w hw=>h.1 w (List.mem_of_mem_drop hw)
 have p3:(Zal [44,32] (Za9 (n.words.drop 2))).length<=((Za9 (n.words.drop 2)).map fun x:Txt=>x.length+2).sum:=Ze9 [44,32] (Za9 (n.words.drop 2))
 have p4:=Zkl _ 2 33 p2
 have:=h.2.1
 have p5:(Za9 (n.words.drop 2)).length<=20000:=by rw [List.length_drop] at p1;omega
 have p6:(Za9 (n.words.drop 2)).length*(33+2)<=700000:=by omega
 unfold ZbZ
 split
 ·simp only [List.length_append,List.length_cons,List.length_nil];omega
 ·split<;>simp only [List.length_append,List.length_cons,List.length_nil]<;>omega
section
variable {ns:List Nd} (hw:∀ k,WF2 (Za ns k))
include hw
theorem ZoO (ks:List Int) (g:Nat):(ks.map fun k=>(ZaT (Za ns k)).length).sum<=2000000*(ks.map fun k=>szN ns g (Za ns k)).sum:=
 Zek ks _ _ _ fun k _=>by
  have:=ZnB (hw k)
  have:=Zlw ns g (Za ns k)
  omega
theorem ZiP (ks:List Int) (g:Nat):((ks.map fun k=>ZaT (Za ns k)).flatten).length<=2000000*(ks.map fun k=>szN ns g (Za ns k)).sum:=by
 rw [List.length_flatten,List.map_map]
 exact ZoO hw ks g
theorem ZeF:∀ (f g:Nat) (n:Nd),WF2 n->ZP ns f n->f<=g->(Zx ns f n).length+100<=2000000*szN ns g n
 | 0,_,_,_,h,_=>h.elim
 | f+1,g,n,hn,h,hg=>by
  obtain ⟨g,rfl⟩:∃ g',g=g'+1:=⟨g-1,by omega⟩
  have op:∀ (m:Nd) (l:Nat),WF2 m->ZP ns f m->(if l<=Zu m then Zx ns f m else [40]++Zx ns f m++[41]).length+90<=2000000*szN ns g m:=fun m l hm hx=>by
   have:=ZeF f g m hm hx (by omega)
   split
   ·omega
   ·simp only [List.length_append,List.length_cons,List.length_nil];omega
  obtain ⟨_,⟨hk,_⟩ | ⟨hk,_⟩ | ⟨hk,k,hi,hkn,hv⟩ | ⟨hk,j,k,hi,hjn,hv,hi2,hkn,hv2⟩⟩:=h
  ·have e:Zx ns (f+1) n=ZbP (num n 0):=by simp [Zx,hk]
   have:=Zif hn 0
   rw [e,szN]
   omega
  ·have e:Zx ns (f+1) n=word n 0:=by simp [Zx,hk]
   have:=Zdb hn 0
   rw [e,szN]
   omega
  ·obtain ⟨r,hr⟩:∃ r,n.kids=(k:Int)::r:=by
    cases hks:n.kids with
    | nil=>rw [hks] at hi;simp at hi
    | cons a r=>rw [hks] at hi;simp at hi;exact ⟨r,by rw [hi]⟩
   have e:Zx ns (f+1) n=[45]++(if 3<=Zu (Za ns k) then Zx ns f (Za ns k) else [40]++Zx ns f (Za ns k)++[41]):=by
    have e0:Zw ns n 0=Za ns k:=by unfold Zw atI;rw [hr];rfl
    simp [Zx,hk,e0]
   have:=op _ 3 (hw k) hv
   rw [e,szN,hr]
   simp only [List.map_cons,List.sum_cons,List.length_append,List.length_cons,List.length_nil] at this ⊢
   omega
  ·obtain ⟨r,hr⟩:∃ r,n.kids=(j:Int)::(k:Int)::r:=by
    match hks:n.kids with
    | []=>rw [hks] at hi;simp at hi
    | [a]=>rw [hks] at hi2;simp at hi2
    | a::b::r=>rw [hks] at hi hi2;simp at hi hi2;exact ⟨r,by rw [hi,hi2]⟩
   have e:Zx ns (f+1) n=(if max (Zu n) 1<=Zu (Za ns j) then Zx ns f (Za ns j) else [40]++Zx ns f (Za ns j)++[41])++Zbi (num n 0)++(if Zu n+1<=Zu (Za ns k) then Zx ns f (Za ns k) else [40]++Zx ns f (Za ns k)++[41]):=by
    have e0:Zw ns n 0=Za ns j:=by unfold Zw atI;rw [hr];rfl
    have e1:Zw ns n 1=Za ns k:=by unfold Zw atI;rw [hr];rfl
    simp [Zx,hk,e0,e1]
   have h1:=op _ (max (Zu n) 1) (hw j) hv
   have h2:=op _ (Zu n+1) (hw k) hv2
   have h3:=ZqG (num n 0)
   rw [e,szN,hr]
   simp only [List.map_cons,List.sum_cons,List.length_append] at h1 h2 ⊢
   omega
theorem ZpW (f g:Nat) (n:Nd) (hn:WF2 n) (h:ZfE ns f n) (hg:f<=g):(Zcd ns f n).length+10<=2000000*szN ns g n:=by
 have:=Zdb hn 0
 have:=Zlw ns g n
 rcases h with ⟨hk,_⟩ | ⟨hk,hv⟩
 ·unfold Zcd
  rw [if_pos hk]
  simp only [List.length_append,List.length_cons,List.length_nil];omega
 ·unfold Zcd
  rw [if_neg hk]
  have:=ZeF hw f g n hn hv hg
  omega
theorem ZnH (g:Nat) (n:Nd) (hn:WF2 n):(ZbR ns n).length+10<=2000000*szN ns (g+1) n:=by
 have w0:=Zdb hn 0
 have w1:=Zdb hn 1
 have h1:=ZkX (num n 0)
 have h2:=ZjR hn 1 2
 have h3:=ZiP hw n.kids g
 unfold ZbR
 rw [szN]
 split
 ·simp only [List.length_append,List.length_nil];omega
 ·split<;>simp only [List.length_append,List.length_cons,List.length_nil]<;>omega
theorem ZiF (f g d:Nat) (P:Nd->Prop) (m:Nd) (hm:Zaa ns m.kids P) (hd:d<=3100) (h:∀ n,WF2 n->P n->(Zl ns f (d+1) n).length+2*(d+1)+10<=2000000*szN ns g n):(ZI d (m.kids.map fun k=>Zl ns f (d+1) (Za ns k))).length+40000<=2000000*szN ns (g+1) m:=by
 have h1:=ZgR d (m.kids.map fun k=>Zl ns f (d+1) (Za ns k))
 rw [List.map_map] at h1
 have h2:=Zek m.kids (fun k=>2*(d+1)+(Zl ns f (d+1) (Za ns k)).length+1) (fun k=>szN ns g (Za ns k)) 2000000 fun k hk=>by
  have:=h _ (hw k) (hm k hk).2.2
  omega
 have e:((fun x:Txt=>2*(d+1)+x.length+1) ∘ fun k=>Zl ns f (d+1) (Za ns k))=fun k=>2*(d+1)+(Zl ns f (d+1) (Za ns k)).length+1:=rfl
 rw [e] at h1
 rw [szN]
 omega
theorem Zkk:∀ (f g d:Nat) (n:Nd),WF2 n->Zbk ns f n->3*f<=g->d+2*f<=3100->(Zl ns f d n).length+2*d+10<=2000000*szN ns g n
 | 0,_,_,_,_,hk,_,_=>hk.elim
 | f+1,g,d,n,hn,hk,hg,hd=>by
  obtain ⟨g,rfl⟩:∃ g',g=g'+3:=⟨g-3,by omega⟩
  have blk:∀ (e h h2:Nat) (m:Nd),h2=h+1->g<=h->e<=d+1->Zck ns (fun x=>Zbk ns f x) m->(ZI e (m.kids.map fun k=>Zl ns f (e+1) (Za ns k))).length+40000<=2000000*szN ns h2 m:=fun e h h2 m e2 hh he hm=>by
   subst e2
   exact ZiF hw f h e _ m hm (by omega) fun n hn hs=>Zkk f h (e+1) n hn hs (by omega) (by omega)
  have w0:=Zdb hn 0
  have w1:=Zdb hn 1
  rw [Zbk] at hk
  rcases hk with ⟨hk,_,k,hks,hv⟩ | ⟨hk,_,⟨j,k,hks⟩,hok⟩ | ⟨hk,_,hok⟩ | ⟨hk,_,_,l,k,hks,hol,hok⟩ | ⟨hk,_,hok⟩ | ⟨hk,k,r,hks,hr,hv,hok⟩ | ⟨hk,j,k,hks,hv,hok⟩ | ⟨hk,k,hks,hv⟩ | hk
  ·have e0:Zw ns n 0=Za ns k:=by unfold Zw atI;rw [hks];rfl
   have h1:=ZeF hw f (g+2) _ (hw k) (hv k (by simp)).2.2 (by omega)
   rcases hk with hk | hk
   ·have e:Zl ns (f+1) d n=[108,101,116,32]++(word n 0++[32,61,32]++Zx ns f (Za ns k)++[59]):=by simp [Zl,hk,Zfa,e0]
    rw [e,szN,hks]
    simp only [List.map_cons,List.map_nil,List.sum_cons,List.sum_nil,List.length_append,List.length_cons,List.length_nil]
    omega
   ·have e:Zl ns (f+1) d n=(word n 0++[32,61,32]++Zx ns f (Za ns k)++[59]):=by simp [Zl,hk,Zfa,e0]
    rw [e,szN,hks]
    simp only [List.map_cons,List.map_nil,List.sum_cons,List.sum_nil,List.length_append,List.length_cons,List.length_nil]
    omega
  ·have e:Zl ns (f+1) d n=[111,112,101,110,32]++word n 0++[32]++word n 1++Zal [32,101,108,115,101] (n.kids.map fun k=>ZI d ((Za ns k).kids.map fun k=>Zl ns f (d+1) (Za ns k))):=by simp [Zl,hk]
   have h1:=Ze9 [32,101,108,115,101] (n.kids.map fun k=>ZI d ((Za ns k).kids.map fun k=>Zl ns f (d+1) (Za ns k)))
   rw [List.map_map] at h1
   have h2:=Zek n.kids (fun k=>(ZI d ((Za ns k).kids.map fun k=>Zl ns f (d+1) (Za ns k))).length+5) (fun k=>szN ns (g+2) (Za ns k)) 2000000 fun k hk=>by
    have:=blk d (g+1) (g+2) _ rfl (by omega) (by omega) (hok k hk).2.2
    omega
   have h3:(Zal [32,101,108,115,101] (n.kids.map fun k=>ZI d ((Za ns k).kids.map fun k=>Zl ns f (d+1) (Za ns k)))).length<=2000000*(n.kids.map fun k=>szN ns (g+2) (Za ns k)).sum:=Nat.le_trans h1 h2
   rw [e,szN]
   simp only [List.length_append,List.length_cons,List.length_nil]
   omega
  ·have e:Zl ns (f+1) d n=[100,111,32]++word n 0++[46]++word n 1++(if n.kids=[] then [59] else ZI d (n.kids.map fun k=>word (Za ns k) 0++ZI (d+1) ((Zw ns (Za ns k) 0).kids.map fun k=>Zl ns f (d+1+1) (Za ns k)))):=by simp [Zl,hk]
   have h1:=ZgR d (n.kids.map fun k=>word (Za ns k) 0++ZI (d+1) ((Zw ns (Za ns k) 0).kids.map fun k=>Zl ns f (d+1+1) (Za ns k)))
   rw [List.map_map] at h1
   have h2:=Zek n.kids (fun k=>2*(d+1)+(word (Za ns k) 0++ZI (d+1) ((Zw ns (Za ns k) 0).kids.map fun k=>Zl ns f (d+1+1) (Za ns k))).length+1) (fun k=>szN ns (g+2) (Za ns k)) 2000000 fun k hk=>by
    obtain ⟨_,k',hk',hb⟩:=(hok k hk).2.2
    have e0:Zw ns (Za ns k) 0=Za ns k':=by unfold Zw atI;rw [hk'];rfl
    rw [e0]
    have:=blk (d+1) g (g+1) _ rfl (by omega) (by omega) (hb k' (by simp)).2.2
    have:=Zdb (hw k) 0
    rw [szN,hk']
    simp only [List.map_cons,List.map_nil,List.sum_cons,List.sum_nil,List.length_append]
    omega
   have h3:(ZI d (n.kids.map fun k=>word (Za ns k) 0++ZI (d+1) ((Zw ns (Za ns k) 0).kids.map fun k=>Zl ns f (d+1+1) (Za ns k)))).length<=2000000*(n.kids.map fun k=>szN ns (g+2) (Za ns k)).sum+2*d+4:=Nat.le_trans h1 (by have:=h2;simp only [Function.comp_def];omega)
   rw [e,szN]
   split
   ·simp only [List.length_append,List.length_cons,List.length_nil];omega
   ·simp only [List.length_append,List.length_cons,List.length_nil];omega
  ·have e:Zl ns (f+1) d n=[115,112,108,105,116,32]++word n 0++[32,61,32]++word n 1++[32]++Zax (num n 0)++[32]++Zdk (num n 1) (num n 2)++((l).map fun k=>ZaT (Za ns k)).flatten++ZI d ((Za ns k).kids.map fun k=>Zl ns f (d+1) (Za ns k)):=by
    have e0:Zw ns n (n.kids.length-1)=Za ns k:=by
     unfold Zw atI
     rw [hks]
     simp
    have e1:n.kids.take (n.kids.length-1)=l:=by rw [hks];simp
    have e3:Zl ns (f+1) d n=[115,112,108,105,116,32]++word n 0++[32,61,32]++word n 1++[32]++Zax (num n 0)++[32]++Zdk (num n 1) (num n 2)++((n.kids.take (n.kids.length-1)).map fun k=>ZaT (Za ns k)).flatten++ZI d ((Zw ns n (n.kids.length-1)).kids.map fun k=>Zl ns f (d+1) (Za ns k)):=by simp [Zl,hk]
    rw [e3,e0,e1]
   have h1:=ZkX (num n 0)
   have h2:=ZjR hn 1 2
   have h3:=ZiP hw l (g+2)
   have h4:=blk d (g+1) (g+2) _ rfl (by omega) (by omega) (hok k (by simp)).2.2
   rw [e,szN,hks]
   simp only [List.map_append,List.sum_append,List.map_cons,List.map_nil,List.sum_cons,List.sum_nil,List.length_append,List.length_cons,List.length_nil] at h3 ⊢
   omega
  ·have e:Zl ns (f+1) d n=[99,97,108,108,32]++(if n.words.length=2 then word n 1++[32,61,32] else [])++word n 0++[40]++Zal [44,32] (n.kids.map fun k=>Zcd ns f (Za ns k))++[41,59]:=by simp [Zl,hk]
   have h1:=Ze9 [44,32] (n.kids.map fun k=>Zcd ns f (Za ns k))
   rw [List.map_map] at h1
   have h2:=Zek n.kids (fun k=>(Zcd ns f (Za ns k)).length+2) (fun k=>szN ns (g+2) (Za ns k)) 2000000 fun k hk=>by
    have:=ZpW hw f (g+2) _ (hw k) (hok k hk).2.2 (by omega)
    omega
   have h3:(Zal [44,32] (n.kids.map fun k=>Zcd ns f (Za ns k))).length<=2000000*(n.kids.map fun k=>szN ns (g+2) (Za ns k)).sum:=Nat.le_trans h1 h2
   rw [e,szN]
   split<;>simp only [List.length_append,List.length_cons,List.length_nil]<;>omega
  ·have e:Zl ns (f+1) d n=[105,102,32]++Zx ns f (Za ns k)++Zal [32,101,108,115,101] (r.map fun k=>ZI d ((Za ns k).kids.map fun k=>Zl ns f (d+1) (Za ns k))):=by
    have e0:Zw ns n 0=Za ns k:=by unfold Zw atI;rw [hks];rfl
    have e1:n.kids.drop 1=r:=by rw [hks];rfl
    have e3:Zl ns (f+1) d n=[105,102,32]++Zx ns f (Zw ns n 0)++Zal [32,101,108,115,101] ((n.kids.drop 1).map fun k=>ZI d ((Za ns k).kids.map fun k=>Zl ns f (d+1) (Za ns k))):=by simp [Zl,hk]
    rw [e3,e0,e1]
   have h0:=ZeF hw f (g+2) _ (hw k) (hv k (by simp)).2.2 (by omega)
   have h1:=Ze9 [32,101,108,115,101] (r.map fun k=>ZI d ((Za ns k).kids.map fun k=>Zl ns f (d+1) (Za ns k)))
   rw [List.map_map] at h1
   have h2:=Zek r (fun k=>(ZI d ((Za ns k).kids.map fun k=>Zl ns f (d+1) (Za ns k))).length+5) (fun k=>szN ns (g+2) (Za ns k)) 2000000 fun k hk=>by
    have:=blk d (g+1) (g+2) _ rfl (by omega) (by omega) (hok k hk).2.2
    omega
   have h3:(Zal [32,101,108,115,101] (r.map fun k=>ZI d ((Za ns k).kids.map fun k=>Zl ns f (d+1) (Za ns k)))).length<=2000000*(r.map fun k=>szN ns (g+2) (Za ns k)).sum:=Nat.le_trans h1 h2
   rw [e,szN,hks]
   simp only [List.map_cons,List.sum_cons,List.length_append,List.length_cons,List.length_nil]
   omega
  ·have e:Zl ns (f+1) d n=[119,104,105,108,101,32]++Zx ns f (Za ns j)++ZI d ((Za ns k).kids.map fun k=>Zl ns f (d+1) (Za ns k)):=by
    have e0:Zw ns n 0=Za ns j:=by unfold Zw atI;rw [hks];rfl
    have e1:Zw ns n 1=Za ns k:=by unfold Zw atI;rw [hks];rfl
    simp [Zl,hk,e0,e1]
   have h0:=ZeF hw f (g+2) _ (hw j) (hv j (by simp)).2.2 (by omega)
   have h4:=blk d (g+1) (g+2) _ rfl (by omega) (by omega) (hok k (by simp)).2.2
   rw [e,szN,hks]
   simp only [List.map_cons,List.map_nil,List.sum_cons,List.sum_nil,List.length_append,List.length_cons,List.length_nil]
   omega
  ·have e:Zl ns (f+1) d n=[114,101,116,117,114,110,32]++Zx ns f (Za ns k)++[59]:=by
    have e0:Zw ns n 0=Za ns k:=by unfold Zw atI;rw [hks];rfl
    simp [Zl,hk,e0]
   have h0:=ZeF hw f (g+2) _ (hw k) (hv k (by simp)).2.2 (by omega)
   rw [e,szN,hks]
   simp only [List.map_cons,List.map_nil,List.sum_cons,List.sum_nil,List.length_append,List.length_cons,List.length_nil]
   omega
  ·have e:Zl ns (f+1) d n=[101,120,105,116,59]:=by simp [Zl,hk]
   rw [e,szN]
   simp only [List.length_cons,List.length_nil]
   omega
theorem ZoL (f:Nat) (hf:f<=1500) (n:Nd) (hn:WF2 n) (h:Zfn ns f n):(Zcn ns f n).length+1<=2000000*szN ns (3*f+2) n:=by
 have w0:=Zdb hn 0
 rcases h with ⟨hk,_,hok⟩ | ⟨hk,_,l,k,hks,hol,hok⟩
 ·have h1:=ZgR 0 (n.kids.map fun k=>ZbZ (Za ns k))
  rw [List.map_map] at h1
  have h2:=Zek n.kids (fun k=>2*(0+1)+(ZbZ (Za ns k)).length+1) (fun k=>szN ns (3*f+1) (Za ns k)) 2000000 fun k hk=>by
   have:=Zo9 (hw k)
   have:=Zlw ns (3*f+1) (Za ns k)
   omega
  have h3:(ZI 0 (n.kids.map fun k=>ZbZ (Za ns k))).length<=2000000*(n.kids.map fun k=>szN ns (3*f+1) (Za ns k)).sum+4:=Nat.le_trans h1 (by have:=h2;simp only [Function.comp_def];omega)
  unfold Zcn
  rw [if_pos hk,szN]
  simp only [List.length_append,List.length_cons,List.length_nil]
  omega
 ·have e0:Zw ns n (n.kids.length-1)=Za ns k:=by
   unfold Zw atI
   rw [hks]
   simp
  have e1:n.kids.take (n.kids.length-1)=l:=by rw [hks];simp
  have h1:=Ze9 [44,32] (l.map fun k=>ZbR ns (Za ns k))
  rw [List.map_map] at h1
  have h2:=Zek l (fun k=>(ZbR ns (Za ns k)).length+2) (fun k=>szN ns (3*f+1) (Za ns k)) 2000000 fun k hk=>by
   have:=ZnH hw (3*f) _ (hw k)
   omega
  have h3:(Zal [44,32] (l.map fun k=>ZbR ns (Za ns k))).length<=2000000*(l.map fun k=>szN ns (3*f+1) (Za ns k)).sum:=Nat.le_trans h1 h2
  have h4:(ZI 0 ((Za ns k).kids.map fun k=>Zl ns f 1 (Za ns k))).length+40000<=2000000*szN ns (3*f+1) (Za ns k):=ZiF hw f (3*f) 0 _ (Za ns k) (hok k (by simp)).2.2 (by omega) fun n hn hs=>Zkk hw f (3*f) 1 n hn hs (by omega) (by omega)
  unfold Zcn
  rw [if_neg (by rw [hk];decide),e0,e1,szN,hks]
  simp only [List.map_append,List.sum_append,List.map_cons,List.map_nil,List.sum_cons,List.sum_nil,List.length_append,List.length_cons,List.length_nil] at h4 ⊢
  omega
end
theorem ZpL {ns:List Nd} (R:RightP ns) (hf:∀ d∈ns,d.words.length<=20000) (k:Int):WF2 (Za ns k):=by
 unfold Za
 cases e:ns[k.toNat]? with
 | none=>exact Zr3
 | some n=>
  obtain ⟨h1,h2,_⟩:=R.node _ n e
  exact ⟨fun w hw=>(Znx (List.all_eq_true.mp h1 w hw)).2,hf n (List.mem_of_getElem? e),fun x hx=>ZaR h2 hx⟩
theorem Zpv {ns:List Nd} (hf:∀ d∈ns,d.words.length<=20000):(ZbG ns).length<=7200000000:=by
 cases hr:Zcw ns
 ·unfold ZbG
  rw [hr]
  simp
 ·have R:=Zey hr
  have hw:=ZpL R hf
  cases hp:Zcg ns with
  | none=>rw [ZdT hp] at hr;cases hr
  | some p=>
   have L:=ZfL hp
   have h1:=ZmI L (3*ns.length+3) 0 R.some_
   rw [ZpF] at h1
   have e0:ZbG ns=Zbq 0 ((Za ns 0).kids.map fun k=>Zcn ns ns.length (Za ns k)):=by unfold ZbG;rw [hr];rfl
   rw [e0,ZjX,List.map_map]
   have h2:=Zek (Za ns 0).kids (fun k=>2*0+(Zcn ns ns.length (Za ns k)).length+1) (fun k=>szN ns (3*ns.length+2) (Za ns k)) 2000000 fun k hk=>by
    have:=ZoL hw ns.length R.len _ (hw k) (ZfJ R k hk).2.2
    omega
   have h3:szN ns (3*ns.length+3) (Za ns ((0:Nat):Int))=1+((Za ns ((0:Nat):Int)).kids.map fun k=>szN ns (3*ns.length+2) (Za ns k)).sum:=by rw [szN]
   rw [h3] at h1
   rw [show ((0:Nat):Int)=0 from rfl] at h1
   have:=R.len
   have h4:((fun x:Txt=>2*0+x.length+1) ∘ fun k=>Zcn ns ns.length (Za ns k))=fun k=>2*0+(Zcn ns ns.length (Za ns k)).length+1:=rfl
   rw [h4]
   omega
end
end Go.Proofs.YtkongcicmajolaaGreatDoor
