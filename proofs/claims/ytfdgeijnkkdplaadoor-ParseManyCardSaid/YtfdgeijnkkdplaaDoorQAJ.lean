import Derived.Test.YtfdgeijnkkdplaaDoorQAB
set_option maxRecDepth 100000
set_option maxHeartbeats 8000000
namespace Go.Proofs.YtfdgeijnkkdplaaDoor
section
theorem Zku:∀ (m:Nat) (l:List UInt8) (a:Nat) (ts:List Tok),l.length<=m->Zat l a=.ok ts->ts≠[]:=by
 intro m l a ts _ h
 rw [Zat] at h
 split at h
 ·split at h
  ·intro e
   subst e
   revert h
   generalize Zat _ _=x
   intro h
   cases x<;>cases h
  ·cases h
 ·injection h with h
  subst h
  simp
end
section
theorem Zcq {c:UInt8} {r:List UInt8} {k n:Nat} (hb:ZcD c=false) (hc:(c==35)=false) (hf:ZY (c::r)=(k,n,true)) {a:Nat} {ts:List Tok} (h:Zat ((c::r).drop n) (a+n)=.ok ts):Zat (c::r) a=.ok ((k,(c::r).take n,a)::ts):=by
 have b0:Zt (c::r)=0:=by rw [Zt,if_neg (by simp [hb]),if_neg (by simp [hc])]
 rw [ZcO (c:=c) (r:=r) (by rw [b0];rfl) (by rw [hf]),hf,b0]
 dsimp only
 rw [Nat.add_zero,h]
 rfl
theorem ZkW {c:UInt8} {r:List UInt8} {k n:Nat} (hb:ZcD c=false) (hc:(c==35)=false) (hf:ZY (c::r)=(k,n,true)) {a:Nat} {ts:List Tok} (h:Zat ((c::r).drop n) (a+1+n)=.ok ts):Zat (32::c::r) a=.ok ((k,(c::r).take n,a+1)::ts):=by
 have b0:Zt (c::r)=0:=by rw [Zt,if_neg (by simp [hb]),if_neg (by simp [hc])]
 have b1:Zt (32::c::r)=1:=by rw [Zd7 (by decide),b0]
 rw [ZcO (c:=c) (r:=r) (by rw [b1];rfl) (by rw [hf]),hf,b1]
 dsimp only
 rw [h]
 rfl
def exB:Nat->List UInt8->List UInt8
 | 0,r=>r
 | b+1,r=>101::120::105::116::59::exB b r
def fnB (b:Nat) (r:List UInt8):List UInt8:=102::110::32::102::40::41::123::exB b (125::r)
def ZaB:Nat->Nat->List UInt8
 | 0,_=>[]
 | a+1,b=>fnB b (ZaB a b)
def exK:Nat->Nat->List Tok->List Tok
 | 0,_,r=>r
 | b+1,p,r=>(0,[101,120,105,116],p)::(2,[59],p+4)::exK b (p+5) r
def fnK (b p:Nat) (r:List Tok):List Tok:=(0,[102,110],p)::(0,[102],p+3)::(2,[40],p+4)::(2,[41],p+5)::(2,[123],p+6)::exK b (p+7) ((2,[125],p+7+5*b)::r)
def Za5:Nat->Nat->Nat->List Tok
 | 0,_,p=>[(3,[],p)]
 | a+1,b,p=>fnK b p (Za5 a b (p+8+5*b))
theorem Zkw {l:List UInt8} {ts:List Tok}:∀ (b p:Nat),Zat l (p+5*b)=.ok ts->Zat (exB b l) p=.ok (exK b p ts)
 | 0,p,h=>h
 | b+1,p,h=>by
  have h1:=Zkw b (p+5) (by rw [show p+5+5*b=p+5*(b+1) by omega];exact h)
  exact Zcq (n:=4) rfl rfl rfl (Zcq (n:=1) rfl rfl rfl h1)
theorem Zms {l:List UInt8} {ts:List Tok} (b p:Nat) (h:Zat l (p+8+5*b)=.ok ts):Zat (fnB b l) p=.ok (fnK b p ts):=by
 have h1:Zat (125::l) (p+7+5*b)=.ok ((2,[125],p+7+5*b)::ts):=Zcq (n:=1) rfl rfl rfl (by rw [show p+7+5*b+1=p+8+5*b by omega];exact h)
 have h2:=Zkw b (p+7) h1
 exact Zcq (n:=2) rfl rfl rfl (ZkW (n:=1) rfl rfl rfl (Zcq (n:=1) rfl rfl rfl (Zcq (n:=1) rfl rfl rfl (Zcq (n:=1) rfl rfl rfl h2))))
theorem Zf8:∀ (a b p:Nat),Zat (ZaB a b) p=.ok (Za5 a b p)
 | 0,_,p=>Zel p
 | a+1,b,p=>Zms b p (Zf8 a b (p+8+5*b))
theorem ZeV:∀ (b:Nat) (r:List UInt8),(exB b r).length=5*b+r.length
 | 0,r=>by simp [exB]
 | b+1,r=>by rw [exB];simp [ZeV b r];omega
theorem Zc0:∀ (a b:Nat),(ZaB a b).length=a*(8+5*b)
 | 0,b=>by simp [ZaB]
 | a+1,b=>by
  rw [ZaB,fnB]
  simp only [List.length_cons,ZeV,Zc0 a b]
  rw [Nat.add_mul]
  omega
end
end Go.Proofs.YtfdgeijnkkdplaaDoor
